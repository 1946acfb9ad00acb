/- MonoOrders, the way where all is right. -/
import Derived.Test.YtkmjmmnnnbjghaaM
import Derived.ProofKit
import Derived.OpenShut
import Derived.ShutString
import Derived.ChangeOld
import Derived.Lib.SmallJoins
import Derived.Test.YtkmjmmnnnbjghaaI
import Derived.Test.YtkmjmmnnnbjghaaPE
import Derived.Deep.SlicePairs
import Derived.Test.YtkmjmmnnnbjghaaYB
import Derived.Test.YtkmjmmnnnbjghaaWR
namespace Go.Proofs.Ytkmjmmnnnbjghaa
set_option linter.unusedSimpArgs false
set_option linter.unusedVariables false
open Go.RowKit

theorem ordA_ok {p n o v : Int} {xs ys : List Int} (h : errAll p n o v [xs, ys] = 0) : ordA p n o v xs ys = ordS o xs ys := by unfold ordA; rw [if_pos h]

theorem Sl.made (w : World) (n : Nat) (T : TypeId) : Sl (w.alloc (.cells (madeCells #[.int .i64 0] n) T)) (.slice (some ⟨w.heap.size, 0, none⟩) n n) (List.replicate n 0) := by
  refine ⟨some ⟨w.heap.size, 0, none⟩, n, by simp, fun _ => ⟨_, _, rfl, by simp, fun i hi => ?_⟩⟩
  simp at hi
  simp [madeCells, hi, Nat.mod_one]
theorem errM_zero (n : Nat) : errM n (List.replicate n 0) = 0 := by
  refine errM_mk (by simp) (fun x hx => ?_) (by rw [sumI_rep]; omega)
  rw [List.eq_of_mem_replicate hx]; omega

set_option maxRecDepth 100000 in
set_option maxHeartbeats 1000000 in
theorem monoOrders_good (p n o v : Int) (x y z : Value) (xs ys zs : List Int) (w : World) (hs : Sl w x xs) (hs2 : Sl w y ys) (hs3 : Sl w z zs)
    (hR : errR p n o v = 0) (hx : errM n xs = 0) (hy : errM n ys = 0) (hz : errM n zs = 0) :
    Calls Try.prog 7 #[ringV p n o v, x, y, z] w fun e w' => e = .returned (.bool true) ∧ Below w.heap.size w w' := by
  have HS := hid hs
  have HS2 := hid hs2
  have HS3 := hid hs3
  obtain ⟨a1, cap1, rfl, _⟩ := hs
  obtain ⟨a2, cap2, rfl, _⟩ := hs2
  obtain ⟨a3, cap3, rfl, _⟩ := hs3
  have E1 := hid (errAll_mk hR hx hy)
  have E2 := hid (errAll_mk hR hy hx)
  have E3 := hid (errAll_mk hR hy hz)
  have E4 := hid (errAll_mk hR hx hz)
  obtain ⟨_, hn1, hn2, ho, _⟩ := ring_ok hR
  obtain ⟨hlx, hbx, _⟩ := errM_ok hx
  subst hlx
  obtain ⟨hly, hby, _⟩ := errM_ok hy
  obtain ⟨hlz, hbz, _⟩ := errM_ok hz
  have HXB := hid hbx
  have hmx : xs.length ≤ 3 := by omega
  have HRM := hid (And.intro hR (And.intro hx (And.intro hy hz)))
  have HL := hid (And.intro hly hlz)
  have hneg := ordS_neg o xs ys
  have hzero := ordS_zero o xs ys (by omega)
  have htr := ordS_trans o xs ys zs (by omega) (by omega)
  have hA := ordS_bd o xs ys
  have hB := ordS_bd o ys xs
  have HSM : Hid (sameB xs ys = decide (ordS o xs ys = 0)) := by
    show decide (xs = ys) = _; exact (decide_eq_decide.2 hzero).symm
  have hAdd := hid (ordS_add o xs ys zs (by omega) (by omega))
  clear hR hx hy hz hly hlz hbx hby hbz hzero
  have H9 : Hid (ordA p xs.length o v xs ys = ordS o xs ys ∧ ordA p xs.length o v ys xs = ordS o ys xs ∧ ordA p xs.length o v ys zs = ordS o ys zs ∧ ordA p xs.length o v xs zs = ordS o xs zs) := ⟨ordA_ok E1.out, ordA_ok E2.out, ordA_ok E3.out, ordA_ok E4.out⟩
  generalize ordS o xs ys = A at hneg htr hA HSM hAdd H9
  generalize ordS o ys xs = B at hneg hB H9
  generalize ordS o ys zs = C at htr H9
  generalize ordS o xs zs = D at htr H9
  obtain ⟨hA1, hA2⟩ := hA
  obtain ⟨hB1, hB2⟩ := hB
  have hAB : (A != -B) = false := by simp; omega
  have hcase : (A ≤ 0) ∨ (0 < A ∧ C ≤ 0) ∨ (0 < A ∧ 0 < C ∧ 0 < D) := by
    by_cases h1 : 0 < A
    · by_cases h2 : 0 < C
      · exact Or.inr (Or.inr ⟨h1, h2, htr h1 h2⟩)
      · exact Or.inr (Or.inl ⟨h1, by omega⟩)
    · exact Or.inl (by omega)
  have HCASE := hid hcase
  clear hneg htr hcase
  go_enter Try.func7, Try.ntmps7
  go_wp2_with fail
  refine (monoBegun_any _).mono ?_
  rintro e w1 ⟨rfl, hb1⟩
  have mid : Mid w w1 _ _ _ xs ys zs p xs.length o v := Mid.mk (below_one.trans (hb1.mono (by simp))) ((BoxAt.new w p xs.length o v _).below hb1) (HS.out.below (below_one.trans (hb1.mono (by simp)))) (HS2.out.below (below_one.trans (hb1.mono (by simp)))) (HS3.out.below (below_one.trans (hb1.mono (by simp))))
  have MID := hid mid
  obtain ⟨c, c0, c1, c2, c3⟩ := mid.box
  clear hb1 mid
  go_wp2_with fail
  refine (order_any p xs.length o v _ _ xs ys _ MID.out.sx MID.out.sy).mono ?_
  rintro e w2 ⟨rfl, hb⟩
  have MID2 := hid (MID.out.next hb)
  clear MID c c0 c1 c2 c3 hb
  obtain ⟨c, c0, c1, c2, c3⟩ := MID2.out.box
  rw [E1.out, H9.out.1]
  go_wp2_with fail
  refine (order_any p xs.length o v _ _ ys xs _ MID2.out.sy MID2.out.sx).mono ?_
  rintro e w3 ⟨rfl, hb⟩
  have MID3 := hid (MID2.out.next hb)
  clear MID2 c c0 c1 c2 c3 hb
  obtain ⟨c, c0, c1, c2, c3⟩ := MID3.out.box
  rw [E2.out, H9.out.2.1]
  go_wp2_with fail
  refine (order_any p xs.length o v _ _ ys zs _ MID3.out.sy MID3.out.sz).mono ?_
  rintro e w4 ⟨rfl, hb⟩
  have MID4 := hid (MID3.out.next hb)
  clear MID3 c c0 c1 c2 c3 hb
  obtain ⟨c, c0, c1, c2, c3⟩ := MID4.out.box
  rw [E3.out, H9.out.2.2.1]
  go_wp2_with fail
  refine (order_any p xs.length o v _ _ xs zs _ MID4.out.sx MID4.out.sz).mono ?_
  rintro e w5 ⟨rfl, hb⟩
  have MID5 := hid (MID4.out.next hb)
  clear MID4 c c0 c1 c2 c3 hb
  obtain ⟨c, c0, c1, c2, c3⟩ := MID5.out.box
  rw [E4.out, H9.out.2.2.2]
  go_upto_region 9 with fail
  go_cut [89] (fun s89 wc => s89 = .bool false ∧ Mid w wc (.slice a1 xs.length cap1) (.slice a2 ys.length cap2) (.slice a3 zs.length cap3) xs ys zs p xs.length o v)
  case first =>
    have hsame : (A == 0) = decide (A = 0) := rfl
    rcases HCASE.out with k1 | ⟨k1, k2⟩ | ⟨k1, k2, k3⟩
    all_goals
      go_wp2_with fail
      refine (sameInts_any _ _ xs ys _ hmx MID5.out.sx MID5.out.sy).mono ?_
      rintro e w6 ⟨rfl, hd6⟩
      rw [HSM.out]
      have MID6 := hid (MID5.out.next (below_ndraws (Below.refl _ _) hd6))
      clear MID5 c c0 c1 c2 c3 hd6
      go_wp2_with fail
      go_meet
      case rel => exact ⟨by first | rfl | (congr 1; simp; omega), MID6.out⟩
  case rest =>
  obtain ⟨rfl, hmid⟩ := hcut
  have MID6 := hid hmid
  clear MID5 c c0 c1 c2 c3 hmid HCASE
  obtain ⟨c, c0, c1, c2, c3⟩ := MID6.out.box
  have hE5 := errAll_mk HRM.out.1 HRM.out.2.1 (errM_zero xs.length)
  have hF1 := ordS_one o xs HXB.out
  have hF2 := ordA_ok hE5
  rw [← hF2] at hF1
  have HE5 := hid hE5
  clear hE5 hF2
  have HF := hid hF1
  clear hF1
  go_upto_region 11 with fail
  go_cut [17, 18] (fun s17 s18 wc => (∃ F : Int, s17 = .int .i64 F ∧ 0 ≤ F) ∧ s18 = .int .i64 0 ∧ Mid w wc (.slice a1 xs.length cap1) (.slice a2 ys.length cap2) (.slice a3 zs.length cap3) xs ys zs p xs.length o v)
  case first =>
    have hmk := fun (w : World) => run_make_row' (P := Try.prog) 36 3 (.int .i64 0) 8 Try.underlying36 Try.info_int rfl .i64 .i64 xs.length (by omega) (by omega) w
    go_region_with (go_at_call 25; refine (order_any p xs.length o v _ _ xs (List.replicate xs.length 0) _ ?_ ?_).mono ?_; exact MID6.out.sx.below (below_one.drew); exact Sl.made _ _ _; rintro e w7 ⟨rfl, hb7⟩; rw [HE5.out])
    all_goals
      have MID7 := hid (MID6.out.next ((below_one.drew).trans (hb7.mono (by simp))))
      clear hb7
      go_wp2_with fail
      go_meet
      case rel => exact ⟨⟨_, rfl, HF.out⟩, rfl, MID7.out⟩
  case rest =>
  obtain ⟨⟨F, rfl, hF⟩, rfl, hmid⟩ := hcut
  have MID7 := hid hmid
  clear MID6 c c0 c1 c2 c3 hmid HF HE5
  obtain ⟨c, c0, c1, c2, c3⟩ := MID7.out.box
  go_wp2_with fail
  refine (monoTimes_any p xs.length o v _ _ xs zs _ MID7.out.sx MID7.out.sz).mono ?_
  rintro e w8 ⟨u1, rfl, hu1, hb8⟩
  have MID8 := hid (MID7.out.next hb8)
  have HU1 := hid hu1
  obtain ⟨ua1, ucap1, rfl, _⟩ := hu1
  clear MID7 c c0 c1 c2 c3 hb8
  obtain ⟨c, c0, c1, c2, c3⟩ := MID8.out.box
  go_wp2_with fail
  refine (monoTimes_any p xs.length o v _ _ ys zs _ MID8.out.sy MID8.out.sz).mono ?_
  rintro e w9 ⟨u2, rfl, hu2, hb9⟩
  have MID9 := hid (MID8.out.next hb9)
  have HU1 := hid (HU1.out.below hb9)
  have HU2 := hid hu2
  obtain ⟨ua2, ucap2, rfl, _⟩ := hu2
  clear MID8 c c0 c1 c2 c3 hb9
  obtain ⟨c, c0, c1, c2, c3⟩ := MID9.out.box
  cases hq1 : (tgE (· + ·) p xs.length o v xs zs != 0)
  · have hq1' : tgE (· + ·) p xs.length o v xs zs = 0 := by simpa using hq1
    rw [hq1']
    obtain ⟨_, hq1s, hq1r⟩ := tg_ok hq1'
    cases hq2 : (tgE (· + ·) p xs.length o v ys zs != 0)
    · have hq2' : tgE (· + ·) p xs.length o v ys zs = 0 := by simpa using hq2
      rw [hq2']
      obtain ⟨_, hq2s, hq2r⟩ := tg_ok hq2'
      obtain ⟨hlx, hbx, _⟩ := errM_ok HRM.out.2.1
      obtain ⟨hly, hby, _⟩ := errM_ok HRM.out.2.2.1
      obtain ⟨hlz, hbz, _⟩ := errM_ok HRM.out.2.2.2
      have g : ∀ x y : Int, 0 ≤ x ∧ x ≤ 200 → 0 ≤ y ∧ y ≤ 200 → 0 ≤ x + y ∧ x + y ≤ 400 := fun x y h1 h2 => by omega
      have m1 : errM xs.length (zipI (· + ·) xs zs) = 0 := errM_mk (by rw [zipI_len _ _ _ (by omega)]) (zipI_mem g hbx hbz) hq1s
      have m2 : errM xs.length (zipI (· + ·) ys zs) = 0 := errM_mk (by rw [zipI_len _ _ _ (by omega)]; omega) (zipI_mem g hby hbz) hq2s
      have HE6 := hid (errAll_mk HRM.out.1 m1 m2)
      have HA6 := hid (ordA_ok HE6.out)
      rw [hq1r] at HU1
      rw [hq2r] at HU2
      rw [hq1r, hq2r]
      clear hq1 hq1' hq1s hq1r hq2 hq2' hq2s hq2r hlx hbx hly hby hlz hbz g m1 m2
      go_wp2_with fail
      refine (order_any p xs.length o v _ _ (zipI (· + ·) xs zs) (zipI (· + ·) ys zs) _ HU1.out HU2.out).mono ?_
      rintro e w10 ⟨rfl, hb10⟩
      rw [HE6.out, HA6.out, hAdd.out]
      go_wp2
      go_ret
      exact ⟨by simp, MID9.out.below.trans (hb10.mono MID9.out.below.size)⟩
    · clear hq1 hq1' hq1s hq1r
      go_wp2
      go_ret
      exact ⟨rfl, MID9.out.below⟩
  · go_wp2
    go_ret
    exact ⟨rfl, MID9.out.below⟩

end Go.Proofs.Ytkmjmmnnnbjghaa

/- The frame of the rows: what comes in, as slices and rings. -/
namespace Go.Proofs.Ytkmjmmnnnbjghaa
set_option linter.unusedSimpArgs false
set_option linter.unusedVariables false
open Go.ChangeShapes Go.WideShapes Go.ChangeAt Go.RowKit Go.Joins

theorem Try.own : ownKnob Try.prog.godebug = none := by kernel_rfl
theorem Try.laidOut : laidOutB Try.prog = true := by kernel_rfl
theorem Try.cellsInt : Try.prog.cellsOf 3 = 1 := by kernel_rfl
theorem Try.cellsRing : Try.prog.cellsOf 39 = 4 := by kernel_rfl

theorem cell_lt {w : World} {a : Addr} {v : Value} (h : w.cell? a = some v) : a.block < w.heap.size := by
  unfold World.cell? at h
  apply Nat.lt_of_not_le
  intro hn
  rw [Array.getElem?_eq_none hn] at h
  simp at h

/-- A slice of integers that came in. -/
theorem sl_of {H : Type} {enc : TypeId × Value → H} {W : World} {a : Option Addr} {len cap : Nat} {d : DataW H} {p : List MemPlace}
    (h : DataW.Trod enc Try.prog W 0 (fun _ => true) true 36 (.slice a len cap) d p) : ∃ xs : List Int, Sl W (.slice a len cap) xs := by
  obtain ⟨fuel, hf⟩ := h
  rcases open_ints Try.underlying36 Try.underlying3 Try.cellsInt hf with ⟨hcs, _⟩ | ⟨x, l, c, zs, hcs, _, hl, hm, hz, _, hcell, hwz⟩
  · simp [Value.cells] at hcs
    obtain ⟨rfl, rfl, rfl⟩ := hcs
    exact ⟨[], none, 0, rfl, fun h => absurd h (by simp)⟩
  · simp [Value.cells] at hcs
    obtain ⟨rfl, rfl, rfl⟩ := hcs
    simp at hz
    have hlen : (zs.take len).length = len := by rw [List.length_take]; omega
    refine ⟨zs.take len, some x, cap, by rw [hlen], fun hp => ?_⟩
    rw [hlen] at hp
    obtain ⟨b, off, spot⟩ := x
    have hc := hcell 0 (by omega)
    have hspot : spot = none := by simpa [Addr.add] using World.cell?_spot hc
    subst hspot
    refine ⟨b, off, rfl, ?_, fun i hi => ?_⟩
    · exact cell_lt hc
    · rw [hlen] at hi
      have := hcell i (by omega)
      have e : (zs.take len).getD i 0 = zs.getD i 0 := by
        simp [List.getD_eq_getElem?_getD, List.getElem?_take, hi]
      rw [e]
      by_cases h0 : i = 0
      · subst h0; simpa [Addr.add] using this
      · simpa [Addr.add, h0] using this

set_option maxRecDepth 100000 in
/-- A ring that came in. -/
theorem ring_of {H : Type} {enc : TypeId × Value → H} {W : World} {b0 : Nat} {v : Value} {d : DataW H} {p : List MemPlace} (hv : Value.okWide Try.prog W .any b0 39 v)
    (h : DataW.Trod enc Try.prog W 0 (fun _ => true) true 39 v d p) : ∃ a b c e : Int, v = ringV a b c e := by
  obtain ⟨c0, c1, c2, c3, y0, y1, y2, y3, m, rfl, _, _, hy0, hy1, hy2, hy3⟩ := open_agg4 Try.underlying39 (by kernel_rfl) Try.cellsRing hv h
  obtain ⟨a, e0, _, _⟩ := DataW.trod_int Try.underlying3 hy0
  obtain ⟨b, e1, _, _⟩ := DataW.trod_int Try.underlying3 hy1
  obtain ⟨c, e2, _, _⟩ := DataW.trod_int Try.underlying3 hy2
  obtain ⟨e, e3, _, _⟩ := DataW.trod_int Try.underlying3 hy3
  simp at e0 e1 e2 e3
  subst e0 e1 e2 e3
  exact ⟨a, b, c, e, rfl⟩

end Go.Proofs.Ytkmjmmnnnbjghaa

/- Polynomials that came in. -/
namespace Go.Proofs.Ytkmjmmnnnbjghaa
set_option linter.unusedSimpArgs false
set_option linter.unusedVariables false
open Go.ChangeShapes Go.WideShapes Go.ChangeAt Go.RowKit Go.Joins Go.Deep

theorem Try.cellsTerm : Try.prog.cellsOf 61 = 2 := by kernel_rfl
theorem Try.cellsIntsP : Try.prog.cellsOf 36 = 1 := by kernel_rfl

theorem slCell {H : Type} {enc : TypeId × Value → H} {W : World} {fuel : Nat} {v : Value} {x : DataW H × List MemPlace}
    (h : DataW.trod enc Try.prog W 0 (fun _ => true) true fuel 36 [v] = some x) : ∃ xs : List Int, Sl W v xs := by
  rcases open_ints Try.underlying36 Try.underlying3 Try.cellsInt h with ⟨hcs, _⟩ | ⟨x, l, c, zs, hcs, _, hl, hm, hz, _, hcell, hwz⟩
  · simp at hcs
    subst hcs
    exact ⟨[], none, 0, rfl, fun h => absurd h (by simp)⟩
  · simp at hcs
    subst hcs
    simp at hz
    have hlen : (zs.take l).length = l := by rw [List.length_take]; omega
    refine ⟨zs.take l, some x, c, by rw [hlen], fun hp => ?_⟩
    rw [hlen] at hp
    obtain ⟨b, off, rfl⟩ := addrAt (hcell 0 (by omega))
    refine ⟨b, off, rfl, cellLt (hcell 0 (by omega)), fun i hi => ?_⟩
    rw [hlen] at hi
    have e : (zs.take l).getD i 0 = zs.getD i 0 := by simp [List.getD_eq_getElem?_getD, List.getElem?_take, hi]
    rw [e]
    exact cellAdd (hcell i (by omega))

theorem plCell {H : Type} {enc : TypeId × Value → H} {W : World} {fuel : Nat} {v : Value} {x : DataW H × List MemPlace}
    (h : DataW.trod enc Try.prog W 0 (fun _ => true) true fuel 54 [v] = some x) : ∃ ts : List Tm, Pl W v ts := by
  rcases open_slice_pairs (P := Try.prog) Try.underlying54 Try.underlying61 Try.cellsTerm rfl rfl Try.cellsInt Try.cellsIntsP h with ⟨hcs, _⟩ | ⟨a, len, cap, m, n, V0, V1, D0, D1, P0, P1, hcs, _, hl, hm, hmm, _, hx⟩
  · simp at hcs
    subst hcs
    exact ⟨[], none, 0, rfl, Nat.le_refl _, fun h => absurd h (by simp)⟩
  · simp at hcs
    subst hcs
    simp at hmm
    subst hmm
    obtain ⟨T, hT⟩ := choose_lt (α := Tm) (n := m) (p := fun i t => V0 i = .int .i64 t.1 ∧ Sl W (V1 i) t.2) (fun i hi => by
      obtain ⟨_, _, h0, h1⟩ := hx i hi
      obtain ⟨xs, hs⟩ := slCell h1
      obtain ⟨k, hk, _⟩ := DataW.trod_int Try.underlying3 h0
      exact ⟨(k, xs), by simpa using hk, hs⟩)
    refine ⟨(List.range len).map T, some a, m, by simp, by simpa using hl, fun hp => ?_⟩
    simp at hp
    obtain ⟨b, off, rfl⟩ := addrAt (by simpa using (hx 0 (by omega)).1)
    refine ⟨b, off, rfl, cellLt (hx 0 (by omega)).1, fun i hi => ?_⟩
    simp at hi
    have hg : ((List.range len).map T).getD i noT = T i := by simp [List.getD_eq_getElem?_getD, hi]
    rw [hg]
    obtain ⟨h0, h1, _, _⟩ := hx i (by omega)
    obtain ⟨e0, hs⟩ := hT i (by omega)
    rw [e0] at h0
    exact ⟨cellAdd h0, V1 i, cellAdd h1, hs⟩

/-- A polynomial that came in. -/
theorem pl_of {H : Type} {enc : TypeId × Value → H} {W : World} {a : Option Addr} {len cap : Nat} {d : DataW H} {p : List MemPlace}
    (h : DataW.Trod enc Try.prog W 0 (fun _ => true) true 54 (.slice a len cap) d p) : ∃ ts : List Tm, Pl W (.slice a len cap) ts := by
  obtain ⟨fuel, hf⟩ := h
  exact plCell (by simpa [Value.cells] using hf)

end Go.Proofs.Ytkmjmmnnnbjghaa

/- Vectors, and lists of them, that came in. -/
namespace Go.Proofs.Ytkmjmmnnnbjghaa
set_option linter.unusedSimpArgs false
set_option linter.unusedVariables false
open Go.ChangeShapes Go.WideShapes Go.ChangeAt Go.RowKit Go.Joins Go.Deep

theorem Try.cellsPolyX : Try.prog.cellsOf 54 = 1 := by kernel_rfl
theorem Try.cellsVecX : Try.prog.cellsOf 56 = 1 := by kernel_rfl

theorem vlCellOf {H : Type} {enc : TypeId × Value → H} {W : World} {fuel : Nat} {t : TypeId} {v : Value} {x : DataW H × List MemPlace} (ht : Try.prog.underlying t = some (.slice 54))
    (h : DataW.trod enc Try.prog W 0 (fun _ => true) true fuel t [v] = some x) : ∃ fs : List (List Tm), Vl W v fs := by
  rcases open_slice1 ht Try.cellsPolyX h with ⟨hcs, _⟩ | ⟨a, len, cap, m, n, V, D, P, hcs, _, hl, hm, hmm, _, hx⟩
  · simp at hcs
    subst hcs
    exact ⟨[], none, 0, rfl, fun h => absurd h (by simp)⟩
  · simp at hcs
    subst hcs
    simp at hmm
    subst hmm
    obtain ⟨T, hT⟩ := choose_lt (α := List Tm) (n := m) (p := fun i f => Pl W (V i) f) (fun i hi => plCell (hx i hi).2)
    refine ⟨(List.range len).map T, some a, m, by simp, fun hp => ?_⟩
    simp at hp
    obtain ⟨b, off, rfl⟩ := addrAt (by simpa using (hx 0 (by omega)).1)
    refine ⟨b, off, rfl, cellLt (hx 0 (by omega)).1, fun i hi => ?_⟩
    simp at hi
    have hg : ((List.range len).map T).getD i [] = T i := by simp [List.getD_eq_getElem?_getD, hi]
    rw [hg]
    exact ⟨V i, cellAdd (hx i (by omega)).1, hT i (by omega)⟩
theorem wlCell {H : Type} {enc : TypeId × Value → H} {W : World} {fuel : Nat} {v : Value} {x : DataW H × List MemPlace}
    (h : DataW.trod enc Try.prog W 0 (fun _ => true) true fuel 65 [v] = some x) : ∃ vss : List (List (List Tm)), Wl W v vss := by
  rcases open_slice1 Try.underlying65 Try.cellsVecX h with ⟨hcs, _⟩ | ⟨a, len, cap, m, n, V, D, P, hcs, _, hl, hm, hmm, _, hx⟩
  · simp at hcs
    subst hcs
    exact ⟨[], none, 0, rfl, fun h => absurd h (by simp)⟩
  · simp at hcs
    subst hcs
    simp at hmm
    subst hmm
    obtain ⟨T, hT⟩ := choose_lt (α := List (List Tm)) (n := m) (p := fun i f => Vl W (V i) f) (fun i hi => vlCellOf Try.underlying56 (hx i hi).2)
    refine ⟨(List.range len).map T, some a, m, by simp, fun hp => ?_⟩
    simp at hp
    obtain ⟨b, off, rfl⟩ := addrAt (by simpa using (hx 0 (by omega)).1)
    refine ⟨b, off, rfl, cellLt (hx 0 (by omega)).1, fun i hi => ?_⟩
    simp at hi
    have hg : ((List.range len).map T).getD i [] = T i := by simp [List.getD_eq_getElem?_getD, hi]
    rw [hg]
    exact ⟨V i, cellAdd (hx i (by omega)).1, hT i (by omega)⟩
/-- A list of polynomials that came in. -/
theorem vl_of {H : Type} {enc : TypeId × Value → H} {W : World} {t : TypeId} {a : Option Addr} {len cap : Nat} {d : DataW H} {p : List MemPlace} (ht : Try.prog.underlying t = some (.slice 54))
    (h : DataW.Trod enc Try.prog W 0 (fun _ => true) true t (.slice a len cap) d p) : ∃ fs : List (List Tm), Vl W (.slice a len cap) fs := by
  obtain ⟨fuel, hf⟩ := h
  exact vlCellOf ht (by simpa [Value.cells] using hf)
/-- A list of vectors that came in. -/
theorem wl_of {H : Type} {enc : TypeId × Value → H} {W : World} {a : Option Addr} {len cap : Nat} {d : DataW H} {p : List MemPlace}
    (h : DataW.Trod enc Try.prog W 0 (fun _ => true) true 65 (.slice a len cap) d p) : ∃ vss : List (List (List Tm)), Wl W (.slice a len cap) vss := by
  obtain ⟨fuel, hf⟩ := h
  exact wlCell (by simpa [Value.cells] using hf)

end Go.Proofs.Ytkmjmmnnnbjghaa

/- VectorOps, with all its contracts. -/
namespace Go.Proofs.Ytkmjmmnnnbjghaa
set_option linter.unusedSimpArgs false
set_option linter.unusedVariables false
open Go.RowKit

set_option maxHeartbeats 1000000 in
theorem vectorOps_any (p n o v rank : Int) (x y z : Value) (f : List Tm) (fss gss : List (List Tm)) (w : World) (pf : Pl w x f) (pv : Vl w y fss) (pw : Vl w z gss) :
    Calls Try.prog 8 #[ringV p n o v, .int .i64 rank, x, y, z] w fun e w' => e = .returned (.bool true) ∧ Below w.heap.size w w' := by
  have qf := pf
  have qv := pv
  have qw := pw
  obtain ⟨af, kf, rfl, _, _⟩ := pf
  obtain ⟨av, kv, rfl, _⟩ := pv
  obtain ⟨aw, kw, rfl, _⟩ := pw
  have hl := lead_parts o v (errAlike p n o v [fss]) fss
  refine vectorOps_walk p n o v rank af av aw kf kv kw f fss gss w (errAlike p n o v [fss, gss]) (errPolys p n o v [f]) (if errPolys p n o v [f] = 0 then errAlike p n o v [fss] else errPolys p n o v [f]) (errAlike p n o v [fss])
    (visE (errAlike p n o v [fss, gss]) (sums p o fss gss)) (visE (if errPolys p n o v [f] = 0 then errAlike p n o v [fss] else errPolys p n o v [f]) (prods p o f fss))
    (ldP (leadS (errAlike p n o v [fss]) (leadF o v fss fss.length))) (ldC (leadS (errAlike p n o v [fss]) (leadF o v fss fss.length))) (leadE (errAlike p n o v [fss]) (leadF o v fss fss.length)) (plc (leadF o v fss fss.length)) (errVecs p n o v rank [fss, gss])
    (visR (errAlike p n o v [fss, gss]) (sums p o fss gss)) (visR (if errPolys p n o v [f] = 0 then errAlike p n o v [fss] else errPolys p n o v [f]) (prods p o f fss))
    (if errAlike p n o v [fss, gss] = 0 then sums p o fss gss else []) (if (if errPolys p n o v [f] = 0 then errAlike p n o v [fss] else errPolys p n o v [f]) = 0 then prods p o f fss else [])
    (ldE (leadS (errAlike p n o v [fss]) (leadF o v fss fss.length)))
    rfl lead_len3 (fun h => (hl.1 h).2.2) (fun h => hl.2 h) (fun h => if_neg h) (fun h => if_neg h)
    (fun W h1 h2 => vecAdd_any p n o v _ _ fss gss W h1 h2) (fun W h1 h2 => vecScale_any p n o v _ _ f fss W h1 h2 _ rfl) (fun W h => vecLead_any p n o v _ fss W h)
    (fun W u h => checkAlike_any p n o v u [fss, gss] W (by simp) h) (fun W u h => checkPolys_any p n o v u [f] W (by simp) h) (fun W u h => checkAlike_any p n o v u [fss] W (by simp) h)
    ?_ ?_ ?_ (fun W u h => vecCheck_any p n o v rank u [fss, gss] W h) (fun W u h => checkVectors_any p n o v rank u [fss, gss] W h)
    (fun W a b h1 h2 => vectorIs_if _ _ (fun h => ?_) W a b h1 h2) (fun W a b h1 h2 => vectorIs_if _ _ (fun h => ?_) W a b h1 h2) qf qv qw
  · intro wb W hX hb h1 h2
    obtain ⟨hp, ho, hN0, hN3, hlen, h40, hf, hg, nf, ng, _, _⟩ := sum_good hX
    rw [if_pos hX]
    exact vsum_plx wb.heap.size p n o v n.toNat _ _ fss gss W hb.lt hp ho hN0 hN3 hlen h40 hf hg ((vlx_of h1 nf (Nat.le_refl _)).below hb.below) ((vlx_of h2 ng (Nat.le_refl _)).below hb.below)
  · intro wb W hY hb h1 h2
    have hF : errPolys p n o v [f] = 0 := by
      by_cases h : errPolys p n o v [f] = 0
      · exact h
      · rw [if_neg h] at hY; exact hY
    have hZ : errAlike p n o v [fss] = 0 := by rw [if_pos hF] at hY; exact hY
    obtain ⟨hp, ho, hv, hN0, hN3, h40, hr⟩ := lead_good hZ
    obtain ⟨rf, _, _⟩ := prod_good hF hZ
    rw [if_pos hY]
    exact vtimes_plx wb.heap.size p n o v n.toNat _ _ f fss W hb.lt hp ho hN0 hN3 h40 rf hr (h1.below hb.below) (h2.below hb.below)
  · intro wb W hZ hb h
    obtain ⟨hp, ho, hv, hN0, hN3, h40, hr⟩ := lead_good hZ
    obtain ⟨e1, e2, _⟩ := hl.1 hZ
    rw [e1, e2]
    exact leadOf_old wb p n o v n.toNat _ fss W hb hv ho hN0 hN3 h40 hr h
  · exact ⟨(sum_good h).2.2.2.2.2.2.2.2.2.2.1, (sum_good h).2.2.2.2.2.2.2.2.2.2.2⟩
  · have hF : errPolys p n o v [f] = 0 := by
      by_cases h2 : errPolys p n o v [f] = 0
      · exact h2
      · rw [if_neg h2] at h; exact h
    have hZ : errAlike p n o v [fss] = 0 := by rw [if_pos hF] at h; exact h
    exact (prod_good hF hZ).2

end Go.Proofs.Ytkmjmmnnnbjghaa
