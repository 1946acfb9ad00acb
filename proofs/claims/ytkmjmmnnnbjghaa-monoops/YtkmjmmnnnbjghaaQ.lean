/- Over; the reference's degree, and what goes into what. -/
import Derived.Test.YtkmjmmnnnbjghaaL
import Derived.Deep.DeepCutAuto
import Derived.Test.YtkmjmmnnnbjghaaM
import Derived.Deep.RegionHeld
namespace Go.Proofs.Ytkmjmmnnnbjghaa
set_option linter.unusedSimpArgs false
set_option linter.unusedVariables false
open Go.RowKit

def negI (x : Int) : Bool := decide (x < 0)
theorem negI_take (zs : List Int) (k : Nat) (h : k < zs.length) : (zs.take (k + 1)).any negI = ((zs.take k).any negI || negI (zs.getD k 0)) := by
  rw [List.take_succ_eq_append_getElem h, List.any_append]
  simp [List.getD_eq_getElem?_getD, h]
theorem ret_int2 {k : IntKind} {a b : Int} (h : a = b) : Value.int k a = .int k b := by rw [h]

set_option maxHeartbeats 400000 in
theorem min_any (zs : List Int) (b off cap : Nat) (w : World) (hm : zs.length ≤ 3) (h0 : 0 < zs.length) (hc : IntsAt w b off zs) :
    Calls Try.prog 67 #[.slice (some ⟨b, off, none⟩) zs.length cap] w fun e w' => ∃ r : Int, e = .returned (.int .i64 r) ∧ decide (r < 0) = zs.any negI ∧ w' = w := by
  have HC := hid hc
  have hcell0 := hc 0 h0
  clear hc
  have hone : (zs.take 1).any negI = negI (zs.getD 0 0) := by
    have := negI_take zs 0 h0; simpa using this
  have HONE := hid hone
  clear hone
  rw [Nat.add_zero] at hcell0
  generalize zs.getD 0 0 = z0 at hcell0 HONE
  go_enter Try.func67, Try.ntmps67
  go_wp2
  go_loop [3, 4] (fun m i => ∃ k : Nat, 1 ≤ k ∧ k ≤ zs.length ∧ i = .int .i64 k ∧ ∃ r : Int, m = .int .i64 r ∧ decide (r < 0) = (zs.take k).any negI) (fun _ i => zs.length - (intOf i).toNat)
  case atStart => exact ⟨1, by omega, by omega, rfl, z0, rfl, HONE.out.symm⟩
  case round =>
    clear hcell0 HONE
    obtain ⟨k, hk1, hk, rfl, r, rfl, hr⟩ := hrel
    have HR := hid hr
    clear hr
    by_cases hk2 : k < zs.length
    · have hcell := HC.out k hk2
      have HN := hid (negI_take zs k hk2)
      generalize zs.getD k 0 = z at hcell HN
      go_wp2
      all_goals
        go_round
        case rel =>
          refine ⟨k + 1, by omega, by omega, by go_num, _, rfl, ?_⟩
          rw [HN.out, ← HR.out]
          unfold negI
          rw [← Bool.decide_or]
          exact decide_eq_decide.2 (by omega)
        case measure => simp [intOf]; omega
    · go_wp2
      go_ret
      refine ⟨r, rfl, ?_, rfl⟩
      have := HR.out
      rwa [List.take_of_length_le (by omega)] at this

set_option maxHeartbeats 400000 in
theorem degreeOf_any (xs : List Int) (b off cap : Nat) (w : World) (hxs : ∀ x ∈ xs, 0 ≤ x ∧ x ≤ 400) (hl : xs.length ≤ 3) (hc : IntsAt w b off xs) :
    Calls Try.prog 29 #[.slice (some ⟨b, off, none⟩) xs.length cap] w fun e w' => e = .returned (.int .i64 (sumI xs)) ∧ w' = w := by
  have HC := hid hc
  clear hc
  go_enter Try.func29, Try.ntmps29
  go_wp2
  go_loop [3, 4] (fun n i => ∃ k : Nat, k ≤ xs.length ∧ i = .int .i64 k ∧ n = .int .i64 (sumI (xs.take k))) (fun _ i => xs.length - (intOf i).toNat)
  case atStart => exact ⟨0, Nat.zero_le _, rfl, rfl⟩
  case round =>
    obtain ⟨k, hk, rfl, rfl⟩ := hrel
    have hd := sumI_bd (xs.take k) (fun x hx => hxs x (List.mem_of_mem_take hx))
    have hl2 : (xs.take k).length ≤ k := List.length_take_le _ _
    by_cases hlt : k < xs.length
    · have hsn := sumI_take xs k hlt
      have hb := hxs _ (getD_mem xs k hlt)
      have hcell := HC.out k hlt
      generalize xs.getD k 0 = y at hsn hb hcell
      have HS := hid hsn
      clear hsn hxs
      go_wp2
      go_round
      case rel => exact ⟨k + 1, by omega, by go_num, by rw [HS.out]⟩
      case measure => simp [intOf]; omega
    · go_wp2
      go_ret
      exact ⟨ret_int (by rw [List.take_of_length_le (by omega)]), rfl⟩

/-- What is left of xs over ys: is one below 0? -/
def lackB (xs ys : List Int) : Bool := (zipI (· - ·) xs ys).any negI

set_option maxHeartbeats 400000 in
theorem goesInto_any (xs ys : List Int) (b off cap b2 off2 cap2 : Nat) (w : World) (hm : xs.length ≤ 3) (hxy : xs.length = ys.length) (hc : IntsAt w b off xs) (hc2 : IntsAt w b2 off2 ys) :
    Calls Try.prog 30 #[.slice (some ⟨b2, off2, none⟩) ys.length cap2, .slice (some ⟨b, off, none⟩) xs.length cap] w fun e w' =>
      e = .returned (.bool (!lackB xs ys)) ∧ ∃ n, w' = w.drewN n := by
  have HC := hid hc
  have HC2 := hid hc2
  rw [← hxy]
  have HXY := hid hxy
  have hlz := zipI_len (· - ·) xs ys hxy
  have HLZ := hid hlz
  clear hc hc2 hxy hlz
  go_enter Try.func30, Try.ntmps30
  go_wp2
  go_loopw [5] (fun i wr => ∃ k n : Nat, k ≤ xs.length ∧ i = .int .i64 k ∧ ((zipI (· - ·) xs ys).take k).any negI = false ∧ wr = w.drewN n) (fun i _ => xs.length - (intOf i).toNat)
  case atStart => exact ⟨0, 0, Nat.zero_le _, rfl, rfl, rfl⟩
  case round =>
    obtain ⟨k, n0, hk, rfl, hn, hw0⟩ := hrel
    have HN := hid hn
    have HW := hid hw0
    clear hn hw0
    by_cases hk2 : k < xs.length
    · have hcell := HC.out k hk2
      have hcell2 := HC2.out k (by rw [← HXY.out]; exact hk2)
      have e1 : ∀ a, wr.cell? a = w.cell? a := fun a => by rw [HW.out]; rfl
      rw [← e1] at hcell hcell2
      clear e1
      have hz := zipI_at (· - ·) xs ys HXY.out k hk2
      have ht := negI_take (zipI (· - ·) xs ys) k (by rw [HLZ.out]; exact hk2)
      have ha := any_at negI (zipI (· - ·) xs ys) k (by rw [HLZ.out]; exact hk2)
      rw [hz] at ht ha
      have HT := hid ht
      have HA := hid ha
      clear hz ht ha
      generalize xs.getD k 0 = x at hcell HT HA
      generalize ys.getD k 0 = y at hcell2 HT HA
      by_cases hy : x < y
      · go_wp2
        go_quiet (fail)
        go_wp2
        go_ret
        refine ⟨?_, _, by rw [HW.out, World.drewN_drewN]⟩
        unfold lackB
        rw [HA.out (by unfold negI; exact decide_eq_true (by omega))]
        rfl
      · go_wp2
        go_quiet (fail)
        go_wp2
        go_roundw
        case rel => exact ⟨k + 1, _, by omega, by go_num, by rw [HT.out, HN.out, Bool.false_or]; unfold negI; exact decide_eq_false (by omega), by rw [HW.out, World.drewN_drewN]⟩
        case measure => simp [intOf]; omega
    · go_wp2
      go_ret
      refine ⟨?_, n0, HW.out⟩
      have := HN.out
      rw [List.take_of_length_le (by rw [HLZ.out]; omega)] at this
      unfold lackB
      rw [this]
      rfl

end Go.Proofs.Ytkmjmmnnnbjghaa

/- Over; CheckMono, CheckMonos of the reference. -/
namespace Go.Proofs.Ytkmjmmnnnbjghaa
set_option linter.unusedSimpArgs false
set_option linter.unusedVariables false
open Go.RowKit

def ovE (p n o v : Int) (xs ys : List Int) : Int :=
  if errAll p n o v [xs, ys] = 0 then (if lackB xs ys then 5 else 0) else errAll p n o v [xs, ys]
def ovR (p n o v : Int) (xs ys : List Int) : List Int := if ovE p n o v xs ys = 0 then zipI (· - ·) xs ys else []

set_option maxHeartbeats 1000000 in
theorem monoOver_any (p n o v : Int) (x y : Value) (xs ys : List Int) (w : World) (hs : Sl w x xs) (hs2 : Sl w y ys) :
    Calls Try.prog 23 #[ringV p n o v, x, y] w fun e w' =>
      ∃ u, e = .returned (.tuple #[u, .int .i64 (ovE p n o v xs ys)]) ∧ Sl w' u (ovR p n o v xs ys) ∧ Below w.heap.size w w' := by
  have HS := hid hs
  have HS2 := hid hs2
  cases hz : (errAll p n o v [xs, ys] != 0)
  · have hz0 : errAll p n o v [xs, ys] = 0 := by simpa using hz
    obtain ⟨hr, hx, hy⟩ := errAll_two hz0
    obtain ⟨_, hn1, hn2, ho, _⟩ := ring_ok hr
    obtain ⟨hlx, hbx, _⟩ := errM_ok hx
    obtain ⟨hly, hby, _⟩ := errM_ok hy
    have hmx : xs.length ≤ 3 := by omega
    have hxy : xs.length = ys.length := by omega
    have HXY := hid hxy
    have HB := hid (And.intro hbx hby)
    obtain ⟨a, cap, rfl, h1⟩ := hs
    obtain ⟨a2, cap2, rfl, h2⟩ := hs2
    obtain ⟨b, off, rfl, hlt, hc⟩ := h1 (by omega)
    obtain ⟨b2, off2, rfl, hlt2, hc2⟩ := h2 (by omega)
    have HC := hid hc
    have HC2 := hid hc2
    have hlz := zipI_len (· - ·) xs ys hxy
    have hbz := zipI_mem (g := (· - ·)) (a := -200) (b := 200) (by intro x y h1 h2; show -200 ≤ x - y ∧ x - y ≤ 200; omega) hbx hby
    have HLZ := hid hlz
    have HBZ := hid hbz
    have HR : Hid (lackB xs ys = true → ovE p n o v xs ys = 5 ∧ ovR p n o v xs ys = []) := by
      intro h
      have e1 : ovE p n o v xs ys = 5 := by unfold ovE; rw [if_pos hz0, if_pos h]
      exact ⟨e1, by unfold ovR; rw [if_neg (by rw [e1]; decide)]⟩
    have HQ : Hid (lackB xs ys = false → ovE p n o v xs ys = 0 ∧ ovR p n o v xs ys = zipI (· - ·) xs ys) := by
      intro h
      have e1 : ovE p n o v xs ys = 0 := by unfold ovE; rw [if_pos hz0, if_neg (by simp [h])]
      exact ⟨e1, by unfold ovR; rw [if_pos e1]⟩
    have HZ0 := hid hz0
    have hx0 : 0 < xs.length := by omega
    clear hz0 hr hx hy hlx hly h1 h2 hc hc2 hbx hby hlz hbz hxy
    go_enter Try.func23, Try.ntmps23
    go_wp2_with fail
    refine (checkAll_any p n o v [xs, ys] _ _ _ _ (by simp) (by simp) ?_).mono ?_
    · exact (HS.out.below below_two).sls2 (HS2.out.below below_two) (by simp [go_sem]) (by simp [go_sem])
    rintro e w1 ⟨rfl, hb1⟩
    have hb0 : Below w.heap.size w w1 := below_two.trans (hb1.mono (by simp; omega))
    have hsz : w.heap.size ≤ w1.heap.size := hb0.size
    rw [HZ0.out]
    clear hb1
    go_wp2_with fail
    refine (eachOver_any xs ys _ _ _ _ _ _ _ hmx HXY.out HB.out.1 HB.out.2 (by omega) (by omega) ?_ ?_).mono ?_
    · intro i hi; rw [hb0.cell (p := ⟨b, off + i, none⟩) hlt]; exact HC.out i hi
    · intro i hi; rw [hb0.cell (p := ⟨b2, off2 + i, none⟩) hlt2]; exact HC2.out i hi
    rintro e w2 ⟨rfl, how⟩
    have HOW : Hid (OwnK w1 w2 (zipI (· - ·) xs ys).length (zipI (· - ·) xs ys).length (zipI (· - ·) xs ys)) := by rw [HLZ.out]; exact how
    have hb2 : Below w.heap.size w w2 := hb0.trans (how.1.mono hsz)
    have hmz : (zipI (· - ·) xs ys).length ≤ 3 := by rw [HLZ.out]; exact hmx
    rw [← HLZ.out]
    clear how
    go_wp2_with fail
    refine (min_any (zipI (· - ·) xs ys) _ _ _ _ hmz (by rw [HLZ.out]; exact hx0) ?_).mono ?_
    · intro i hi; rw [Nat.zero_add]; exact HOW.out.2.2.2 i hi
    rintro e w' ⟨r, rfl, hr, rfl⟩
    have HRR := hid hr
    by_cases hd : r < 0
    · clear hr
      go_wp2
      go_ret2
      obtain ⟨e1, e2⟩ := HR.out (by show (zipI _ xs ys).any negI = true; rw [← HRR.out]; exact decide_eq_true hd)
      rw [e1, e2]
      exact ⟨_, rfl, Sl.empty _, hb2⟩
    · clear hr
      go_wp2
      go_ret2
      obtain ⟨e1, e2⟩ := HQ.out (by show (zipI _ xs ys).any negI = false; rw [← HRR.out]; exact decide_eq_false (by omega))
      rw [e1, e2]
      exact ⟨_, rfl, HOW.out.sl, hb2⟩
  · have e1 : ovE p n o v xs ys = errAll p n o v [xs, ys] := by unfold ovE; rw [if_neg (by simpa using hz)]
    have e2 : ovR p n o v xs ys = [] := by unfold ovR; rw [if_neg (by rw [e1]; simpa using hz)]
    rw [e1, e2]
    clear e1 e2
    obtain ⟨a, cap, rfl, _⟩ := hs
    obtain ⟨a2, cap2, rfl, _⟩ := hs2
    go_enter Try.func23, Try.ntmps23
    go_wp2_with fail
    refine (checkAll_any p n o v [xs, ys] _ _ _ _ (by simp) (by simp) ?_).mono ?_
    · exact (HS.out.below below_two).sls2 (HS2.out.below below_two) (by simp [go_sem]) (by simp [go_sem])
    rintro e w1 ⟨rfl, hb1⟩
    go_wp2
    go_ret2
    exact ⟨_, rfl, Sl.empty _, below_two.trans (hb1.mono (by simp; omega))⟩

theorem outB_between (x : Int) : outB x = !betweenB x 0 200 := by
  unfold outB betweenB
  by_cases h1 : 0 ≤ x <;> by_cases h2 : x ≤ 200 <;> simp [h1, h2] <;> omega

set_option maxHeartbeats 400000 in
theorem checkMono_any (p n o v : Int) (x : Value) (xs : List Int) (w : World) (hn : 1 ≤ n ∧ n ≤ 3) (hs : Sl w x xs) :
    Calls Try.prog 70 #[ringV p n o v, x] w fun e w' => e = .returned (.int .i64 (errM n xs)) ∧ Below w.heap.size w w' := by
  obtain ⟨a, cap, rfl, hs⟩ := hs
  obtain ⟨hn1, hn2⟩ := hn
  by_cases hl : (xs.length : Int) = n
  · subst hl
    obtain ⟨b, off, rfl, hlt, hc⟩ := hs (by omega)
    clear hs
    have HC := hid hc
    clear hc
    have hm : xs.length ≤ 3 := by omega
    go_enter Try.func70, Try.ntmps70
    go_wp2
    go_loop [5] (fun i => ∃ k : Nat, k ≤ xs.length ∧ i = .int .i64 k ∧ (xs.take k).any outB = false) (fun i => xs.length - (intOf i).toNat)
    case atStart => exact ⟨0, Nat.zero_le _, rfl, by simp⟩
    case round =>
      obtain ⟨k, hk, rfl, hn⟩ := hrel
      have HN := hid hn
      clear hn
      by_cases hk2 : k < xs.length
      · have hcell := HC.out k hk2
        have H1 := hid (any_take outB xs k hk2 HN.out)
        have H2 := hid (any_at outB xs k hk2)
        rw [← World.cell?_alloc_lt (w := w) (o := .cells #[.int .i64 p, .int .i64 xs.length, .int .i64 o, .int .i64 v] 39) (a := ⟨b, off + k, none⟩) hlt] at hcell
        generalize xs.getD k 0 = y at hcell H1 H2
        rw [outB_between] at H1 H2
        cases hy : betweenB y 0 200
        · go_wp2_with (go_at_call 59; refine (between_any _ _ _ _).mono ?_; rintro e w' ⟨rfl, rfl⟩)
          go_ret
          refine ⟨ret_int ?_, below_one⟩
          unfold errM
          rw [if_neg (by simp), if_pos (H2.out (by rw [hy]; rfl))]
        · go_wp2_with (go_at_call 59; refine (between_any _ _ _ _).mono ?_; rintro e w' ⟨rfl, rfl⟩)
          go_round
          case rel => exact ⟨k + 1, by omega, by go_num, H1.out (by rw [hy]; rfl)⟩
          case measure => simp [intOf]; omega
      · have hy := HN.out
        rw [List.take_of_length_le (by omega)] at hy
        have hb := any_bd hy
        have hb2 := hid (show ∀ x ∈ xs, 0 ≤ x ∧ x ≤ 400 from fun x hx => by have := hb x hx; omega)
        have HE : Hid (errM xs.length xs = if 200 < sumI xs then 3 else 0) := by
          show errM xs.length xs = _
          unfold errM
          rw [if_neg (by simp), if_neg (by simp [hy])]
        clear hb hy
        go_wp2_with fail
        refine (degreeOf_any xs _ _ _ _ hb2.out hm ?_).mono ?_
        · intro i hi; rw [World.cell?_alloc_lt (w := w) (o := _) (a := ⟨b, off + i, none⟩) hlt]; exact HC.out i hi
        rintro e w' ⟨rfl, rfl⟩
        by_cases hd : 200 < sumI xs
        · go_wp2
          go_ret
          exact ⟨ret_int (by rw [HE.out, if_pos hd]), below_one⟩
        · go_wp2
          go_ret
          exact ⟨ret_int (by rw [HE.out, if_neg (by omega)]), below_one⟩
  · have he : errM n xs = 1 := by simp [errM, hl]
    rw [he]; clear he hs
    have hl2 : ((xs.length : Int) != n) = true := by simpa using hl
    clear hl
    go_enter Try.func70, Try.ntmps70
    go_wp2
    go_ret
    exact ⟨rfl, below_one⟩

end Go.Proofs.Ytkmjmmnnnbjghaa

/- CheckMonos. -/
namespace Go.Proofs.Ytkmjmmnnnbjghaa
set_option linter.unusedSimpArgs false
set_option linter.unusedVariables false
open Go.RowKit

set_option maxRecDepth 100000 in
set_option maxHeartbeats 1000000 in
theorem checkMonos_any (p n o v : Int) (xss : List (List Int)) (b off cap : Nat) (w : World) (hl : xss.length ≤ 2) (hlt : b < w.heap.size) (hs : SlsAt w b off xss) :
    Calls Try.prog 26 #[ringV p n o v, .slice (some ⟨b, off, none⟩) xss.length cap] w fun e w' => e = .returned (.int .i64 (errAll p n o v xss)) ∧ Below w.heap.size w w' := by
  have HS := hid hs
  clear hs
  go_enter Try.func26, Try.ntmps26
  go_wp2_with (go_at_call 33; refine (checkRing_any _ _ _ _ _).mono ?_; rintro e w1 ⟨rfl, hb1⟩)
  have hb0 : Below w.heap.size w w1 := below_one.trans (hb1.mono (by simp))
  have hbox := hid ((BoxAt.new w p n o v _).below hb1)
  have HS1 := hid (HS.out.below hlt hb0)
  have hlt1 : b < w1.heap.size := Nat.lt_of_lt_of_le hlt hb0.size
  have HB0 := hid hb0
  clear HS hb1 hb0
  go_loopw [5, 6] (fun e i wr => ∃ k : Nat, k ≤ xss.length ∧ i = .int .i64 k ∧ (∃ E : Int, e = .int .i64 E ∧ (E = 0 ∧ errR p n o v = 0 ∧ errAll p n o v xss = firstErr n (xss.drop k) ∨ E ≠ 0 ∧ errAll p n o v xss = E)) ∧ Below w1.heap.size w1 wr) (fun _ i _ => xss.length - (intOf i).toNat)
  case atStart =>
    refine ⟨0, Nat.zero_le _, rfl, ⟨_, rfl, ?_⟩, Below.refl _ _⟩
    unfold errAll
    by_cases h : errR p n o v = 0
    · exact Or.inl ⟨h, h, by rw [if_pos h]; rfl⟩
    · exact Or.inr ⟨h, by rw [if_neg h]⟩
  case round =>
    obtain ⟨k, hk, rfl, ⟨E, rfl, hE⟩, hbr⟩ := hrel
    have HBR := hid hbr
    clear hbr
    by_cases hk2 : k < xss.length
    · rcases hE with ⟨rfl, hR, hT⟩ | ⟨hE0, hT⟩
      · have HT := hid (And.intro hR hT)
        obtain ⟨_, hn1, hn2, _⟩ := ring_ok hR
        clear hR hT
        obtain ⟨vv, hcell, hsl⟩ := HS1.out k hk2
        rw [← HBR.out.cell (p := ⟨b, off + k, none⟩) hlt1] at hcell
        have HSL := hid (hsl.below HBR.out)
        have HD := hid (firstErr_drop n xss k hk2)
        clear hsl
        obtain ⟨bx, c0, c1, c2, c3⟩ := hbox.out.below HBR.out
        generalize xss.getD k [] = xs at HSL HD
        obtain ⟨a, cc, hvv, _⟩ := HSL.out
        subst hvv
        go_wp2_with fail
        go_region_with (go_at_call 70; refine (checkMono_any p n o v _ xs _ ⟨hn1, hn2⟩ ?_).mono ?_; exact HSL.out.below (Below.refl _ _).drew; rintro e w2 ⟨rfl, hb2⟩)
        all_goals
          go_wp2
          go_roundw
          case rel =>
            refine ⟨k + 1, by omega, by go_num, ⟨_, rfl, ?_⟩, HBR.out.trans ((((Below.refl _ _).drew).trans (hb2.mono (by simp))).mono HBR.out.size)⟩
            by_cases hz : errM n xs = 0
            · exact Or.inl ⟨hz, HT.out.1, by rw [HT.out.2, HD.out, if_pos hz]⟩
            · exact Or.inr ⟨hz, by rw [HT.out.2, HD.out, if_neg hz]⟩
          case measure => simp [intOf]; omega
      · have hE1 : (E == 0) = false := by simpa using hE0
        clear hE0
        go_wp2
        go_ret
        exact ⟨ret_int hT.symm, HB0.out.trans (HBR.out.mono HB0.out.size)⟩
    · have HE := hid hE
      clear hE
      go_wp2
      go_ret
      refine ⟨ret_int ?_, HB0.out.trans (HBR.out.mono HB0.out.size)⟩
      rcases HE.out with ⟨h1, h2, h3⟩ | ⟨h1, h2⟩
      · rw [h3, List.drop_eq_nil_of_le (by omega), h1]; rfl
      · exact h2.symm

end Go.Proofs.Ytkmjmmnnnbjghaa
