/- A term, made flat. -/
import Derived.Test.YtilogbggilchaaaGreatZF
import Derived.Test.YtilogbggilchaaaGreatWA
import Derived.Test.YtilogbggilchaaaGreatRC
namespace Go.Proofs.YtilogbggilchaaaGreat
set_option linter.unusedSimpArgs false
set_option linter.unusedVariables false
open Go.RowKit
def ex3 (xs : List Int) (k : Nat) (j : Nat) : Int := (xs.take k).getD j 0
def ptF (s pl c : Int) (xs : List Int) (k : Nat) : Ft := ⟨s, ex3 xs k 0, ex3 xs k 1, ex3 xs k 2, 0, pl, c⟩
structure TmW (w wr : World) (c : Int) (ev : Value) (t : Ft) : Prop where
  below : Below w.heap.size w wr
  b0 : wr.cell? ⟨w.heap.size, 0, none⟩ = some (.int .i64 c)
  b1 : wr.cell? ⟨w.heap.size, 1, none⟩ = some ev
  res : wr.ownsRow w.heap.size 52 7 (.slice (some ⟨w.heap.size + 1, 0, none⟩) 1 1) 1 (encF noF)
  own : wr.ownsRow w.heap.size 52 7 (.slice (some ⟨w.heap.size + 1 + 1, 0, none⟩) 1 1) 1 (encF t)
  lt : w.heap.size < wr.heap.size
theorem TmW.next {w wr w' : World} {c : Int} {ev : Value} {t : Ft} (h : TmW w wr c ev t) (hb : Below wr.heap.size wr w') : TmW w w' c ev t :=
  ⟨h.below.trans (hb.mono h.below.size), cell_keep h.b0 hb, cell_keep h.b1 hb, ownBlock_lt h.res hb, ownBlock_lt h.own hb, Nat.lt_of_lt_of_le h.lt hb.size⟩
theorem TmW.first (w : World) (c : Int) (ev : Value) (t : Ft) : TmW w (((w.alloc (.cells #[.int .i64 c, ev] 57)).alloc (.cells #[.int .i64 0, .int .u16 0, .int .u16 0, .int .u16 0, .int .u16 0, .int .u8 0, .int .u8 0] 52)).alloc (.cells #[.int .i64 t.k, .int .u16 t.a, .int .u16 t.b, .int .u16 t.d, .int .u16 t.z, .int .u8 t.pl, .int .u8 t.c] 52)) c ev t := by
  have h1 := box7 (w := w.alloc (.cells #[.int .i64 c, ev] 57)) (B := w.heap.size) (by simp) noF
  have h2 := box7 (w := (w.alloc (.cells #[.int .i64 c, ev] 57)).alloc (.cells #[.int .i64 0, .int .u16 0, .int .u16 0, .int .u16 0, .int .u16 0, .int .u8 0, .int .u8 0] 52)) (B := w.heap.size) (by simp; omega) t
  refine ⟨below_three, by simp [go_sem], by simp [go_sem], ?_, ?_, by simp; omega⟩
  · have := ownBlock_lt h1 (belowNew (A := .cells #[.int .i64 t.k, .int .u16 t.a, .int .u16 t.b, .int .u16 t.d, .int .u16 t.z, .int .u8 t.pl, .int .u8 t.c] 52))
    simpa [noF] using this
  · simpa using h2
theorem TmW.put {w wr : World} {c : Int} {ev : Value} {t t2 : Ft} (h : TmW w wr c ev t) (j : Nat) (v : Value) (he : (encF t).set j v = encF t2) : TmW w (wr.setCell ⟨w.heap.size + 1 + 1, j, none⟩ v) c ev t2 := by
  have s1 := h.own.stored j v
  rw [he] at s1
  have far := fun o => cell_far (o := o) (b := w.heap.size) s1.2 h.lt (by omega)
  exact ⟨h.below.trans (grown_below s1.2 (by omega) h.below.size), by rw [far]; exact h.b0, by rw [far]; exact h.b1, h.res.kept s1.2 (Or.inr (by simp [Value.ownBlock])), s1.1, Nat.lt_of_lt_of_le h.lt s1.2.size⟩
theorem TmW.cells {w wr : World} {c : Int} {ev : Value} {t : Ft} (h : TmW w wr c ev t) : wr.cell? ⟨w.heap.size + 1 + 1, 0, none⟩ = some (.int .i64 t.k) ∧ wr.cell? ⟨w.heap.size + 1 + 1, 1, none⟩ = some (.int .u16 t.a) ∧ wr.cell? ⟨w.heap.size + 1 + 1, 2, none⟩ = some (.int .u16 t.b) ∧ wr.cell? ⟨w.heap.size + 1 + 1, 3, none⟩ = some (.int .u16 t.d) ∧ wr.cell? ⟨w.heap.size + 1 + 1, 4, none⟩ = some (.int .u16 t.z) ∧ wr.cell? ⟨w.heap.size + 1 + 1, 5, none⟩ = some (.int .u8 t.pl) ∧ wr.cell? ⟨w.heap.size + 1 + 1, 6, none⟩ = some (.int .u8 t.c) :=
  ⟨h.own.cellAt 0 (by omega), h.own.cellAt 1 (by omega), h.own.cellAt 2 (by omega), h.own.cellAt 3 (by omega), h.own.cellAt 4 (by omega), h.own.cellAt 5 (by omega), h.own.cellAt 6 (by omega)⟩

def ftO (s k0 k1 k2 pl : Int) (t : Tm) : Ft := ⟨s + (t.2.getD 0 0 * k0 + t.2.getD 1 0 * k1 + t.2.getD 2 0 * k2), t.2.getD 0 0, t.2.getD 1 0, t.2.getD 2 0, 0, pl, t.1⟩

theorem res_put {w : World} {B g : Nat} {u : Ft} (h : w.ownsRow B 52 7 (.slice (some ⟨g, 0, none⟩) 1 1) 1 (encF u)) (t : Ft) : (put7 w g 0 t).ownsRow B 52 7 (.slice (some ⟨g, 0, none⟩) 1 1) 1 (encF t) ∧ w.grownBy (put7 w g 0 t) (some g) := by
  have s1 := h.stored 0 (.int .i64 t.k)
  have s2 := s1.1.stored 1 (.int .u16 t.a)
  have s3 := s2.1.stored 2 (.int .u16 t.b)
  have s4 := s3.1.stored 3 (.int .u16 t.d)
  have s5 := s4.1.stored 4 (.int .u16 t.z)
  have s6 := s5.1.stored 5 (.int .u8 t.pl)
  have s7 := s6.1.stored 6 (.int .u8 t.c)
  exact ⟨s7.1, grown_trans (grown_trans (grown_trans (grown_trans (grown_trans (grown_trans s1.2 s2.2) s3.2) s4.2) s5.2) s6.2) s7.2⟩
theorem pt_set (s pl c : Int) (xs : List Int) (k : Nat) (h : k < xs.length) (h3 : xs.length ≤ 3) : (encF (ptF s pl c xs k)).set (1 + k) (.int .u16 (xs.getD k 0)) = encF (ptF s pl c xs (k + 1)) := by
  match xs, k, h, h3 with
  | [x], 0, _, _ => rfl
  | [x, y], 0, _, _ => rfl
  | [x, y], 1, _, _ => rfl
  | [x, y, z], 0, _, _ => rfl
  | [x, y, z], 1, _, _ => rfl
  | [x, y, z], 2, _, _ => rfl
  | _ :: _ :: _ :: _ :: _, _, _, h => exact absurd h (by simp)
theorem ex3_bd {xs : List Int} (h : ∀ x ∈ xs, 0 ≤ x ∧ x ≤ 30000) (k j : Nat) : 0 ≤ ex3 xs k j ∧ ex3 xs k j ≤ 65535 := by
  unfold ex3
  rw [List.getD_eq_getElem?_getD]
  cases hj : (xs.take k)[j]? with
  | none => simp
  | some x =>
    have := h x (List.mem_of_mem_take (List.mem_of_getElem? hj))
    simp; omega
set_option maxRecDepth 100000 in
set_option maxHeartbeats 2000000 in
theorem orderTerm_any (ob pl : Nat) (p k0 k1 k2 : Int) (sv ev : Value) (ss xs : List Int) (c : Int) (w : World) (hob : OrdB w ob p k0 k1 k2 sv) (hs : Sl w sv ss) (hpl : pl < ss.length) (hpl2 : pl ≤ 255) (hss : ∀ s ∈ ss, -600000000000000000 ≤ s ∧ s ≤ 600000000000000000)
    (h0 : 0 ≤ k0 ∧ k0 ≤ 137438953472) (h1 : 0 ≤ k1 ∧ k1 ≤ 137438953472) (h2 : 0 ≤ k2 ∧ k2 ≤ 137438953472) (hc : 0 ≤ c ∧ c ≤ 255) (hx0 : 0 < xs.length) (hx3 : xs.length ≤ 3) (hxs : ∀ x ∈ xs, 0 ≤ x ∧ x ≤ 30000) (he : Sl w ev xs) :
    Calls Tryz.prog 59 #[.pointer (some ⟨ob, 0, none⟩), .int .i64 pl, .agg #[.int .i64 c, ev]] w fun e w' => e = .returned (ftV (ftO (ss.getD pl 0) k0 k1 k2 pl (c, xs))) ∧ Below w.heap.size w w' := by
  obtain ⟨hc0, hc1⟩ := hc
  have HE := hid he
  have HXS := hid hxs
  have HSS := hid (hss _ (getD_mem ss pl hpl))
  have HOB := hid hob
  obtain ⟨ea, ec, rfl, hei⟩ := he
  obtain ⟨eb, eoff, rfl, helt, hec⟩ := hei hx0
  obtain ⟨sa, sc, rfl, hsi⟩ := hs
  obtain ⟨sb, soff, rfl, hslt, hsc⟩ := hsi (by omega)
  have s0 := hsc pl hpl
  have HS0 := hid s0
  generalize ss.getD pl 0 = s at s0 HS0 HSS ⊢
  obtain ⟨olt, o0, o1, o2, o3, o4⟩ := hob
  clear hxs hss hei hsi hsc
  have HT0 := hid (TmW.first w c (.slice (some ⟨eb, eoff, none⟩) xs.length ec) ⟨s, 0, 0, 0, 0, pl, c⟩)
  obtain ⟨wa, hwa⟩ : ∃ wa, wa = (w.alloc (.cells #[.int .i64 c, .slice (some ⟨eb, eoff, none⟩) xs.length ec] 57)).alloc (.cells #[.int .i64 0, .int .u16 0, .int .u16 0, .int .u16 0, .int .u16 0, .int .u8 0, .int .u8 0] 52) := ⟨_, rfl⟩
  have HBA : Hid (Below w.heap.size w wa) := by rw [hwa]; exact below_two
  have HSZ : Hid (wa.heap.size = w.heap.size + 1 + 1) := by show _ = _; rw [hwa]; simp
  have z0 : wa.cell? ⟨w.heap.size, 0, none⟩ = some (.int .i64 c) := by rw [hwa]; simp [go_sem]
  have z1 : wa.cell? ⟨w.heap.size, 1, none⟩ = some (.slice (some ⟨eb, eoff, none⟩) xs.length ec) := by rw [hwa]; simp [go_sem]
  have y0 := cell_keep s0 HBA.out
  have y1 := cell_keep o4 HBA.out
  clear s0 o0 o1 o2 o3 o4
  have hpi : (pl : Int) < (ss.length : Int) := by omega
  have hwp : IntKind.u8.wrap (pl : Int) = pl := by rw [IntKind.wrap_u8]; omega
  have hwc : IntKind.u8.wrap c = c := by rw [IntKind.wrap_u8]; omega
  go_enter Tryz.func59, Tryz.ntmps59
  go_wp2_with fail
  rw [← hwa]
  rw [← hwa] at HT0
  clear hwa
  have n0 := World.new_ne wa _ z0
  have n1 := World.new_ne wa _ y0
  have n2 := World.new_ne wa _ y1
  simp only at n0 n1 n2
  go_region_held (fun W => W.cell? ⟨w.heap.size, 0, none⟩ = some (.int .i64 c) ∧ W.cell? ⟨sb, soff + pl, none⟩ = some (.int .i64 s) ∧ W.cell? ⟨ob, 4, none⟩ = some (.slice (some ⟨sb, soff, none⟩) ss.length sc)) (go_keep) (fail)
  have HT1 : Hid (TmW w (wa.alloc (.cells #[.int .i64 s, .int .u16 0, .int .u16 0, .int .u16 0, .int .u16 0, .int .u8 pl, .int .u8 c] 52)).drew c (.slice (some ⟨eb, eoff, none⟩) xs.length ec) (ptF s pl c xs 0)) := HT0.out.next (Below.refl _ _).drew
  generalize (wa.alloc (.cells #[.int .i64 s, .int .u16 0, .int .u16 0, .int .u16 0, .int .u16 0, .int .u8 pl, .int .u8 c] 52)).drew = wb at HT1 ⊢
  rw [HSZ.out]
  clear HT0 z0 z1 y0 y1 n0 n1 n2
  have zb := HT1.out.b1
  go_wp2
  clear zb
  go_loopw [26] (fun i wr => ∃ k : Nat, k ≤ xs.length ∧ i = .int .i64 k ∧ TmW w wr c (.slice (some ⟨eb, eoff, none⟩) xs.length ec) (ptF s pl c xs k)) (fun i _ => xs.length - (intOf i).toNat)
  case atStart => exact ⟨0, Nat.zero_le _, rfl, HT1.out⟩
  case round =>
    clear HT1
    obtain ⟨k, hk, rfl, ht⟩ := hrel
    have HT := hid ht
    clear ht
    by_cases hk2 : k < xs.length
    · have x0 := cell_keep (hec k hk2) HT.out.below
      obtain ⟨hx1, hx2⟩ := HXS.out _ (getD_mem xs k hk2)
      have HSET := hid (pt_set s pl c xs k hk2 hx3)
      generalize xs.getD k 0 = x at x0 hx1 hx2 HSET
      have hwx : IntKind.u16.wrap x = x := by rw [IntKind.wrap_u16]; omega
      have hk4 : (k : Int) < 4 := by omega
      have z1 : ∃ u, wr.cell? ⟨w.heap.size + 1 + 1, 1 + k, none⟩ = some u := by
        have h := HT.out.own.cellAt (1 + k) (by omega)
        rw [List.getElem?_eq_getElem (by simp [encF]; omega)] at h
        exact ⟨_, h⟩
      obtain ⟨u, z1⟩ := z1
      have z2 := HT.out.own.frozenAt (1 + k)
      go_wp2
      go_roundw
      case rel => exact ⟨k + 1, by omega, by go_num, HT.out.put _ _ HSET.out⟩
      case measure => simp [intOf]; omega
    · have e : k = xs.length := by omega
      subst e
      have HAD := hid (fun (W : World) (hW : OrdB W ob p k0 k1 k2 (.slice (some ⟨sb, soff, none⟩) ss.length sc)) => added_any ob p k0 k1 k2 _ (ex3 xs xs.length 0) (ex3 xs xs.length 1) (ex3 xs xs.length 2) 0 W hW (ex3_bd HXS.out _ _) (ex3_bd HXS.out _ _) (ex3_bd HXS.out _ _) h0 h1 h2)
      unfold exV at HAD
      have HADB := hid (show -9007061815787520 * 3 ≤ ex3 xs xs.length 0 * k0 + ex3 xs xs.length 1 * k1 + ex3 xs xs.length 2 * k2 ∧ ex3 xs xs.length 0 * k0 + ex3 xs xs.length 1 * k1 + ex3 xs xs.length 2 * k2 ≤ 9007061815787520 * 3 from by
        obtain ⟨m0, q0⟩ := mulK (ex3_bd HXS.out xs.length 0) h0
        obtain ⟨m1, q1⟩ := mulK (ex3_bd HXS.out xs.length 1) h1
        obtain ⟨m2, q2⟩ := mulK (ex3_bd HXS.out xs.length 2) h2
        exact ⟨by omega, by omega⟩)
      have HFIN : Hid (ftO s k0 k1 k2 pl (c, xs) = ⟨s + (ex3 xs xs.length 0 * k0 + ex3 xs xs.length 1 * k1 + ex3 xs xs.length 2 * k2), ex3 xs xs.length 0, ex3 xs xs.length 1, ex3 xs xs.length 2, 0, pl, c⟩) := by
        show _ = _
        unfold ftO ex3
        rw [List.take_of_length_le (Nat.le_refl _)]
      have HTE : Hid (TmW w wr c (.slice (some ⟨eb, eoff, none⟩) xs.length ec) ⟨s, ex3 xs xs.length 0, ex3 xs xs.length 1, ex3 xs xs.length 2, 0, pl, c⟩) := HT.out
      generalize ex3 xs xs.length 0 = xa at HAD HADB HFIN HTE
      generalize ex3 xs xs.length 1 = xb at HAD HADB HFIN HTE
      generalize ex3 xs xs.length 2 = xd at HAD HADB HFIN HTE
      generalize xa * k0 + xb * k1 + xd * k2 = more at HAD HADB HFIN
      clear HT
      obtain ⟨m0, q0⟩ := HADB.out
      obtain ⟨m1, q1⟩ := HSS.out
      have hwk : IntKind.i64.wrap (s + more) = s + more := by rw [IntKind.wrap_i64]; omega
      clear m0 q0 m1 q1
      obtain ⟨y0, y1, y2, y3, y4, y5, y6⟩ := HTE.out.cells
      simp only at y0 y1 y2 y3 y4 y5 y6
      go_wp2
      go_region_with (go_at_call 97; refine (HAD.out _ ((HOB.out.below HTE.out.below).below (Below.refl _ _).drew)).mono ?_; rintro e w8 ⟨rfl, hb8⟩; have HT8 := hid ((HTE.out.next (Below.refl _ _).drew).next hb8); obtain ⟨u0, u1, u2, u3, u4, u5, u6⟩ := HT8.out.cells; simp only at u0 u1 u2 u3 u4 u5 u6; have uf := HT8.out.own.frozenAt 0; clear hb8)
      all_goals
        have HT9 := hid (HT8.out.put 0 (.int .i64 (s + more)) (t2 := ⟨s + more, xa, xb, xd, 0, pl, c⟩) rfl)
        generalize w8.setCell ⟨w.heap.size + 1 + 1, 0, none⟩ (.int .i64 (s + more)) = w9 at HT9 ⊢
        clear y0 y1 y2 y3 y4 y5 y6 u0 u1 u2 u3 u4 u5 u6 uf HT8 HTE
        obtain ⟨y0, y1, y2, y3, y4, y5, y6⟩ := HT9.out.cells
        simp only at y0 y1 y2 y3 y4 y5 y6
        have r0 := HT9.out.res.cellAt 0 (by omega)
        have q0 := HT9.out.res.frozenAt 0
        have r1 := HT9.out.res.cellAt 1 (by omega)
        have q1 := HT9.out.res.frozenAt 1
        have r2 := HT9.out.res.cellAt 2 (by omega)
        have q2 := HT9.out.res.frozenAt 2
        have r3 := HT9.out.res.cellAt 3 (by omega)
        have q3 := HT9.out.res.frozenAt 3
        have r4 := HT9.out.res.cellAt 4 (by omega)
        have q4 := HT9.out.res.frozenAt 4
        have r5 := HT9.out.res.cellAt 5 (by omega)
        have q5 := HT9.out.res.frozenAt 5
        have r6 := HT9.out.res.cellAt 6 (by omega)
        have q6 := HT9.out.res.frozenAt 6
        simp only [encF, List.getElem?_cons_zero, List.getElem?_cons_succ] at r0 r1 r2 r3 r4 r5 r6
        have HRP := hid (res_put HT9.out.res ⟨s + more, xa, xb, xd, 0, pl, c⟩)
        go_wp2
        have HRP2 : Hid ((((((((w9.setCell ⟨w.heap.size + 1, 0, none⟩ (.int .i64 (s + more))).setCell ⟨w.heap.size + 1, 1, none⟩ (.int .u16 xa)).setCell ⟨w.heap.size + 1, 2, none⟩ (.int .u16 xb)).setCell ⟨w.heap.size + 1, 3, none⟩ (.int .u16 xd)).setCell ⟨w.heap.size + 1, 4, none⟩ (.int .u16 0)).setCell ⟨w.heap.size + 1, 5, none⟩ (.int .u8 pl)).setCell ⟨w.heap.size + 1, 6, none⟩ (.int .u8 c)).ownsRow w.heap.size 52 7 (.slice (some ⟨w.heap.size + 1, 0, none⟩) 1 1) 1 (encF ⟨s + more, xa, xb, xd, 0, pl, c⟩) ∧ w9.grownBy (((((((w9.setCell ⟨w.heap.size + 1, 0, none⟩ (.int .i64 (s + more))).setCell ⟨w.heap.size + 1, 1, none⟩ (.int .u16 xa)).setCell ⟨w.heap.size + 1, 2, none⟩ (.int .u16 xb)).setCell ⟨w.heap.size + 1, 3, none⟩ (.int .u16 xd)).setCell ⟨w.heap.size + 1, 4, none⟩ (.int .u16 0)).setCell ⟨w.heap.size + 1, 5, none⟩ (.int .u8 pl)).setCell ⟨w.heap.size + 1, 6, none⟩ (.int .u8 c)) (some (w.heap.size + 1))) := HRP.out
        generalize (((((((w9.setCell ⟨w.heap.size + 1, 0, none⟩ (.int .i64 (s + more))).setCell ⟨w.heap.size + 1, 1, none⟩ (.int .u16 xa)).setCell ⟨w.heap.size + 1, 2, none⟩ (.int .u16 xb)).setCell ⟨w.heap.size + 1, 3, none⟩ (.int .u16 xd)).setCell ⟨w.heap.size + 1, 4, none⟩ (.int .u16 0)).setCell ⟨w.heap.size + 1, 5, none⟩ (.int .u8 pl)).setCell ⟨w.heap.size + 1, 6, none⟩ (.int .u8 c)) = wz at HRP2 ⊢
        have HBF := hid (HT9.out.below.trans (grown_below HRP2.out.2 (by omega) HT9.out.below.size))
        have HRR := hid (HRP2.out.1)
        rw [HFIN.out]
        refine bodyPost_ret (v := .agg #[.int .i64 (s + more), .int .u16 xa, .int .u16 xb, .int .u16 xd, .int .u16 0, .int .u8 pl, .int .u8 c]) ?_ rfl ⟨rfl, HBF.out⟩
        have x0 := HRR.out.cellAt 0 (by omega)
        have x1 := HRR.out.cellAt 1 (by omega)
        have x2 := HRR.out.cellAt 2 (by omega)
        have x3 := HRR.out.cellAt 3 (by omega)
        have x4 := HRR.out.cellAt 4 (by omega)
        have x5 := HRR.out.cellAt 5 (by omega)
        have x6 := HRR.out.cellAt 6 (by omega)
        simp only [encF, List.getElem?_cons_zero, List.getElem?_cons_succ] at x0 x1 x2 x3 x4 x5 x6
        simp [results, Tryz.results59, go_sem, x0, x1, x2, x3, x4, x5, x6]
theorem Tryz.infoI64Z : (Tryz.prog.info? 2).map (fun i => (i.zero, i.size, i.bytes)) = some (some (.int .i64 0), 1, 8) := by kernel_rfl
structure OrW (w wr : World) (p n o v k0 k1 k2 : Int) (sv : Value) (ss : List Int) : Prop where
  below : Below w.heap.size w wr
  box : BoxAt wr w.heap.size p n o v
  own : wr.ownsRow w.heap.size 104 5 (.slice (some ⟨w.heap.size + 1, 0, none⟩) 1 1) 1 [.int .u32 p, .int .i64 k0, .int .i64 k1, .int .i64 k2, sv]
  st : wr.ownsRow (w.heap.size + 1 + 1) 2 1 sv ss.length (ss.map (Value.int .i64))
  ge : w.heap.size + 1 + 1 ≤ wr.heap.size
theorem OrW.next {w wr w' : World} {p n o v k0 k1 k2 : Int} {sv : Value} {ss : List Int} (h : OrW w wr p n o v k0 k1 k2 sv ss) (hb : Below wr.heap.size wr w') : OrW w w' p n o v k0 k1 k2 sv ss :=
  ⟨h.below.trans (hb.mono h.below.size), h.box.below hb, ownBlock_lt h.own hb, ownBlock_lt h.st hb, Nat.le_trans h.ge hb.size⟩
theorem OrW.first (w : World) (p n o v : Int) : OrW w ((w.alloc (.cells #[.int .i64 p, .int .i64 n, .int .i64 o, .int .i64 v] 23)).alloc (.cells #[.int .u32 p, .int .i64 0, .int .i64 0, .int .i64 0, .slice none 0 0] 104)) p n o v 0 0 0 (.slice none 0 0) [] := by
  refine ⟨below_two, (BoxAt.new w p n o v _).below belowNew, ?_, World.ownsRow_nil _ _ _ _, by simp⟩
  exact ⟨by simp, .inr ⟨w.heap.size + 1, 1, _, rfl, by omega, by have := heap_alloc_new (w.alloc (.cells #[.int .i64 p, .int .i64 n, .int .i64 o, .int .i64 v] 23)) (.cells #[.int .u32 p, .int .i64 0, .int .i64 0, .int .i64 0, .slice none 0 0] 104); simpa using this, Nat.le_refl _, by decide, by simp, by simp⟩⟩
theorem OrW.put {w wr : World} {p n o v k0 k1 k2 l0 l1 l2 : Int} {sv sv2 : Value} {ss : List Int} (h : OrW w wr p n o v k0 k1 k2 sv ss) (j : Nat) (u : Value) (he : ([.int .u32 p, .int .i64 k0, .int .i64 k1, .int .i64 k2, sv] : List Value).set j u = [.int .u32 p, .int .i64 l0, .int .i64 l1, .int .i64 l2, sv2]) (hs : (wr.setCell ⟨w.heap.size + 1, j, none⟩ u).ownsRow (w.heap.size + 1 + 1) 2 1 sv2 ss.length (ss.map (Value.int .i64))) :
    OrW w (wr.setCell ⟨w.heap.size + 1, j, none⟩ u) p n o v l0 l1 l2 sv2 ss := by
  have s1 := h.own.stored j u
  rw [he] at s1
  have far := fun o => cell_far (o := o) (b := w.heap.size) s1.2 h.box.1 (by omega)
  obtain ⟨bl, b0, b1, b2, b3⟩ := h.box
  exact ⟨h.below.trans (grown_below s1.2 (by omega) h.below.size), ⟨Nat.lt_of_lt_of_le bl s1.2.size, by rw [far]; exact b0, by rw [far]; exact b1, by rw [far]; exact b2, by rw [far]; exact b3⟩, s1.1, hs, Nat.le_trans h.ge s1.2.size⟩
theorem OrW.putK {w wr : World} {p n o v k0 k1 k2 l0 l1 l2 : Int} {sv : Value} {ss : List Int} (h : OrW w wr p n o v k0 k1 k2 sv ss) (j : Nat) (u : Value) (he : ([.int .u32 p, .int .i64 k0, .int .i64 k1, .int .i64 k2, sv] : List Value).set j u = [.int .u32 p, .int .i64 l0, .int .i64 l1, .int .i64 l2, sv]) :
    OrW w (wr.setCell ⟨w.heap.size + 1, j, none⟩ u) p n o v l0 l1 l2 sv ss :=
  h.put j u he (h.st.kept (h.own.stored j u).2 (by
    cases ho : sv.ownBlock with
    | none => exact Or.inl rfl
    | some g => right; have := (World.ownsRow.lt h.st g ho).1; simp [Value.ownBlock]; omega))
theorem OrW.grow {w wr w5 : World} {p n o v k0 k1 k2 x : Int} {sv v5 : Value} {ss : List Int} (h : OrW w wr p n o v k0 k1 k2 sv ss) (h5 : w5.ownsRow (w.heap.size + 1 + 1) 2 1 v5 (ss.length + 1) (ss.map (Value.int .i64) ++ [.int .i64 x])) (hg : wr.grownBy w5 sv.ownBlock) :
    OrW w (w5.setCell ⟨w.heap.size + 1, 4, none⟩ v5) p n o v k0 k1 k2 v5 (ss ++ [x]) := by
  have hlt : ∀ g, sv.ownBlock = some g → w.heap.size + 1 + 1 ≤ g := fun g e => (World.ownsRow.lt h.st g e).1
  have o5 := h.own.kept hg (by
    right; intro e
    have := hlt (w.heap.size + 1) (by rw [← e]; rfl)
    omega)
  have b5 : Below (w.heap.size + 1) wr w5 := (Below.refl _ _).grown hg (Nat.le_trans (by omega) h.ge) (fun k hk => by have := hlt k hk; omega)
  have s1 := o5.stored 4 v5
  have b6 : Below (w.heap.size + 1) wr (w5.setCell ⟨w.heap.size + 1, 4, none⟩ v5) := b5.trans (grown_below s1.2 (Nat.le_refl _) (by have := h.ge; have := b5.size; omega))
  have far : ∀ o, (w5.setCell ⟨w.heap.size + 1, 4, none⟩ v5).cell? ⟨w.heap.size, o, none⟩ = wr.cell? ⟨w.heap.size, o, none⟩ := fun o => World.cell?_of_block (b6.block w.heap.size (by omega))
  obtain ⟨bl, b0, b1, b2, b3⟩ := h.box
  refine ⟨h.below.trans (b6.mono (by omega)), ⟨Nat.lt_of_lt_of_le bl b6.size, by rw [far]; exact b0, by rw [far]; exact b1, by rw [far]; exact b2, by rw [far]; exact b3⟩, by have h := s1.1; exact h, ?_, Nat.le_trans h.ge b6.size⟩
  have h6 := h5.kept s1.2 (by
    right; intro e
    have := (World.ownsRow.lt h5 (w.heap.size + 1) e).1
    omega)
  simpa using h6
theorem OrW.mid {w wr w5 : World} {p n o v k0 k1 k2 : Int} {sv : Value} {ss : List Int} (h : OrW w wr p n o v k0 k1 k2 sv ss) (hg : wr.grownBy w5 sv.ownBlock) : w5.ownsRow w.heap.size 104 5 (.slice (some ⟨w.heap.size + 1, 0, none⟩) 1 1) 1 [.int .u32 p, .int .i64 k0, .int .i64 k1, .int .i64 k2, sv] :=
  h.own.kept hg (by
    right; intro e
    have := (World.ownsRow.lt h.st (w.heap.size + 1) (by rw [← e]; rfl)).1
    omega)
theorem one_newD (wr : World) (x : Int) (T : TypeId) : ∀ j u, [Value.int .i64 x][j]? = some u → (wr.alloc (.cells #[.int .i64 x] T)).drew.cell? ((⟨wr.heap.size, 0, none⟩ : Addr).add j) = some u := by
  intro j u hj
  show (wr.alloc (.cells #[.int .i64 x] T)).cell? _ = _
  exact cell_one_new _ _ _ j u hj
theorem one_newE (wr : World) (x : Int) (T : TypeId) : ∀ j u, [Value.int .i64 x][j]? = some u → (wr.drew.alloc (.cells #[.int .i64 x] T)).cell? ((⟨wr.heap.size, 0, none⟩ : Addr).add j) = some u := by
  intro j u hj
  exact cell_one_new wr.drew _ _ j u hj
def WtN (o : Int) (n k i : Nat) : Int := if i < k ∧ i < n then WtK o i else 0
theorem wt_set (p o : Int) (n k : Nat) (sv : Value) (h : k < n) (h3 : n ≤ 3) : ([.int .u32 p, .int .i64 (WtN o n k 0), .int .i64 (WtN o n k 1), .int .i64 (WtN o n k 2), sv] : List Value).set (1 + k) (.int .i64 (WtK o k)) = [.int .u32 p, .int .i64 (WtN o n (k + 1) 0), .int .i64 (WtN o n (k + 1) 1), .int .i64 (WtN o n (k + 1) 2), sv] := by
  have hk : k = 0 ∨ k = 1 ∨ k = 2 := by omega
  have hn : n = 1 ∨ n = 2 ∨ n = 3 := by omega
  rcases hk with rfl | rfl | rfl <;> rcases hn with rfl | rfl | rfl <;> first | (exfalso; omega) | rfl

set_option maxRecDepth 100000 in
set_option maxHeartbeats 2000000 in
theorem newOrder_any (p o v : Int) (n R : Nat) (w : World) (hp : 2 ≤ p ∧ p ≤ 101) (ho : o = 1 ∨ o = 2) (hv : v = 1 ∨ v = 2) (hn : n ≤ 3) (hR : R ≤ 200) :
    Calls Tryz.prog 17 #[ringV p n o v, .int .i64 R, .int .i64 0] w fun e w' => ∃ ob sv, e = .returned (.pointer (some ⟨ob, 0, none⟩)) ∧ OrdB w' ob p (WtN o n n 0) (WtN o n n 1) (WtN o n n 2) sv ∧ Sl w' sv ((List.range R).map fun i : Nat => stK v (i : Int)) ∧ Below w.heap.size w w' := by
  have HO := hid ho
  have HV := hid hv
  obtain ⟨hp0, hp1⟩ := hp
  have hwp : IntKind.u32.wrap p = p := by rw [IntKind.wrap_u32]; omega
  have H0 := hid (OrW.first w p n o v)
  obtain ⟨w1, hw1⟩ : ∃ w1, w1 = (w.alloc (.cells #[.int .i64 p, .int .i64 n, .int .i64 o, .int .i64 v] 23)).alloc (.cells #[.int .u32 p, .int .i64 0, .int .i64 0, .int .i64 0, .slice none 0 0] 104) := ⟨_, rfl⟩
  rw [← hw1] at H0
  clear ho hv
  go_enter Tryz.func17, Tryz.ntmps17
  go_wp2_with fail
  rw [← hw1]
  clear hw1
  go_loopw [18] (fun i wr => ∃ k : Nat, k ≤ n ∧ i = .int .i64 k ∧ OrW w wr p n o v (WtN o n k 0) (WtN o n k 1) (WtN o n k 2) (.slice none 0 0) []) (fun i _ => n - (intOf i).toNat)
  case atStart => exact ⟨0, Nat.zero_le _, rfl, H0.out⟩
  case round =>
    clear H0
    obtain ⟨k, hk, rfl, ht⟩ := hrel
    have HT := hid ht
    clear ht
    by_cases hk2 : k < n
    · obtain ⟨_, b0, b1, b2, b3⟩ := HT.out.box
      have HWT := hid (fun (W : World) => weight_any o k W HO.out (by omega))
      have HSET := hid (wt_set p o n k (.slice none 0 0) hk2 hn)
      have z1 : ∃ u, wr.cell? ⟨w.heap.size + 1, 1 + k, none⟩ = some u := by
        have h := HT.out.own.cellAt (1 + k) (by omega)
        rw [List.getElem?_eq_getElem (by simp; omega)] at h
        exact ⟨_, h⟩
      obtain ⟨u, z1⟩ := z1
      have z2 := HT.out.own.frozenAt (1 + k)
      have hk3 : (k : Int) < 3 := by omega
      generalize WtK o k = wk at HWT HSET
      go_wp2
      go_region_with (go_at_call 55; refine (HWT.out _).mono ?_; rintro e w8 ⟨rfl, rfl⟩)
      all_goals
        go_wp2
        go_roundw
        case rel => exact ⟨k + 1, by omega, by go_num, by first | exact (HT.out.next (Below.refl _ _).drew).putK _ _ HSET.out | exact (HT.out.putK _ _ HSET.out).next (Below.refl _ _).drew⟩
        case measure => simp [intOf]; omega
    · have e : k = n := by omega
      subst e
      generalize hg0 : WtN o k k 0 = g0 at HT
      generalize hg1 : WtN o k k 1 = g1 at HT
      generalize hg2 : WtN o k k 2 = g2 at HT
      have HG := hid (And.intro hg0 (And.intro hg1 hg2))
      clear hg0 hg1 hg2
      go_wp2
      go_loopw [32] (fun i wr => ∃ (m : Nat) (sv : Value), m ≤ R ∧ i = .int .i64 m ∧ OrW w wr p k o v g0 g1 g2 sv ((List.range m).map fun i : Nat => stK v (i : Int))) (fun i _ => R - (intOf i).toNat)
      case atStart => exact ⟨0, _, Nat.zero_le _, rfl, HT.out⟩
      case round =>
        clear HT
        obtain ⟨m, sv, hm, rfl, ht⟩ := hrel
        have HT := hid ht
        clear ht
        by_cases hm2 : m < R
        · obtain ⟨_, b0, b1, b2, b3⟩ := HT.out.box
          have HSA := hid (fun (W : World) => start_any v m W HV.out (by omega))
          have HR : Hid (((List.range (m + 1)).map fun i : Nat => stK v (i : Int)) = ((List.range m).map fun i : Nat => stK v (i : Int)) ++ [stK v m]) := by
            show _ = _
            rw [List.range_succ]; simp
          have HL : Hid (((List.range m).map fun i : Nat => stK v (i : Int)).length = m) := by show _ = _; simp
          generalize ((List.range m).map fun i : Nat => stK v (i : Int)) = ss at HT HR HL
          generalize stK v m = x at HSA HR
          have z1 : wr.cell? ⟨w.heap.size + 1, 4, none⟩ = some sv := HT.out.own.cellAt 4 (by omega)
          have z2 := HT.out.own.frozenAt 4
          obtain ⟨ya, yc, hy⟩ := own_sl' HT.out.st
          rw [HL.out] at hy
          subst hy
          obtain ⟨i0, hi0, hz0, hz1, hz2⟩ : ∃ i0, Tryz.prog.info? 2 = some i0 ∧ i0.zero = some (.int .i64 0) ∧ i0.size = 1 ∧ i0.bytes = 8 := by
            have h := Tryz.infoI64Z
            cases hi : Tryz.prog.info? 2 with
            | none => rw [hi] at h; cases h
            | some i0 => rw [hi] at h; simp only [Option.map_some, Option.some.injEq, Prod.mk.injEq] at h; exact ⟨i0, rfl, h.1, h.2.1, h.2.2⟩
          have HI := hid (And.intro hi0 (And.intro hz0 (And.intro hz1 hz2)))
          clear hi0 hz0 hz1 hz2
          have HOWN : Hid (∀ W, Below wr.heap.size wr W → W.ownsRow (w.heap.size + 1 + 1) 2 1 (.slice ya m yc) ss.length (ss.map (Value.int .i64))) := fun W hb => ownBlock_lt HT.out.st hb
          go_wp2
          have HA := hid (HT.out.next ((belowNew (w := wr) (A := .cells #[.int .i64 x] 2)).drew))
          have HB := hid (HT.out.next (((Below.refl wr.heap.size wr).drew).alloc (Nat.le_refl _) (.cells #[.int .i64 x] 2)))
          have z3 : (wr.alloc (.cells #[.int .i64 x] 2)).cell? ⟨w.heap.size + 1, 4, none⟩ = some (.slice ya m yc) := HA.out.own.cellAt 4 (by omega)
          have z4 : (wr.drew.alloc (.cells #[.int .i64 x] 2)).cell? ⟨w.heap.size + 1, 4, none⟩ = some (.slice ya m yc) := HB.out.own.cellAt 4 (by omega)
          go_region_law (first
            | (refine step_append_own rfl (.tmp 39) (.tmp 44) 102 rfl (w.heap.size + 1 + 1) 2 i0 (.int .i64 0) 1 8 Tryz.underlying102 HI.out.1 HI.out.2.1 HI.out.2.2.1 HI.out.2.2.2 rfl (by decide) (.slice ya m yc) ss.length (ss.map (Value.int .i64)) (by simp [Act.eval, Act.put]) HA.out.st ⟨wr.heap.size, 0, none⟩ 1 1 [.int .i64 x] (by simp [Act.eval, Act.put]) rfl (one_newD wr x _) (one_cell1 _) (by unfold maxLen; have := HL.out; omega) (by have := HL.out; omega) HA.out.ge ?_; intro v5 w5 r1 r2 r3; obtain ⟨va5, vc5, hv5⟩ := own_sl' r1; subst hv5; have HM := hid (HA.out.grow r1 r2); have y1 : w5.cell? ⟨w.heap.size + 1, 4, none⟩ = some (.slice ya m yc) := (HA.out.mid r2).cellAt 4 (by omega); have y2 := (HA.out.mid r2).frozenAt 4; clear r1 r2 r3)
            | (refine step_append_own rfl (.tmp 39) (.tmp 44) 102 rfl (w.heap.size + 1 + 1) 2 i0 (.int .i64 0) 1 8 Tryz.underlying102 HI.out.1 HI.out.2.1 HI.out.2.2.1 HI.out.2.2.2 rfl (by decide) (.slice ya m yc) ss.length (ss.map (Value.int .i64)) (by simp [Act.eval, Act.put]) HB.out.st ⟨wr.heap.size, 0, none⟩ 1 1 [.int .i64 x] (by simp [Act.eval, Act.put]) rfl (one_newE wr x _) (one_cell1 _) (by unfold maxLen; have := HL.out; omega) (by have := HL.out; omega) HB.out.ge ?_; intro v5 w5 r1 r2 r3; obtain ⟨va5, vc5, hv5⟩ := own_sl' r1; subst hv5; have HM := hid (HB.out.grow r1 r2); have y1 : w5.cell? ⟨w.heap.size + 1, 4, none⟩ = some (.slice ya m yc) := (HB.out.mid r2).cellAt 4 (by omega); have y2 := (HB.out.mid r2).frozenAt 4; clear r1 r2 r3)
            | (go_simp; refine (HSA.out _).mono ?_; rintro e w8 ⟨rfl, rfl⟩; dsimp only))
          all_goals
            go_wp2
            go_roundw
            case rel => exact ⟨m + 1, _, by omega, by go_num, by rw [HR.out]; exact HM.out⟩
            case measure => simp [intOf]; omega
        · have e : m = R := by omega
          subst e
          go_wp2
          refine wp_loop_rounds 1 ?_
          rw [rounds_succ]
          go_wp2
          go_ret
          refine ⟨w.heap.size + 1, sv, rfl, ?_, ownsRow_sl HT.out.st, HT.out.below⟩
          rw [HG.out.1, HG.out.2.1, HG.out.2.2]
          have ho := HT.out.own
          have hl := HT.out.ge
          exact ⟨by omega, ho.cellAt 0 (by omega), ho.cellAt 1 (by omega), ho.cellAt 2 (by omega), ho.cellAt 3 (by omega), ho.cellAt 4 (by omega)⟩
end Go.Proofs.YtilogbggilchaaaGreat
