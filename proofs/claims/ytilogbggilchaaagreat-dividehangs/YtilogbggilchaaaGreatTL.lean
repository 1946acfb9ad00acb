/- checkTerm, checkFalling: what is told of one term. -/
import Derived.Test.YtilogbggilchaaaGreatPN
import Derived.Test.YtilogbggilchaaaGreatFN
namespace Go.Proofs.YtilogbggilchaaaGreat
set_option linter.unusedSimpArgs false
set_option linter.unusedVariables false
open Go.RowKit
def errTm (least p n : Int) (t : Tm) : Int := if t.1 < least ∨ p ≤ t.1 then 3 else errM n t.2
def errAt (p n o : Int) (ts : List Tm) (k : Nat) : Int :=
  if errTm 1 p n (ts.getD k noT) ≠ 0 then errTm 1 p n (ts.getD k noT) else if okPrev o (prevE ts k) (ts.getD k noT).2 = false then 4 else 0
def firstN (E : Nat → Int) : Nat → Nat → Int
  | 0, _ => 0
  | m + 1, k => if E k ≠ 0 then E k else firstN E m (k + 1)
theorem firstN_at (E : Nat → Int) {k m : Nat} (h : k < m) : firstN E (m - k) k = if E k ≠ 0 then E k else firstN E (m - (k + 1)) (k + 1) := by
  obtain ⟨d, rfl⟩ : ∃ d, m = k + 1 + d := ⟨m - (k + 1), by omega⟩
  rw [show k + 1 + d - k = d + 1 by omega, show k + 1 + d - (k + 1) = d by omega]
  rfl
theorem firstN_from {p n o : Int} (ts : List Tm) : ∀ (m k : Nat), k + m = ts.length → firstN (errAt p n o ts) m k = errFrom p n o (prevE ts k) (ts.drop k)
  | 0, k, h => by rw [List.drop_eq_nil_of_le (by omega)]; rfl
  | m + 1, k, h => by
    have hk : k < ts.length := by omega
    rw [errFrom_drop p n o ts k hk]
    have ih := firstN_from (p := p) (n := n) (o := o) ts m (k + 1) (by omega)
    have hu : firstN (errAt p n o ts) (m + 1) k = if errAt p n o ts k ≠ 0 then errAt p n o ts k else firstN (errAt p n o ts) m (k + 1) := rfl
    rw [hu, ih]
    unfold errAt errTm
    generalize ts.getD k noT = t
    have hb : betweenB t.1 1 (p - 1) = false ↔ (t.1 < 1 ∨ p ≤ t.1) := by
      have e : betweenB t.1 1 (p - 1) = decide (1 ≤ t.1 ∧ t.1 ≤ p - 1) := by simp [betweenB]
      rw [e, decide_eq_false_iff_not]; omega
    by_cases h1 : t.1 < 1 ∨ p ≤ t.1
    · rw [if_pos (hb.2 h1), if_pos h1]; simp
    · rw [if_neg (fun h => h1 (hb.1 h)), if_neg h1]
      by_cases h2 : errM n t.2 ≠ 0
      · rw [if_pos h2, if_pos h2, if_pos h2]
      · rw [if_neg h2, if_neg h2]
        cases h3 : okPrev o (prevE ts k) t.2 <;> simp
theorem errAt_ok {p n o : Int} {ts : List Tm} {k : Nat} (h : errAt p n o ts k = 0) : errM n (ts.getD k noT).2 = 0 := by
  unfold errAt at h
  by_cases h1 : errTm 1 p n (ts.getD k noT) = 0
  · unfold errTm at h1
    split at h1
    · omega
    · exact h1
  · rw [if_pos h1] at h; exact absurd h h1
theorem errAll_one {p n o v : Int} {te : List Int} (hR : errR p n o v = 0) : errAll p n o v [te] = errM n te := by
  unfold errAll; rw [if_pos hR]; simp only [firstErr]
  split
  · rename_i h; exact h.symm
  · rfl

set_option maxRecDepth 100000 in
set_option maxHeartbeats 1000000 in
theorem checkTerm_any (p n o v least c : Int) (ev : Value) (te : List Int) (w : World) (hR : errR p n o v = 0) (hs : Sl w ev te) :
    Calls Tryz.prog 132 #[ringV p n o v, .int .i64 least, .agg #[.int .i64 c, ev]] w fun e w' => e = .returned (.int .i64 (errTm least p n (c, te))) ∧ Below w.heap.size w w' := by
  have HS := hid hs
  have HALL := hid (errAll_one (te := te) hR)
  obtain ⟨a, cap, rfl, _⟩ := hs
  have HB2 : Hid (∀ A B, Below w.heap.size w ((w.alloc A).alloc B)) := fun A B => below_two
  clear hR
  by_cases h1 : c < least
  · have HE : Hid (errTm least p n (c, te) = 3) := by show _ = _; unfold errTm; rw [if_pos (Or.inl h1)]
    rw [HE.out]
    go_enter Tryz.func132, Tryz.ntmps132
    go_wp2
    go_ret
    exact ⟨rfl, HB2.out _ _⟩
  · by_cases h2 : p ≤ c
    · have HE : Hid (errTm least p n (c, te) = 3) := by show _ = _; unfold errTm; rw [if_pos (Or.inr h2)]
      rw [HE.out]
      go_enter Tryz.func132, Tryz.ntmps132
      go_wp2
      go_ret
      exact ⟨rfl, HB2.out _ _⟩
    · have HE : Hid (errTm least p n (c, te) = errM n te) := by show _ = _; unfold errTm; rw [if_neg (by simp only; omega)]
      rw [HE.out]
      go_enter Tryz.func132, Tryz.ntmps132
      go_wp2_with (go_at_call 144; refine (monoCheck_any p n o v _ te _ (HS.out.below (HB2.out _ _))).mono ?_; rw [HALL.out]; rintro e w2 ⟨rfl, hb2⟩; have HB9 := hid ((HB2.out _ _).trans (hb2.mono (HB2.out _ _).size)); clear hb2)
      go_ret
      exact ⟨rfl, HB9.out⟩

set_option maxRecDepth 100000 in
set_option maxHeartbeats 2000000 in
theorem checkFalling_any (p n o v : Int) (fv : Value) (ts : List Tm) (k : Nat) (w : World) (hR : errR p n o v = 0) (hk2 : k < ts.length) (hlen : ts.length ≤ 2000) (hq : ∀ j, j < k → errM n (ts.getD j noT).2 = 0) (pf : Pl w fv ts) :
    Calls Tryz.prog 120 #[ringV p n o v, fv, .int .i64 k] w fun e w' => e = .returned (.int .i64 (errAt p n o ts k)) ∧ Below w.heap.size w w' := by
  obtain ⟨fa, fc, rfl, _, hfc⟩ := pf
  obtain ⟨b, off, rfl, hlt, hat⟩ := hfc (by omega)
  obtain ⟨_, hn1, hn2, ho, _⟩ := ring_ok hR
  have HR := hid hR
  have HO := hid ho
  have HQ := hid hq
  obtain ⟨w1, hw1⟩ : ∃ w1, w1 = w.alloc (.cells #[.int .i64 p, .int .i64 n, .int .i64 o, .int .i64 v] 23) := ⟨_, rfl⟩
  have hbx : BoxAt w1 w.heap.size p n o v := by rw [hw1]; exact BoxAt.new w p n o v _
  have hbw : Below w.heap.size w w1 := by rw [hw1]; exact below_oneG
  obtain ⟨_, bx0, bx1, bx2, bx3⟩ := hbx
  have HBW := hid hbw
  have HB0 : Hid (Below w1.heap.size w1 w1.drew) := (Below.refl _ _).drew
  obtain ⟨c0, ev, c1, hse⟩ := hat k hk2
  have HAT := hid hat
  have HER : Hid (errAt p n o ts k = if errTm 1 p n (ts.getD k noT) ≠ 0 then errTm 1 p n (ts.getD k noT) else if okPrev o (prevE ts k) (ts.getD k noT).2 = false then 4 else 0) := rfl
  generalize ts.getD k noT = t at c0 hse HER
  obtain ⟨tc, te⟩ := t
  have HSE := hid (hse.below hbw)
  obtain ⟨ea, ec, rfl, _⟩ := hse
  simp only at c0 c1 HER
  have KEEP : Hid (∀ W, Below w1.heap.size w1 W → (Hid (Below w1.heap.size w1 W) ∧ W.cell? ⟨w.heap.size, 0, none⟩ = some (.int .i64 p) ∧ W.cell? ⟨w.heap.size, 1, none⟩ = some (.int .i64 n) ∧ W.cell? ⟨w.heap.size, 2, none⟩ = some (.int .i64 o) ∧ W.cell? ⟨w.heap.size, 3, none⟩ = some (.int .i64 v) ∧ W.cell? ⟨b, off + k * 2, none⟩ = some (.int .i64 tc) ∧ W.cell? ⟨b, off + k * 2 + 1, none⟩ = some (.slice ea te.length ec))) :=
    fun W hb => ⟨hb, cell_keep bx0 hb, cell_keep bx1 hb, cell_keep bx2 hb, cell_keep bx3 hb, cell_keep (cell_keep c0 hbw) hb, cell_keep (cell_keep c1 hbw) hb⟩
  have KEEPC := hid (fun (W : World) (hb : Below w1.heap.size w1 W) (b2 o2 : Nat) (u : Value) (hc : w.cell? ⟨b2, o2, none⟩ = some u) => cell_keep (cell_keep hc hbw) hb)
  clear hR ho hq hat c0 c1 bx0 bx1 bx2 bx3 hbw
  cases hz : (errTm 1 p n (tc, te) != 0)
  · have hz0 : errTm 1 p n (tc, te) = 0 := by simpa using hz
    have HZ := hid hz0
    have hem : errM n te = 0 := by
      unfold errTm at hz0
      split at hz0
      · omega
      · exact hz0
    have HEM := hid hem
    clear hz0 hem
    rcases Nat.eq_zero_or_pos k with rfl | hpos
    · simp only [Nat.zero_mul, Nat.add_zero] at KEEP
      have HEE : Hid (errAt p n o ts 0 = 0) := by show _ = _; rw [HER.out, if_neg (by simpa using HZ.out), if_neg (by simp [prevE, okPrev])]
      rw [HEE.out]
      go_enter Tryz.func120, Tryz.ntmps120
      go_wp2_with fail
      rw [← hw1]
      clear hw1
      go_region_held (fun W => Hid (Below w1.heap.size w1 W) ∧ W.cell? ⟨w.heap.size, 0, none⟩ = some (.int .i64 p) ∧ W.cell? ⟨w.heap.size, 1, none⟩ = some (.int .i64 n) ∧ W.cell? ⟨w.heap.size, 2, none⟩ = some (.int .i64 o) ∧ W.cell? ⟨w.heap.size, 3, none⟩ = some (.int .i64 v) ∧ W.cell? ⟨b, off, none⟩ = some (.int .i64 tc) ∧ W.cell? ⟨b, off + 1, none⟩ = some (.slice ea te.length ec))
        (first | exact KEEP.out _ HB0.out | exact KEEP.out _ (HB0.out.trans (hb9.mono HB0.out.size)))
        (first | (go_at_call 132; refine (checkTerm_any p n o v 1 tc _ te _ HR.out ?_).mono ?_; exact HSE.out.below HB0.out; rintro e w9 ⟨rfl, hb9⟩))
      have HB9 := hid (show Below w1.heap.size w1 w9 from HB0.out.trans (hb9.mono HB0.out.size))
      clear hb9
      rw [HZ.out]
      go_wp2_with fail
      go_quiet (fail)
      have HQ1 := hid (below_drewN HB9.out nq)
      go_wp2
      go_ret
      exact ⟨rfl, HBW.out.trans (HQ1.out.mono HBW.out.size)⟩
    · have hk3 : k - 1 < ts.length := by omega
      obtain ⟨_, ev2, d1, hse2⟩ := HAT.out (k - 1) hk3
      have HPE : Hid (prevE ts k = some (ts.getD (k - 1) noT).2) := by
        obtain ⟨m, rfl⟩ : ∃ m, k = m + 1 := ⟨k - 1, by omega⟩
        rfl
      have HQE := hid (HQ.out (k - 1) (by omega))
      generalize ts.getD (k - 1) noT = q at hse2 HPE HQE
      obtain ⟨qc, qe⟩ := q
      have HSE2 := hid (hse2.below HBW.out)
      obtain ⟨ea2, ec2, rfl, _⟩ := hse2
      simp only at d1 HPE HQE
      have hqo := errM_ok HQE.out
      have hto := errM_ok HEM.out
      have HLL : Hid (qe.length = te.length) := by have h1 := hqo.1; have h2 := hto.1; show _ = _; omega
      have hq0 : 0 < qe.length := by have h1 := hqo.1; omega
      have hq3 : qe.length ≤ 3 := by have h1 := hqo.1; omega
      have HQB := hid (And.intro (show ∀ x ∈ qe, 0 ≤ x ∧ x ≤ 40000 from fun x hx => by have := hqo.2.1 x hx; omega) (show ∀ x ∈ te, 0 ≤ x ∧ x ≤ 40000 from fun x hx => by have := hto.2.1 x hx; omega))
      have KEEP2 : Hid (∀ W, Below w1.heap.size w1 W → (Hid (Below w1.heap.size w1 W) ∧ W.cell? ⟨w.heap.size, 0, none⟩ = some (.int .i64 p) ∧ W.cell? ⟨w.heap.size, 1, none⟩ = some (.int .i64 n) ∧ W.cell? ⟨w.heap.size, 2, none⟩ = some (.int .i64 o) ∧ W.cell? ⟨w.heap.size, 3, none⟩ = some (.int .i64 v) ∧ W.cell? ⟨b, off + k * 2, none⟩ = some (.int .i64 tc) ∧ W.cell? ⟨b, off + k * 2 + 1, none⟩ = some (.slice ea te.length ec) ∧ W.cell? ⟨b, off + (k - 1) * 2 + 1, none⟩ = some (.slice ea2 qe.length ec2))) := fun W hb => by
        have h := KEEP.out W hb
        exact ⟨h.1, h.2.1, h.2.2.1, h.2.2.2.1, h.2.2.2.2.1, h.2.2.2.2.2.1, h.2.2.2.2.2.2, KEEPC.out W hb _ _ _ d1⟩
      obtain ⟨hq1, hq2, hq4, hq5, hq6, hq7, hq8⟩ := predFacts hpos hk2
      have hwr := wrapPred hpos (Nat.le_trans (Nat.le_of_lt hk2) hlen)
      clear hqo hto d1
      by_cases hgt : ordS o qe te ≤ 0
      · have HEE : Hid (errAt p n o ts k = 4) := by
          show _ = _
          rw [HER.out, if_neg (by simpa using HZ.out), HPE.out, if_pos]
          show moreB o qe te = false
          unfold moreB; exact decide_eq_false (by omega)
        rw [HEE.out]
        go_enter Tryz.func120, Tryz.ntmps120
        go_wp2_with fail
        rw [← hw1]
        clear hw1
        go_region_held (fun W => Hid (Below w1.heap.size w1 W) ∧ W.cell? ⟨w.heap.size, 0, none⟩ = some (.int .i64 p) ∧ W.cell? ⟨w.heap.size, 1, none⟩ = some (.int .i64 n) ∧ W.cell? ⟨w.heap.size, 2, none⟩ = some (.int .i64 o) ∧ W.cell? ⟨w.heap.size, 3, none⟩ = some (.int .i64 v) ∧ W.cell? ⟨b, off + k * 2, none⟩ = some (.int .i64 tc) ∧ W.cell? ⟨b, off + k * 2 + 1, none⟩ = some (.slice ea te.length ec))
          (first | exact KEEP.out _ HB0.out | exact KEEP.out _ (HB0.out.trans (hb9.mono HB0.out.size)))
          (first | (go_at_call 132; refine (checkTerm_any p n o v 1 tc _ te _ HR.out ?_).mono ?_; exact HSE.out.below HB0.out; rintro e w9 ⟨rfl, hb9⟩))
        have HB9 := hid (show Below w1.heap.size w1 w9 from HB0.out.trans (hb9.mono HB0.out.size))
        clear hb9
        rw [HZ.out]
        go_wp2_with fail
        go_region_held (fun W => Hid (Below w1.heap.size w1 W) ∧ W.cell? ⟨w.heap.size, 0, none⟩ = some (.int .i64 p) ∧ W.cell? ⟨w.heap.size, 1, none⟩ = some (.int .i64 n) ∧ W.cell? ⟨w.heap.size, 2, none⟩ = some (.int .i64 o) ∧ W.cell? ⟨w.heap.size, 3, none⟩ = some (.int .i64 v) ∧ W.cell? ⟨b, off + k * 2, none⟩ = some (.int .i64 tc) ∧ W.cell? ⟨b, off + k * 2 + 1, none⟩ = some (.slice ea te.length ec) ∧ W.cell? ⟨b, off + (k - 1) * 2 + 1, none⟩ = some (.slice ea2 qe.length ec2))
          (first | exact KEEP2.out _ HB9.out.drew | exact KEEP2.out _ (HB9.out.drew.trans (hb8.mono HB9.out.drew.size)))
          (first | (go_at_call 109; refine (bareCompare_any p n o v _ _ qe te _ HO.out hq0 hq3 HLL.out HQB.out.1 HQB.out.2 ?_ ?_).mono ?_; exact HSE2.out.below HB9.out.drew; exact HSE.out.below HB9.out.drew; rintro e w8 ⟨rfl, hb8⟩))
        have HB8 := hid (show Below w1.heap.size w1 w8 from HB9.out.drew.trans (hb8.mono HB9.out.drew.size))
        clear hb8
        go_wp2_with fail
        go_ret
        exact ⟨rfl, HBW.out.trans (HB8.out.mono HBW.out.size)⟩
      · have HEE : Hid (errAt p n o ts k = 0) := by
          show _ = _
          rw [HER.out, if_neg (by simpa using HZ.out), HPE.out, if_neg]
          show ¬ moreB o qe te = false
          unfold moreB; rw [decide_eq_true (show 0 < ordS o qe te by omega)]; simp
        rw [HEE.out]
        go_enter Tryz.func120, Tryz.ntmps120
        go_wp2_with fail
        rw [← hw1]
        clear hw1
        go_region_held (fun W => Hid (Below w1.heap.size w1 W) ∧ W.cell? ⟨w.heap.size, 0, none⟩ = some (.int .i64 p) ∧ W.cell? ⟨w.heap.size, 1, none⟩ = some (.int .i64 n) ∧ W.cell? ⟨w.heap.size, 2, none⟩ = some (.int .i64 o) ∧ W.cell? ⟨w.heap.size, 3, none⟩ = some (.int .i64 v) ∧ W.cell? ⟨b, off + k * 2, none⟩ = some (.int .i64 tc) ∧ W.cell? ⟨b, off + k * 2 + 1, none⟩ = some (.slice ea te.length ec))
          (first | exact KEEP.out _ HB0.out | exact KEEP.out _ (HB0.out.trans (hb9.mono HB0.out.size)))
          (first | (go_at_call 132; refine (checkTerm_any p n o v 1 tc _ te _ HR.out ?_).mono ?_; exact HSE.out.below HB0.out; rintro e w9 ⟨rfl, hb9⟩))
        have HB9 := hid (show Below w1.heap.size w1 w9 from HB0.out.trans (hb9.mono HB0.out.size))
        clear hb9
        rw [HZ.out]
        go_wp2_with fail
        go_region_held (fun W => Hid (Below w1.heap.size w1 W) ∧ W.cell? ⟨w.heap.size, 0, none⟩ = some (.int .i64 p) ∧ W.cell? ⟨w.heap.size, 1, none⟩ = some (.int .i64 n) ∧ W.cell? ⟨w.heap.size, 2, none⟩ = some (.int .i64 o) ∧ W.cell? ⟨w.heap.size, 3, none⟩ = some (.int .i64 v) ∧ W.cell? ⟨b, off + k * 2, none⟩ = some (.int .i64 tc) ∧ W.cell? ⟨b, off + k * 2 + 1, none⟩ = some (.slice ea te.length ec) ∧ W.cell? ⟨b, off + (k - 1) * 2 + 1, none⟩ = some (.slice ea2 qe.length ec2))
          (first | exact KEEP2.out _ HB9.out.drew | exact KEEP2.out _ (HB9.out.drew.trans (hb8.mono HB9.out.drew.size)))
          (first | (go_at_call 109; refine (bareCompare_any p n o v _ _ qe te _ HO.out hq0 hq3 HLL.out HQB.out.1 HQB.out.2 ?_ ?_).mono ?_; exact HSE2.out.below HB9.out.drew; exact HSE.out.below HB9.out.drew; rintro e w8 ⟨rfl, hb8⟩))
        have HB8 := hid (show Below w1.heap.size w1 w8 from HB9.out.drew.trans (hb8.mono HB9.out.drew.size))
        clear hb8
        go_wp2_with fail
        go_ret
        exact ⟨rfl, HBW.out.trans (HB8.out.mono HBW.out.size)⟩
  · have HEE : Hid (errAt p n o ts k = errTm 1 p n (tc, te)) := by show _ = _; rw [HER.out, if_pos (by simpa using hz)]
    rw [HEE.out]
    go_enter Tryz.func120, Tryz.ntmps120
    go_wp2_with fail
    rw [← hw1]
    clear hw1
    go_region_held (fun W => Hid (Below w1.heap.size w1 W) ∧ W.cell? ⟨w.heap.size, 0, none⟩ = some (.int .i64 p) ∧ W.cell? ⟨w.heap.size, 1, none⟩ = some (.int .i64 n) ∧ W.cell? ⟨w.heap.size, 2, none⟩ = some (.int .i64 o) ∧ W.cell? ⟨w.heap.size, 3, none⟩ = some (.int .i64 v) ∧ W.cell? ⟨b, off + k * 2, none⟩ = some (.int .i64 tc) ∧ W.cell? ⟨b, off + k * 2 + 1, none⟩ = some (.slice ea te.length ec))
      (first | exact KEEP.out _ HB0.out | exact KEEP.out _ (HB0.out.trans (hb9.mono HB0.out.size)))
      (first | (go_at_call 132; refine (checkTerm_any p n o v 1 tc _ te _ HR.out ?_).mono ?_; exact HSE.out.below HB0.out; rintro e w9 ⟨rfl, hb9⟩))
    have HB9 := hid (show Below w1.heap.size w1 w9 from HB0.out.trans (hb9.mono HB0.out.size))
    clear hb9
    go_wp2
    go_ret
    exact ⟨rfl, HBW.out.trans (HB9.out.mono HBW.out.size)⟩
def errTs (p n o v : Int) (len : Nat) (E : Nat → Int) : Int := if errR p n o v ≠ 0 then errR p n o v else if 2000 < len then 2 else firstN E len 0
theorem firstN_skip (E : Nat → Int) (m : Nat) : ∀ k, k ≤ m → (∀ j, j < k → E j = 0) → firstN E m 0 = firstN E (m - k) k
  | 0, _, _ => rfl
  | k + 1, hk, h => by
    rw [firstN_skip E m k (by omega) (fun j hj => h j (by omega)), firstN_at E (show k < m by omega), if_neg (by simpa using h k (by omega))]
theorem firstN_all {E : Nat → Int} {m : Nat} (h : ∀ j, j < m → E j = 0) : firstN E m 0 = 0 := by
  rw [firstN_skip E m m (Nat.le_refl _) h, Nat.sub_self]; rfl
theorem firstN_hit {E : Nat → Int} {m k : Nat} (hk : k < m) (h : ∀ j, j < k → E j = 0) (h2 : E k ≠ 0) : firstN E m 0 = E k := by
  rw [firstN_skip E m k (by omega) h, firstN_at E hk, if_pos h2]

set_option maxRecDepth 100000 in
set_option maxHeartbeats 2000000 in
theorem checkTermsA_any (p n o v : Int) (lv : Value) (ts : List Tm) (rb fb : Nat) (E : Nat → Int) (w : World) (pf : Pl w lv ts)
    (H : errR p n o v = 0 → ts.length ≤ 2000 → ∀ i w', i < ts.length → (∀ j, j < i → E j = 0) → Below w.heap.size w w' → Calls Tryz.prog 119 #[.int .i64 i, .pointer (some ⟨rb, 0, none⟩), .pointer (some ⟨fb, 0, none⟩)] w' fun e w'' => e = .returned (.int .i64 (E i)) ∧ Below w'.heap.size w' w'') :
    Calls Tryz.prog 118 #[ringV p n o v, lv, .func (.func 119) #[] #[.pointer (some ⟨rb, 0, none⟩), .pointer (some ⟨fb, 0, none⟩)]] w fun e w' => e = .returned (.int .i64 (errTs p n o v ts.length E)) ∧ Below w.heap.size w w' := by
  obtain ⟨a, c, rfl, _, _⟩ := pf
  have HH := hid H
  clear H
  cases hR : (errR p n o v != 0)
  · have hR0 : errR p n o v = 0 := by simpa using hR
    have HR := hid hR0
    clear hR0
    by_cases hlen : 2000 < ts.length
    · have he : errTs p n o v ts.length E = 2 := by unfold errTs; rw [if_neg (by simpa using HR.out), if_pos hlen]
      rw [he]; clear he
      go_enter Tryz.func118, Tryz.ntmps118
      go_wp2_with (go_at_call 84; refine (ring_any _ _ _ _ _).mono ?_; rintro e w1 ⟨rfl, hb1⟩)
      go_ret
      exact ⟨rfl, below_oneG.trans (hb1.mono (by simp))⟩
    · have he : errTs p n o v ts.length E = firstN E ts.length 0 := by unfold errTs; rw [if_neg (by simpa using HR.out), if_neg hlen]
      rw [he]; clear he
      go_enter Tryz.func118, Tryz.ntmps118
      go_wp2_with (go_at_call 84; refine (ring_any _ _ _ _ _).mono ?_; rintro e w1 ⟨rfl, hb1⟩)
      have HB1 := hid (show Below w.heap.size w w1 from below_oneG.trans (hb1.mono (by simp)))
      clear hb1
      go_loopw [20] (fun i wr => ∃ k : Nat, k ≤ ts.length ∧ i = .int .i64 k ∧ (∀ j, j < k → E j = 0) ∧ Below w1.heap.size w1 wr) (fun i _ => ts.length - (intOf i).toNat)
      case atStart => exact ⟨0, Nat.zero_le _, rfl, fun j hj => by omega, Below.refl _ _⟩
      case round =>
        obtain ⟨k, hk, rfl, hz, hbr⟩ := hrel
        have HZ := hid hz
        have HDN := hid (HB1.out.trans (hbr.mono HB1.out.size))
        have HBR := hid hbr
        clear hz hbr
        by_cases hk2 : k < ts.length
        · have HC := hid (HH.out HR.out (by omega) k wr hk2 HZ.out HDN.out)
          have HHIT := hid (fun h => firstN_hit (E := E) hk2 HZ.out h)
          cases he : (E k != 0)
          · have HE0 : Hid (E k = 0) := by simpa [Hid] using he
            go_wp2_with (go_at_call 119; refine HC.out.mono ?_; rintro e w2 ⟨rfl, hb2⟩; have HB2 := hid (HBR.out.trans (hb2.mono HBR.out.size)); clear hb2)
            go_roundw
            case rel => exact ⟨k + 1, by omega, by go_num, fun j hj => by
              rcases Nat.lt_or_ge j k with h | h
              · exact HZ.out j h
              · rw [show j = k by omega]; exact HE0.out, HB2.out⟩
            case measure => simp [intOf]; omega
          · go_wp2_with (go_at_call 119; refine HC.out.mono ?_; rintro e w2 ⟨rfl, hb2⟩; have HB2 := hid (HBR.out.trans (hb2.mono HBR.out.size)); clear hb2)
            go_ret
            exact ⟨ret_int (HHIT.out (by simpa using he)).symm, HB1.out.trans (HB2.out.mono HB1.out.size)⟩
        · go_wp2
          go_ret
          exact ⟨ret_int (firstN_all (fun j hj => HZ.out j (by omega))).symm, HB1.out.trans (HBR.out.mono HB1.out.size)⟩
  · have he : errTs p n o v ts.length E = errR p n o v := by unfold errTs; rw [if_pos (by simpa using hR)]
    rw [he]; clear he
    go_enter Tryz.func118, Tryz.ntmps118
    go_wp2_with (go_at_call 84; refine (ring_any _ _ _ _ _).mono ?_; rintro e w1 ⟨rfl, hb1⟩)
    go_ret
    exact ⟨rfl, below_oneG.trans (hb1.mono (by simp))⟩

set_option maxRecDepth 100000 in
set_option maxHeartbeats 1000000 in
theorem allFn_any (p n o v : Int) (k rb fb : Nat) (fv : Value) (ts : List Tm) (w : World) (hR : errR p n o v = 0) (hk2 : k < ts.length) (hlen : ts.length ≤ 2000) (hq : ∀ j, j < k → errM n (ts.getD j noT).2 = 0) (bx : BoxAt w rb p n o v) (hc : w.cell? ⟨fb, 0, none⟩ = some fv) (pf : Pl w fv ts) :
    Calls Tryz.prog 119 #[.int .i64 k, .pointer (some ⟨rb, 0, none⟩), .pointer (some ⟨fb, 0, none⟩)] w fun e w' => e = .returned (.int .i64 (errAt p n o ts k)) ∧ Below w.heap.size w w' := by
  have HP := hid pf
  have HC := hid (fun W (h : Pl W fv ts) => checkFalling_any p n o v fv ts k W hR hk2 hlen hq h)
  obtain ⟨_, bx0, bx1, bx2, bx3⟩ := bx
  obtain ⟨a, c, rfl, _, _⟩ := pf
  clear hR hq
  go_enter Tryz.func119, Tryz.ntmps119
  go_wp2_with (go_at_call 120; refine (HC.out _ HP.out).mono ?_; rintro e w1 ⟨rfl, hb1⟩; have HB := hid hb1; clear hb1)
  go_ret
  exact ⟨rfl, HB.out⟩

def errCur (p n o v : Int) (ts : List Tm) : Int := if errR p n o v ≠ 0 then errR p n o v else errOne p n o ts
theorem errTs_cur (p n o v : Int) (ts : List Tm) : errTs p n o v ts.length (errAt p n o ts) = errCur p n o v ts := by
  unfold errTs errCur errOne
  rw [firstN_from ts ts.length 0 (by omega)]
  rfl
def cur (p n o v : Int) : List (List Tm) → Int
  | [] => 0
  | f :: r => if errCur p n o v f ≠ 0 then errCur p n o v f else cur p n o v r
theorem cur_drop (p n o v : Int) (fss : List (List Tm)) (k : Nat) (h : k < fss.length) : cur p n o v (fss.drop k) = if errCur p n o v (fss.getD k []) ≠ 0 then errCur p n o v (fss.getD k []) else cur p n o v (fss.drop (k + 1)) := by
  rw [List.drop_eq_getElem_cons h]
  simp [cur, List.getD_eq_getElem?_getD, h]
theorem cur_iff {p n o v : Int} {ts : List Tm} : errCur p n o v ts = 0 ↔ errR p n o v = 0 ∧ errOne p n o ts = 0 := by
  unfold errCur
  by_cases h1 : errR p n o v = 0
  · rw [if_neg (by simpa using h1)]; simp [h1]
  · rw [if_pos h1]; simp [h1]

set_option maxRecDepth 100000 in
set_option maxHeartbeats 2000000 in
theorem curAll_any (p n o v : Int) (lv : Value) (fss : List (List Tm)) (w : World) (hm : fss.length ≤ 1200000000000) (hs : Vl w lv fss) :
    Calls Tryz.prog 92 #[ringV p n o v, lv] w fun e w' => e = .returned (.int .i64 (cur p n o v fss)) ∧ Below w.heap.size w w' := by
  have HS := hid hs
  obtain ⟨la, lc, rfl, hat0⟩ := hs
  have HAT := hid hat0
  obtain ⟨w1, hw1⟩ : ∃ w1, w1 = w.alloc (.cells #[.int .i64 p, .int .i64 n, .int .i64 o, .int .i64 v] 23) := ⟨_, rfl⟩
  have hbx : BoxAt w1 w.heap.size p n o v := by rw [hw1]; exact BoxAt.new w p n o v _
  have hbw : Below w.heap.size w w1 := by rw [hw1]; exact below_oneG
  have HBX := hid hbx
  have HBW := hid hbw
  clear hat0 hbx hbw
  go_enter Tryz.func92, Tryz.ntmps92
  go_wp2_with fail
  rw [← hw1]
  clear hw1
  go_loopw [10] (fun i wr => ∃ k : Nat, k ≤ fss.length ∧ i = .int .i64 k ∧ cur p n o v fss = cur p n o v (fss.drop k) ∧ Below w1.heap.size w1 wr) (fun i _ => fss.length - (intOf i).toNat)
  case atStart => exact ⟨0, Nat.zero_le _, rfl, by simp, Below.refl _ _⟩
  case round =>
    obtain ⟨k, hk, rfl, hcur, hbr⟩ := hrel
    have HBR := hid hbr
    clear hbr
    by_cases hk2 : k < fss.length
    · obtain ⟨b, off, rfl, hlt, hat⟩ := HAT.out (by omega)
      obtain ⟨vv, hcell, hsl⟩ := hat k hk2
      have HER := hid (hcur.trans (cur_drop p n o v fss k hk2))
      have HDN := hid (HBW.out.trans (HBR.out.mono HBW.out.size))
      have d0 := cell_keep hcell HDN.out
      generalize fss.getD k [] = f at hsl HER
      have HSL := hid (hsl.below HDN.out)
      obtain ⟨fa, fc, rfl, _, _⟩ := hsl
      have HBX2 := hid (HBX.out.below HBR.out)
      obtain ⟨_, bx0, bx1, bx2, bx3⟩ := HBX.out.below HBR.out
      clear hcur hat hcell
      have HBN : Hid (∀ A, Below wr.heap.size wr (wr.alloc A)) := fun A => belowNew
      have y0 := fun A => cell_keep bx0 (HBN.out A)
      have y1 := fun A => cell_keep bx1 (HBN.out A)
      have y2 := fun A => cell_keep bx2 (HBN.out A)
      have y3 := fun A => cell_keep bx3 (HBN.out A)
      obtain ⟨w2, hw2⟩ : ∃ w2, w2 = wr.alloc (.cells #[.slice fa f.length fc] 54) := ⟨_, rfl⟩
      have HB2 : Hid (Below wr.heap.size wr w2) := by rw [hw2]; exact HBN.out _
      have HCF : Hid (w2.cell? ⟨wr.heap.size, 0, none⟩ = some (.slice fa f.length fc)) := by show _ = _; rw [hw2]; simp [go_sem]
      have HCT := hid (checkTermsA_any p n o v _ f w.heap.size wr.heap.size (errAt p n o f) w2 (HSL.out.below HB2.out) (fun hr hl i w' hi hj hb => allFn_any p n o v i w.heap.size wr.heap.size _ f w' hr hi hl (fun j hjj => errAt_ok (hj j hjj)) ((HBX2.out.below HB2.out).below hb) (cell_keep HCF.out hb) ((HSL.out.below HB2.out).below hb)))
      rw [errTs_cur] at HCT
      cases hz : (errCur p n o v f != 0)
      · go_wp2_with fail
        try rw [← hw2]
        refine HCT.out.mono ?_
        rintro e w3 ⟨rfl, hb3⟩
        have HB3 := hid (HBR.out.trans ((HB2.out.trans (hb3.mono HB2.out.size)).mono HBR.out.size))
        clear hb3
        go_wp2_with fail
        go_roundw
        case rel => exact ⟨k + 1, Nat.succ_le_of_lt hk2, by go_num, by rw [HER.out, if_neg (by simpa using hz)], HB3.out⟩
        case measure => simp [intOf]; omega
      · go_wp2_with fail
        try rw [← hw2]
        refine HCT.out.mono ?_
        rintro e w3 ⟨rfl, hb3⟩
        have HB3 := hid (HBR.out.trans ((HB2.out.trans (hb3.mono HB2.out.size)).mono HBR.out.size))
        clear hb3
        go_wp2_with fail
        go_ret
        exact ⟨ret_int (by rw [HER.out, if_pos (by simpa using hz)]), HBW.out.trans (HB3.out.mono HBW.out.size)⟩
    · go_wp2
      go_ret
      exact ⟨ret_int (by rw [hcur, List.drop_eq_nil_of_le (by omega)]; rfl), HBW.out.trans (HBR.out.mono HBW.out.size)⟩

theorem cur_ok {p n o v : Int} : ∀ {fss : List (List Tm)}, cur p n o v fss = 0 → ∀ f ∈ fss, errCur p n o v f = 0
  | [], _, f, hf => by simp at hf
  | g :: r, h, f, hf => by
    unfold cur at h
    by_cases hg : errCur p n o v g = 0
    · rw [if_neg (by simpa using hg)] at h
      rcases List.mem_cons.1 hf with rfl | hf
      · exact hg
      · exact cur_ok h f hf
    · rw [if_pos hg] at h; exact absurd h hg
theorem cur_mk {p n o v : Int} : ∀ {fss : List (List Tm)}, (∀ f ∈ fss, errCur p n o v f = 0) → cur p n o v fss = 0
  | [], _ => rfl
  | g :: r, h => by
    unfold cur
    rw [if_neg (by simpa using h g (by simp))]
    exact cur_mk (fun f hf => h f (by simp [hf]))
theorem tells (p n o v : Int) : Tells p n o v (cur p n o v) := by
  refine ⟨fun fss lv w hm hs => curAll_any p n o v lv fss w hm hs, fun fss hne h => ?_, fun hr fss h => cur_mk (fun f hf => cur_iff.2 ⟨hr, h f hf⟩)⟩
  have hall := cur_ok h
  cases fss with
  | nil => exact absurd rfl hne
  | cons g r => exact ⟨(cur_iff.1 (hall g (by simp))).1, fun f hf => (cur_iff.1 (hall f hf)).2⟩
structure Sing (w1 w : World) (sv : Value) (qs : List (TV × Value)) : Prop where
  own : w.ownsRow w1.heap.size 54 1 sv qs.length (qs.map Prod.snd)
  rows : ∀ q ∈ qs, w.ownsRow w1.heap.size 57 2 q.2 1 (flat [q.1])
  es : ∀ q ∈ qs, Sl w1 q.1.2.1 q.1.2.2
  below : Below w1.heap.size w1 w
theorem Sing.next {w1 w w' : World} {sv : Value} {qs : List (TV × Value)} (h : Sing w1 w sv qs) (hb : Below w.heap.size w w') : Sing w1 w' sv qs :=
  ⟨ownBlock_lt h.own hb, fun q hq => ownBlock_lt (h.rows q hq) hb, h.es, h.below.trans (hb.mono h.below.size)⟩
theorem Sing.snoc {w1 W W2 : World} {sv sv2 : Value} {qs : List (TV × Value)} {q : TV × Value} (h : Sing w1 W sv qs) (hq : W.ownsRow w1.heap.size 57 2 q.2 1 (flat [q.1])) (he : Sl w1 q.1.2.1 q.1.2.2)
    (h2 : W2.ownsRow w1.heap.size 54 1 sv2 (qs.length + 1) (qs.map Prod.snd ++ [q.2])) (g2 : W.grownBy W2 sv.ownBlock) : Sing w1 W2 sv2 (qs ++ [q]) := by
  have hT : (57 : TypeId) ≠ 54 := by decide
  refine ⟨by rw [List.length_append, List.map_append]; exact h2, fun r hr => ?_, fun r hr => ?_, own_grown h.own h.below g2 (Nat.le_refl _)⟩
  · rcases List.mem_append.1 hr with hr | hr
    · exact (h.rows r hr).kept g2 (own_neT hT (h.rows r hr) h.own)
    · rw [List.mem_singleton] at hr; subst hr
      exact hq.kept g2 (own_neT hT hq h.own)
  · rcases List.mem_append.1 hr with hr | hr
    · exact h.es r hr
    · rw [List.mem_singleton] at hr; subst hr; exact he
theorem Sing.vl {w1 w : World} {sv : Value} {qs : List (TV × Value)} (h : Sing w1 w sv qs) : Vl w sv (qs.map fun q => [tm q.1]) := by
  obtain ⟨a, c, rfl⟩ := own_sl h.own
  refine ⟨a, c, by rw [List.length_map], fun hp => ?_⟩
  rw [List.length_map] at hp
  obtain ⟨g, rfl, _, hlt, _⟩ := own_at1 h.own 0 hp
  refine ⟨g, 0, rfl, hlt, fun i hi => ?_⟩
  rw [List.length_map] at hi
  obtain ⟨g2, hg2, _, _, hc⟩ := own_at1 h.own i hi
  simp only [Option.some.injEq, Addr.mk.injEq, and_true] at hg2
  subst hg2
  have e : (qs.map fun q => [tm q.1]).getD i [] = [tm qs[i].1] := by simp [List.getD_eq_getElem?_getD, hi]
  rw [e]
  refine ⟨qs[i].2, by rw [Nat.zero_add, hc]; simp [hi], ?_⟩
  have hm : qs[i] ∈ qs := List.getElem_mem hi
  exact own_pl (ts := [qs[i].1]) (h.rows _ hm) (fun t ht => by
    rw [List.mem_singleton] at ht; subst ht
    exact (h.es _ hm).below h.below)
theorem made_term {w : World} {B : Nat} (hB : B ≤ w.heap.size) (c : Int) (ev : Value) : (w.alloc (.cells #[.int .i64 c, ev] 57)).ownsRow B 57 2 (.slice (some ⟨w.heap.size, 0, none⟩) 1 1) 1 [.int .i64 c, ev] :=
  ⟨by simp, .inr ⟨w.heap.size, 1, _, rfl, hB, heap_alloc_new w _, Nat.le_refl _, by decide, by simp, by simp⟩⟩
end Go.Proofs.YtilogbggilchaaaGreat
