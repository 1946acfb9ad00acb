/- Plain mathematics: degrees of sums and products. -/
import Derived.Test.YtilogbggilchaaaGreatRE
namespace Go.Proofs.YtilogbggilchaaaGreat
set_option linter.unusedSimpArgs false
set_option linter.unusedVariables false
theorem fold_mem {p o : Int} : ∀ (l out : List Tm) (x : Tm), x ∈ l.foldl (ins p o) out → (∃ y ∈ l, x.2 = y.2) ∨ ∃ u ∈ out, x.2 = u.2
  | [], out, x, h => Or.inr ⟨x, h, rfl⟩
  | t :: l, out, x, h => by
    rcases fold_mem l (ins p o out t) x h with ⟨y, hy, e⟩ | ⟨u, hu, e⟩
    · exact Or.inl ⟨y, by simp [hy], e⟩
    · rcases ins_mem hu with e2 | ⟨y, hy, e2⟩
      · exact Or.inl ⟨t, by simp, by rw [e, e2]⟩
      · exact Or.inr ⟨y, hy, by rw [e, e2]⟩
theorem col_mem {p o : Int} {l : List Tm} {x : Tm} (h : x ∈ colL p o l) : ∃ y ∈ l, x.2 = y.2 := by
  rcases fold_mem l [] x (List.mem_filter.1 h).1 with h | ⟨u, hu, _⟩
  · exact h
  · simp at hu
theorem ordS_sum {o : Int} {xs ys : List Int} (h : 0 < ordS o xs ys) : sumI ys ≤ sumI xs := by
  have h2 := cmpI_vals (sumI xs) (sumI ys)
  unfold ordS at h
  by_cases hz : cmpI (sumI xs) (sumI ys) = 0
  · omega
  · rw [if_neg hz] at h; omega
theorem topF_ge : ∀ (ts : List Tm) (m : Int), m ≤ topF m ts ∧ ∀ x ∈ ts, sumI x.2 ≤ topF m ts
  | [], m => ⟨Int.le_refl _, fun x hx => by simp at hx⟩
  | t :: ts, m => by
    have h := topF_ge ts (if m < sumI t.2 then sumI t.2 else m)
    simp only [topF]
    have hm : m ≤ (if m < sumI t.2 then sumI t.2 else m) ∧ sumI t.2 ≤ (if m < sumI t.2 then sumI t.2 else m) := by split <;> omega
    refine ⟨Int.le_trans hm.1 h.1, fun x hx => ?_⟩
    rcases List.mem_cons.1 hx with rfl | hx
    · exact Int.le_trans hm.2 h.1
    · exact h.2 x hx
theorem topF_le {B : Int} : ∀ (ts : List Tm) (m : Int), (∀ x ∈ ts, sumI x.2 ≤ B) → m ≤ B → topF m ts ≤ B
  | [], m, _, hm => hm
  | t :: ts, m, h, hm => by
    simp only [topF]
    refine topF_le ts _ (fun x hx => h x (by simp [hx])) ?_
    have := h t (by simp)
    split <;> omega
theorem great_small {ts : List Tm} (h : ∀ x ∈ ts, sumI x.2 ≤ 200) : greatB ts = decide (2000 < ts.length) := by
  unfold greatB
  have := topF_le ts (-1) h (by omega)
  rw [decide_eq_false (by omega), Bool.false_or]
theorem great_large {ts : List Tm} {x : Tm} (hx : x ∈ ts) (h : 200 < sumI x.2) : greatB ts = true := by
  unfold greatB
  have := (topF_ge ts (-1)).2 x hx
  rw [decide_eq_true (by omega), Bool.true_or]
end Go.Proofs.YtilogbggilchaaaGreat
namespace Go.Proofs.YtilogbggilchaaaGreat
set_option linter.unusedSimpArgs false
set_option linter.unusedVariables false
open Go.RowKit
def Tells (p n o v : Int) (chk : List (List Tm) → Int) : Prop :=
  (∀ (fss : List (List Tm)) (lv : Value) (w : World), fss.length ≤ 1200000000000 → Vl w lv fss → Calls Tryz.prog 92 #[ringV p n o v, lv] w fun e w' => e = .returned (.int .i64 (chk fss)) ∧ Below w.heap.size w w') ∧
  (∀ fss, fss ≠ [] → chk fss = 0 → errR p n o v = 0 ∧ ∀ f ∈ fss, errOne p n o f = 0) ∧
  (errR p n o v = 0 → ∀ fss, (∀ f ∈ fss, errOne p n o f = 0) → chk fss = 0)

theorem pls1 {w : World} {x : Value} {fs : List Tm} {b c : Nat} (hf : Pl w x fs) (hlt : b < w.heap.size) (c0 : w.cell? ⟨b, 0, none⟩ = some x) : Vl w (.slice (some ⟨b, 0, none⟩) 1 c) [fs] := by
  refine ⟨_, c, rfl, fun _ => ⟨b, 0, rfl, hlt, fun i hi => ?_⟩⟩
  simp only [List.length_cons, List.length_nil] at hi
  rcases i with _ | i
  · exact ⟨x, c0, hf⟩
  · omega
theorem col_len {p o : Int} (l : List Tm) : (colL p o l).length ≤ l.length := by
  have h1 := List.length_filter_le (fun t : Tm => t.1 % p != 0) (l.foldl (ins p o) [])
  have h2 := fold_len1 (p := p) (o := o) l []
  simp only [List.length_nil] at h2
  unfold colL
  omega
def errTm (least p n : Int) (t : Tm) : Int := if t.1 < least ∨ p ≤ t.1 then 3 else errM n t.2
def errAt (p n o : Int) (ts : List Tm) (k : Nat) : Int :=
  if errTm 1 p n (ts.getD k noT) ≠ 0 then errTm 1 p n (ts.getD k noT) else if okPrev o (prevE ts k) (ts.getD k noT).2 = false then 4 else 0
def firstN (E : Nat → Int) : Nat → Nat → Int
  | 0, _ => 0
  | m + 1, k => if E k ≠ 0 then E k else firstN E m (k + 1)
theorem firstN_at (E : Nat → Int) {k m : Nat} (h : k < m) : firstN E (m - k) k = if E k ≠ 0 then E k else firstN E (m - (k + 1)) (k + 1) := by
  obtain ⟨d, rfl⟩ : ∃ d, m = k + 1 + d := ⟨m - (k + 1), by omega⟩
  rw [show k + 1 + d - k = d + 1 by omega, show k + 1 + d - (k + 1) = d by omega]
  rfl
theorem firstN_from {p n o : Int} (ts : List Tm) : ∀ (m k : Nat), k + m = ts.length → firstN (errAt p n o ts) m k = errFrom p n o (prevE ts k) (ts.drop k)
  | 0, k, h => by rw [List.drop_eq_nil_of_le (by omega)]; rfl
  | m + 1, k, h => by
    have hk : k < ts.length := by omega
    rw [errFrom_drop p n o ts k hk]
    have ih := firstN_from (p := p) (n := n) (o := o) ts m (k + 1) (by omega)
    have hu : firstN (errAt p n o ts) (m + 1) k = if errAt p n o ts k ≠ 0 then errAt p n o ts k else firstN (errAt p n o ts) m (k + 1) := rfl
    rw [hu, ih]
    unfold errAt errTm
    generalize ts.getD k noT = t
    have hb : betweenB t.1 1 (p - 1) = false ↔ (t.1 < 1 ∨ p ≤ t.1) := by
      have e : betweenB t.1 1 (p - 1) = decide (1 ≤ t.1 ∧ t.1 ≤ p - 1) := by simp [betweenB]
      rw [e, decide_eq_false_iff_not]; omega
    by_cases h1 : t.1 < 1 ∨ p ≤ t.1
    · rw [if_pos (hb.2 h1), if_pos h1]; simp
    · rw [if_neg (fun h => h1 (hb.1 h)), if_neg h1]
      by_cases h2 : errM n t.2 ≠ 0
      · rw [if_pos h2, if_pos h2, if_pos h2]
      · rw [if_neg h2, if_neg h2]
        cases h3 : okPrev o (prevE ts k) t.2 <;> simp
theorem errAt_ok {p n o : Int} {ts : List Tm} {k : Nat} (h : errAt p n o ts k = 0) : errM n (ts.getD k noT).2 = 0 := by
  unfold errAt at h
  by_cases h1 : errTm 1 p n (ts.getD k noT) = 0
  · unfold errTm at h1
    split at h1
    · omega
    · exact h1
  · rw [if_pos h1] at h; exact absurd h h1
theorem errAll_one {p n o v : Int} {te : List Int} (hR : errR p n o v = 0) : errAll p n o v [te] = errM n te := by
  unfold errAll; rw [if_pos hR]; simp only [firstErr]
  split
  · rename_i h; exact h.symm
  · rfl

set_option maxRecDepth 100000 in
set_option maxHeartbeats 1000000 in
theorem checkTerm_any (p n o v least c : Int) (ev : Value) (te : List Int) (w : World) (hR : errR p n o v = 0) (hs : Sl w ev te) :
    Calls Tryz.prog 132 #[ringV p n o v, .int .i64 least, .agg #[.int .i64 c, ev]] w fun e w' => e = .returned (.int .i64 (errTm least p n (c, te))) ∧ Below w.heap.size w w' := by
  have HS := hid hs
  have HALL := hid (errAll_one (te := te) hR)
  obtain ⟨a, cap, rfl, _⟩ := hs
  have HB2 : Hid (∀ A B, Below w.heap.size w ((w.alloc A).alloc B)) := fun A B => below_two
  clear hR
  by_cases h1 : c < least
  · have HE : Hid (errTm least p n (c, te) = 3) := by show _ = _; unfold errTm; rw [if_pos (Or.inl h1)]
    rw [HE.out]
    go_enter Tryz.func132, Tryz.ntmps132
    go_wp2
    go_ret
    exact ⟨rfl, HB2.out _ _⟩
  · by_cases h2 : p ≤ c
    · have HE : Hid (errTm least p n (c, te) = 3) := by show _ = _; unfold errTm; rw [if_pos (Or.inr h2)]
      rw [HE.out]
      go_enter Tryz.func132, Tryz.ntmps132
      go_wp2
      go_ret
      exact ⟨rfl, HB2.out _ _⟩
    · have HE : Hid (errTm least p n (c, te) = errM n te) := by show _ = _; unfold errTm; rw [if_neg (by simp only; omega)]
      rw [HE.out]
      go_enter Tryz.func132, Tryz.ntmps132
      go_wp2_with (go_at_call 144; refine (monoCheck_any p n o v _ te _ (HS.out.below (HB2.out _ _))).mono ?_; rw [HALL.out]; rintro e w2 ⟨rfl, hb2⟩; have HB9 := hid ((HB2.out _ _).trans (hb2.mono (HB2.out _ _).size)); clear hb2)
      go_ret
      exact ⟨rfl, HB9.out⟩

set_option maxRecDepth 100000 in
set_option maxHeartbeats 2000000 in
theorem checkFalling_any (p n o v : Int) (fv : Value) (ts : List Tm) (k : Nat) (w : World) (hR : errR p n o v = 0) (hk2 : k < ts.length) (hlen : ts.length ≤ 2000) (hq : ∀ j, j < k → errM n (ts.getD j noT).2 = 0) (pf : Pl w fv ts) :
    Calls Tryz.prog 120 #[ringV p n o v, fv, .int .i64 k] w fun e w' => e = .returned (.int .i64 (errAt p n o ts k)) ∧ Below w.heap.size w w' := by
  obtain ⟨fa, fc, rfl, _, hfc⟩ := pf
  obtain ⟨b, off, rfl, hlt, hat⟩ := hfc (by omega)
  obtain ⟨_, hn1, hn2, ho, _⟩ := ring_ok hR
  have HR := hid hR
  have HO := hid ho
  have HQ := hid hq
  obtain ⟨w1, hw1⟩ : ∃ w1, w1 = w.alloc (.cells #[.int .i64 p, .int .i64 n, .int .i64 o, .int .i64 v] 23) := ⟨_, rfl⟩
  have hbx : BoxAt w1 w.heap.size p n o v := by rw [hw1]; exact BoxAt.new w p n o v _
  have hbw : Below w.heap.size w w1 := by rw [hw1]; exact below_oneG
  obtain ⟨_, bx0, bx1, bx2, bx3⟩ := hbx
  have HBW := hid hbw
  have HB0 : Hid (Below w1.heap.size w1 w1.drew) := (Below.refl _ _).drew
  obtain ⟨c0, ev, c1, hse⟩ := hat k hk2
  have HAT := hid hat
  have HER : Hid (errAt p n o ts k = if errTm 1 p n (ts.getD k noT) ≠ 0 then errTm 1 p n (ts.getD k noT) else if okPrev o (prevE ts k) (ts.getD k noT).2 = false then 4 else 0) := rfl
  generalize ts.getD k noT = t at c0 hse HER
  obtain ⟨tc, te⟩ := t
  have HSE := hid (hse.below hbw)
  obtain ⟨ea, ec, rfl, _⟩ := hse
  simp only at c0 c1 HER
  have KEEP : Hid (∀ W, Below w1.heap.size w1 W → (Hid (Below w1.heap.size w1 W) ∧ W.cell? ⟨w.heap.size, 0, none⟩ = some (.int .i64 p) ∧ W.cell? ⟨w.heap.size, 1, none⟩ = some (.int .i64 n) ∧ W.cell? ⟨w.heap.size, 2, none⟩ = some (.int .i64 o) ∧ W.cell? ⟨w.heap.size, 3, none⟩ = some (.int .i64 v) ∧ W.cell? ⟨b, off + k * 2, none⟩ = some (.int .i64 tc) ∧ W.cell? ⟨b, off + k * 2 + 1, none⟩ = some (.slice ea te.length ec))) :=
    fun W hb => ⟨hb, cell_keep bx0 hb, cell_keep bx1 hb, cell_keep bx2 hb, cell_keep bx3 hb, cell_keep (cell_keep c0 hbw) hb, cell_keep (cell_keep c1 hbw) hb⟩
  have KEEPC := hid (fun (W : World) (hb : Below w1.heap.size w1 W) (b2 o2 : Nat) (u : Value) (hc : w.cell? ⟨b2, o2, none⟩ = some u) => cell_keep (cell_keep hc hbw) hb)
  clear hR ho hq hat c0 c1 bx0 bx1 bx2 bx3 hbw
  cases hz : (errTm 1 p n (tc, te) != 0)
  · have hz0 : errTm 1 p n (tc, te) = 0 := by simpa using hz
    have HZ := hid hz0
    have hem : errM n te = 0 := by
      unfold errTm at hz0
      split at hz0
      · omega
      · exact hz0
    have HEM := hid hem
    clear hz0 hem
    rcases Nat.eq_zero_or_pos k with rfl | hpos
    · simp only [Nat.zero_mul, Nat.add_zero] at KEEP
      have HEE : Hid (errAt p n o ts 0 = 0) := by show _ = _; rw [HER.out, if_neg (by simpa using HZ.out), if_neg (by simp [prevE, okPrev])]
      rw [HEE.out]
      go_enter Tryz.func120, Tryz.ntmps120
      go_wp2_with fail
      rw [← hw1]
      clear hw1
      go_region_held (fun W => Hid (Below w1.heap.size w1 W) ∧ W.cell? ⟨w.heap.size, 0, none⟩ = some (.int .i64 p) ∧ W.cell? ⟨w.heap.size, 1, none⟩ = some (.int .i64 n) ∧ W.cell? ⟨w.heap.size, 2, none⟩ = some (.int .i64 o) ∧ W.cell? ⟨w.heap.size, 3, none⟩ = some (.int .i64 v) ∧ W.cell? ⟨b, off, none⟩ = some (.int .i64 tc) ∧ W.cell? ⟨b, off + 1, none⟩ = some (.slice ea te.length ec))
        (first | exact KEEP.out _ HB0.out | exact KEEP.out _ (HB0.out.trans (hb9.mono HB0.out.size)))
        (first | (go_at_call 132; refine (checkTerm_any p n o v 1 tc _ te _ HR.out ?_).mono ?_; exact HSE.out.below HB0.out; rintro e w9 ⟨rfl, hb9⟩))
      have HB9 := hid (show Below w1.heap.size w1 w9 from HB0.out.trans (hb9.mono HB0.out.size))
      clear hb9
      rw [HZ.out]
      go_wp2_with fail
      go_quiet (fail)
      have HQ1 := hid (below_drewN HB9.out nq)
      go_wp2
      go_ret
      exact ⟨rfl, HBW.out.trans (HQ1.out.mono HBW.out.size)⟩
    · have hk3 : k - 1 < ts.length := by omega
      obtain ⟨_, ev2, d1, hse2⟩ := HAT.out (k - 1) hk3
      have HPE : Hid (prevE ts k = some (ts.getD (k - 1) noT).2) := by
        obtain ⟨m, rfl⟩ : ∃ m, k = m + 1 := ⟨k - 1, by omega⟩
        rfl
      have HQE := hid (HQ.out (k - 1) (by omega))
      generalize ts.getD (k - 1) noT = q at hse2 HPE HQE
      obtain ⟨qc, qe⟩ := q
      have HSE2 := hid (hse2.below HBW.out)
      obtain ⟨ea2, ec2, rfl, _⟩ := hse2
      simp only at d1 HPE HQE
      have hqo := errM_ok HQE.out
      have hto := errM_ok HEM.out
      have HLL : Hid (qe.length = te.length) := by have h1 := hqo.1; have h2 := hto.1; show _ = _; omega
      have hq0 : 0 < qe.length := by have h1 := hqo.1; omega
      have hq3 : qe.length ≤ 3 := by have h1 := hqo.1; omega
      have HQB := hid (And.intro (show ∀ x ∈ qe, 0 ≤ x ∧ x ≤ 40000 from fun x hx => by have := hqo.2.1 x hx; omega) (show ∀ x ∈ te, 0 ≤ x ∧ x ≤ 40000 from fun x hx => by have := hto.2.1 x hx; omega))
      have KEEP2 : Hid (∀ W, Below w1.heap.size w1 W → (Hid (Below w1.heap.size w1 W) ∧ W.cell? ⟨w.heap.size, 0, none⟩ = some (.int .i64 p) ∧ W.cell? ⟨w.heap.size, 1, none⟩ = some (.int .i64 n) ∧ W.cell? ⟨w.heap.size, 2, none⟩ = some (.int .i64 o) ∧ W.cell? ⟨w.heap.size, 3, none⟩ = some (.int .i64 v) ∧ W.cell? ⟨b, off + k * 2, none⟩ = some (.int .i64 tc) ∧ W.cell? ⟨b, off + k * 2 + 1, none⟩ = some (.slice ea te.length ec) ∧ W.cell? ⟨b, off + (k - 1) * 2 + 1, none⟩ = some (.slice ea2 qe.length ec2))) := fun W hb => by
        have h := KEEP.out W hb
        exact ⟨h.1, h.2.1, h.2.2.1, h.2.2.2.1, h.2.2.2.2.1, h.2.2.2.2.2.1, h.2.2.2.2.2.2, KEEPC.out W hb _ _ _ d1⟩
      obtain ⟨hq1, hq2, hq4, hq5, hq6, hq7, hq8⟩ := predFacts hpos hk2
      have hwr := wrapPred hpos (Nat.le_trans (Nat.le_of_lt hk2) hlen)
      clear hqo hto d1
      by_cases hgt : ordS o qe te ≤ 0
      · have HEE : Hid (errAt p n o ts k = 4) := by
          show _ = _
          rw [HER.out, if_neg (by simpa using HZ.out), HPE.out, if_pos]
          show moreB o qe te = false
          unfold moreB; exact decide_eq_false (by omega)
        rw [HEE.out]
        go_enter Tryz.func120, Tryz.ntmps120
        go_wp2_with fail
        rw [← hw1]
        clear hw1
        go_region_held (fun W => Hid (Below w1.heap.size w1 W) ∧ W.cell? ⟨w.heap.size, 0, none⟩ = some (.int .i64 p) ∧ W.cell? ⟨w.heap.size, 1, none⟩ = some (.int .i64 n) ∧ W.cell? ⟨w.heap.size, 2, none⟩ = some (.int .i64 o) ∧ W.cell? ⟨w.heap.size, 3, none⟩ = some (.int .i64 v) ∧ W.cell? ⟨b, off + k * 2, none⟩ = some (.int .i64 tc) ∧ W.cell? ⟨b, off + k * 2 + 1, none⟩ = some (.slice ea te.length ec))
          (first | exact KEEP.out _ HB0.out | exact KEEP.out _ (HB0.out.trans (hb9.mono HB0.out.size)))
          (first | (go_at_call 132; refine (checkTerm_any p n o v 1 tc _ te _ HR.out ?_).mono ?_; exact HSE.out.below HB0.out; rintro e w9 ⟨rfl, hb9⟩))
        have HB9 := hid (show Below w1.heap.size w1 w9 from HB0.out.trans (hb9.mono HB0.out.size))
        clear hb9
        rw [HZ.out]
        go_wp2_with fail
        go_region_held (fun W => Hid (Below w1.heap.size w1 W) ∧ W.cell? ⟨w.heap.size, 0, none⟩ = some (.int .i64 p) ∧ W.cell? ⟨w.heap.size, 1, none⟩ = some (.int .i64 n) ∧ W.cell? ⟨w.heap.size, 2, none⟩ = some (.int .i64 o) ∧ W.cell? ⟨w.heap.size, 3, none⟩ = some (.int .i64 v) ∧ W.cell? ⟨b, off + k * 2, none⟩ = some (.int .i64 tc) ∧ W.cell? ⟨b, off + k * 2 + 1, none⟩ = some (.slice ea te.length ec) ∧ W.cell? ⟨b, off + (k - 1) * 2 + 1, none⟩ = some (.slice ea2 qe.length ec2))
          (first | exact KEEP2.out _ HB9.out.drew | exact KEEP2.out _ (HB9.out.drew.trans (hb8.mono HB9.out.drew.size)))
          (first | (go_at_call 109; refine (bareCompare_any p n o v _ _ qe te _ HO.out hq0 hq3 HLL.out HQB.out.1 HQB.out.2 ?_ ?_).mono ?_; exact HSE2.out.below HB9.out.drew; exact HSE.out.below HB9.out.drew; rintro e w8 ⟨rfl, hb8⟩))
        have HB8 := hid (show Below w1.heap.size w1 w8 from HB9.out.drew.trans (hb8.mono HB9.out.drew.size))
        clear hb8
        go_wp2_with fail
        go_ret
        exact ⟨rfl, HBW.out.trans (HB8.out.mono HBW.out.size)⟩
      · have HEE : Hid (errAt p n o ts k = 0) := by
          show _ = _
          rw [HER.out, if_neg (by simpa using HZ.out), HPE.out, if_neg]
          show ¬ moreB o qe te = false
          unfold moreB; rw [decide_eq_true (show 0 < ordS o qe te by omega)]; simp
        rw [HEE.out]
        go_enter Tryz.func120, Tryz.ntmps120
        go_wp2_with fail
        rw [← hw1]
        clear hw1
        go_region_held (fun W => Hid (Below w1.heap.size w1 W) ∧ W.cell? ⟨w.heap.size, 0, none⟩ = some (.int .i64 p) ∧ W.cell? ⟨w.heap.size, 1, none⟩ = some (.int .i64 n) ∧ W.cell? ⟨w.heap.size, 2, none⟩ = some (.int .i64 o) ∧ W.cell? ⟨w.heap.size, 3, none⟩ = some (.int .i64 v) ∧ W.cell? ⟨b, off + k * 2, none⟩ = some (.int .i64 tc) ∧ W.cell? ⟨b, off + k * 2 + 1, none⟩ = some (.slice ea te.length ec))
          (first | exact KEEP.out _ HB0.out | exact KEEP.out _ (HB0.out.trans (hb9.mono HB0.out.size)))
          (first | (go_at_call 132; refine (checkTerm_any p n o v 1 tc _ te _ HR.out ?_).mono ?_; exact HSE.out.below HB0.out; rintro e w9 ⟨rfl, hb9⟩))
        have HB9 := hid (show Below w1.heap.size w1 w9 from HB0.out.trans (hb9.mono HB0.out.size))
        clear hb9
        rw [HZ.out]
        go_wp2_with fail
        go_region_held (fun W => Hid (Below w1.heap.size w1 W) ∧ W.cell? ⟨w.heap.size, 0, none⟩ = some (.int .i64 p) ∧ W.cell? ⟨w.heap.size, 1, none⟩ = some (.int .i64 n) ∧ W.cell? ⟨w.heap.size, 2, none⟩ = some (.int .i64 o) ∧ W.cell? ⟨w.heap.size, 3, none⟩ = some (.int .i64 v) ∧ W.cell? ⟨b, off + k * 2, none⟩ = some (.int .i64 tc) ∧ W.cell? ⟨b, off + k * 2 + 1, none⟩ = some (.slice ea te.length ec) ∧ W.cell? ⟨b, off + (k - 1) * 2 + 1, none⟩ = some (.slice ea2 qe.length ec2))
          (first | exact KEEP2.out _ HB9.out.drew | exact KEEP2.out _ (HB9.out.drew.trans (hb8.mono HB9.out.drew.size)))
          (first | (go_at_call 109; refine (bareCompare_any p n o v _ _ qe te _ HO.out hq0 hq3 HLL.out HQB.out.1 HQB.out.2 ?_ ?_).mono ?_; exact HSE2.out.below HB9.out.drew; exact HSE.out.below HB9.out.drew; rintro e w8 ⟨rfl, hb8⟩))
        have HB8 := hid (show Below w1.heap.size w1 w8 from HB9.out.drew.trans (hb8.mono HB9.out.drew.size))
        clear hb8
        go_wp2_with fail
        go_ret
        exact ⟨rfl, HBW.out.trans (HB8.out.mono HBW.out.size)⟩
  · have HEE : Hid (errAt p n o ts k = errTm 1 p n (tc, te)) := by show _ = _; rw [HER.out, if_pos (by simpa using hz)]
    rw [HEE.out]
    go_enter Tryz.func120, Tryz.ntmps120
    go_wp2_with fail
    rw [← hw1]
    clear hw1
    go_region_held (fun W => Hid (Below w1.heap.size w1 W) ∧ W.cell? ⟨w.heap.size, 0, none⟩ = some (.int .i64 p) ∧ W.cell? ⟨w.heap.size, 1, none⟩ = some (.int .i64 n) ∧ W.cell? ⟨w.heap.size, 2, none⟩ = some (.int .i64 o) ∧ W.cell? ⟨w.heap.size, 3, none⟩ = some (.int .i64 v) ∧ W.cell? ⟨b, off + k * 2, none⟩ = some (.int .i64 tc) ∧ W.cell? ⟨b, off + k * 2 + 1, none⟩ = some (.slice ea te.length ec))
      (first | exact KEEP.out _ HB0.out | exact KEEP.out _ (HB0.out.trans (hb9.mono HB0.out.size)))
      (first | (go_at_call 132; refine (checkTerm_any p n o v 1 tc _ te _ HR.out ?_).mono ?_; exact HSE.out.below HB0.out; rintro e w9 ⟨rfl, hb9⟩))
    have HB9 := hid (show Below w1.heap.size w1 w9 from HB0.out.trans (hb9.mono HB0.out.size))
    clear hb9
    go_wp2
    go_ret
    exact ⟨rfl, HBW.out.trans (HB9.out.mono HBW.out.size)⟩
end Go.Proofs.YtilogbggilchaaaGreat
