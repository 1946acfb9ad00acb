/- Plain mathematics: degrees of sums and products. -/
import Derived.Test.YtilogbggilchaaaDoorRG
namespace Go.Proofs.YtilogbggilchaaaDoor
set_option linter.unusedSimpArgs false
set_option linter.unusedVariables false
theorem fold_mem {p o : Int} : ∀ (l out : List Tm) (x : Tm), x ∈ l.foldl (ins p o) out → (∃ y ∈ l, x.2 = y.2) ∨ ∃ u ∈ out, x.2 = u.2
  | [], out, x, h => Or.inr ⟨x, h, rfl⟩
  | t :: l, out, x, h => by
    rcases fold_mem l (ins p o out t) x h with ⟨y, hy, e⟩ | ⟨u, hu, e⟩
    · exact Or.inl ⟨y, by simp [hy], e⟩
    · rcases ins_mem hu with e2 | ⟨y, hy, e2⟩
      · exact Or.inl ⟨t, by simp, by rw [e, e2]⟩
      · exact Or.inr ⟨y, hy, by rw [e, e2]⟩
theorem col_mem {p o : Int} {l : List Tm} {x : Tm} (h : x ∈ colL p o l) : ∃ y ∈ l, x.2 = y.2 := by
  rcases fold_mem l [] x (List.mem_filter.1 h).1 with h | ⟨u, hu, _⟩
  · exact h
  · simp at hu
theorem ordS_sum {o : Int} {xs ys : List Int} (h : 0 < ordS o xs ys) : sumI ys ≤ sumI xs := by
  have h2 := cmpI_vals (sumI xs) (sumI ys)
  unfold ordS at h
  by_cases hz : cmpI (sumI xs) (sumI ys) = 0
  · omega
  · rw [if_neg hz] at h; omega
theorem topF_ge : ∀ (ts : List Tm) (m : Int), m ≤ topF m ts ∧ ∀ x ∈ ts, sumI x.2 ≤ topF m ts
  | [], m => ⟨Int.le_refl _, fun x hx => by simp at hx⟩
  | t :: ts, m => by
    have h := topF_ge ts (if m < sumI t.2 then sumI t.2 else m)
    simp only [topF]
    have hm : m ≤ (if m < sumI t.2 then sumI t.2 else m) ∧ sumI t.2 ≤ (if m < sumI t.2 then sumI t.2 else m) := by split <;> omega
    refine ⟨Int.le_trans hm.1 h.1, fun x hx => ?_⟩
    rcases List.mem_cons.1 hx with rfl | hx
    · exact Int.le_trans hm.2 h.1
    · exact h.2 x hx
theorem topF_le {B : Int} : ∀ (ts : List Tm) (m : Int), (∀ x ∈ ts, sumI x.2 ≤ B) → m ≤ B → topF m ts ≤ B
  | [], m, _, hm => hm
  | t :: ts, m, h, hm => by
    simp only [topF]
    refine topF_le ts _ (fun x hx => h x (by simp [hx])) ?_
    have := h t (by simp)
    split <;> omega
theorem great_small {ts : List Tm} (h : ∀ x ∈ ts, sumI x.2 ≤ 200) : greatB ts = decide (2000 < ts.length) := by
  unfold greatB
  have := topF_le ts (-1) h (by omega)
  rw [decide_eq_false (by omega), Bool.false_or]
theorem great_large {ts : List Tm} {x : Tm} (hx : x ∈ ts) (h : 200 < sumI x.2) : greatB ts = true := by
  unfold greatB
  have := (topF_ge ts (-1)).2 x hx
  rw [decide_eq_true (by omega), Bool.true_or]
theorem right_head {p o : Int} {N : Nat} {t : Tm} {ts : List Tm} (h : Canon p o N (t :: ts)) : ∀ x ∈ t :: ts, sumI x.2 ≤ sumI t.2 := by
  intro x hx
  rcases List.mem_cons.1 hx with rfl | hx
  · exact Int.le_refl _
  · exact ordS_sum (h.falls.1 x hx)
theorem prod_deg {p o : Int} {N : Nat} {t u : Tm} {f g : List Tm} (hf : Canon p o N (t :: f)) (hg : Canon p o N (u :: g)) : ∀ x ∈ colL p o (prodL p (t :: f) (u :: g)), sumI x.2 ≤ sumI t.2 + sumI u.2 := by
  intro x hx
  obtain ⟨y, hy, e⟩ := col_mem hx
  simp only [Go.Proofs.YtilogbggilchaaaDoor.prodL, prodT, List.mem_flatMap, List.mem_map] at hy
  obtain ⟨a, ha, b, hb, rfl⟩ := hy
  rw [e]
  simp only
  rw [sumI_zip _ _ (by rw [hf.len a ha, hg.len b hb])]
  have h1 := right_head hf a ha
  have h2 := right_head hg b hb
  omega
theorem prod_lead {p o : Int} {N : Nat} (he : errP p = 0) {t u : Tm} {f g : List Tm} (hf : Canon p o N (t :: f)) (hg : Canon p o N (u :: g)) : ∃ x ∈ colL p o (prodL p (t :: f) (u :: g)), x.2 = zipI (· + ·) t.2 u.2 := by
  apply Classical.byContradiction
  intro hno
  have hz : lin (delta (zipI (· + ·) t.2 u.2)) (colL p o (prodL p (t :: f) (u :: g))) = 0 := lin_delta_none (fun x hx e => hno ⟨x, hx, e⟩)
  have hl := lin_col p o (delta (zipI (· + ·) t.2 u.2)) (prodL p (t :: f) (u :: g))
  rw [hz] at hl
  have lt := hf.len t (by simp)
  have lu := hg.len u (by simp)
  have e0 : prodL p (t :: f) (u :: g) = (t.1 * u.1 % p, zipI (· + ·) t.2 u.2) :: (prodT p t g ++ prodL p f (u :: g)) := rfl
  have hne : ∀ x ∈ prodT p t g ++ prodL p f (u :: g), x.2 ≠ zipI (· + ·) t.2 u.2 := by
    intro x hx e
    have pos : 0 < ordS o (zipI (· + ·) t.2 u.2) x.2 := by
      rcases List.mem_append.1 hx with hx | hx
      · simp only [prodT, List.mem_map] at hx
        obtain ⟨b, hb, rfl⟩ := hx
        have lb := hg.len b (by simp [hb])
        simp only
        rw [zip_comm t.2 u.2, zip_comm t.2 b.2, ordS_add o u.2 b.2 t.2 (by omega) (by omega)]
        exact hg.falls.1 b hb
      · simp only [Go.Proofs.YtilogbggilchaaaDoor.prodL, prodT, List.mem_flatMap, List.mem_map] at hx
        obtain ⟨a, ha, b, hb, rfl⟩ := hx
        have la := hf.len a (by simp [ha])
        have lb := hg.len b hb
        simp only
        have h1 : 0 < ordS o (zipI (· + ·) t.2 u.2) (zipI (· + ·) a.2 u.2) := by
          rw [ordS_add o t.2 a.2 u.2 (by omega) (by omega)]; exact hf.falls.1 a ha
        rcases List.mem_cons.1 hb with rfl | hb
        · exact h1
        · have h2 : 0 < ordS o (zipI (· + ·) a.2 u.2) (zipI (· + ·) a.2 b.2) := by
            rw [zip_comm a.2 u.2, zip_comm a.2 b.2, ordS_add o u.2 b.2 a.2 (by omega) (by omega)]; exact hg.falls.1 b hb
          exact ordS_trans o _ _ _ (by rw [zipI_len _ _ _ (by omega), zipI_len _ _ _ (by omega)]; omega) (by rw [zipI_len _ _ _ (by omega), zipI_len _ _ _ (by omega)]) h1 h2
    rw [e] at pos
    have := (ordS_zero o (zipI (· + ·) t.2 u.2) (zipI (· + ·) t.2 u.2) rfl).2 rfl
    omega
  rw [e0] at hl
  simp only [lin] at hl
  rw [lin_delta_none hne] at hl
  have h1 := prime_mulI he (hf.coef t (by simp)).1 (hf.coef t (by simp)).2 (hg.coef u (by simp)).1 (hg.coef u (by simp)).2
  have h2 : delta (zipI (· + ·) t.2 u.2) (zipI (· + ·) t.2 u.2) = 1 := by unfold delta; rw [if_pos rfl]
  rw [h2] at hl
  have h3 := dvd_neg hl
  have := Int.le_of_dvd (by omega) h3
  omega
theorem great_prod {p o : Int} {N : Nat} (he : errP p = 0) {t u : Tm} {f g : List Tm} (hf : Canon p o N (t :: f)) (hg : Canon p o N (u :: g)) :
    greatB (colL p o (prodL p (t :: f) (u :: g))) = (decide (200 < sumI t.2 + sumI u.2) || decide (2000 < (colL p o (prodL p (t :: f) (u :: g))).length)) := by
  by_cases h : 200 < sumI t.2 + sumI u.2
  · obtain ⟨x, hx, e⟩ := prod_lead he hf hg
    rw [great_large hx (by rw [e, sumI_zip _ _ (by rw [hf.len t (by simp), hg.len u (by simp)])]; exact h), decide_eq_true h, Bool.true_or]
  · rw [great_small (fun x hx => by have := prod_deg hf hg x hx; omega), decide_eq_false h, Bool.false_or]
theorem great_none {p o : Int} {f g : List Tm} (h : f = [] ∨ g = []) : colL p o (prodL p f g) = [] := by
  rcases h with rfl | rfl
  · rfl
  · have : prodL p f [] = [] := by
      unfold Go.Proofs.YtilogbggilchaaaDoor.prodL
      induction f with
      | nil => rfl
      | cons t f ih => simp [prodT]
    rw [this]; rfl
end Go.Proofs.YtilogbggilchaaaDoor
