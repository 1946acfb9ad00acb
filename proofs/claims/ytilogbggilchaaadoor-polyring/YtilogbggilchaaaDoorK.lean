/- monoBegun. -/
import Derived.Test.YtilogbggilchaaaDoorH
namespace Go.Proofs.YtilogbggilchaaaDoor
set_option linter.unusedSimpArgs false
set_option linter.unusedVariables false
open Go.RowKit
theorem Sl.new2 (w : World) (a b : Int) (T : TypeId) : Sl (w.alloc (.cells #[.int .i64 a, .int .i64 b] T)) (.slice (some ⟨w.heap.size, 0, none⟩) 2 2) [a, b] := by
  refine ⟨_, _, rfl, fun _ => ⟨_, _, rfl, by simp, fun i hi => ?_⟩⟩
  simp at hi
  rcases i with _ | _ | i
  · simp
  · simp
  · omega

theorem below_one {w : World} {A : Obj} : Below w.heap.size w (w.alloc A) := (Below.refl _ _).alloc (Nat.le_refl _) _
theorem cmpI_neg (a b : Int) : cmpI a b = - cmpI b a := by
  unfold cmpI; split <;> split <;> omega
theorem cmpI_vals (a b : Int) : cmpI a b = -1 ∧ a < b ∨ cmpI a b = 0 ∧ a = b ∨ cmpI a b = 1 ∧ b < a := by
  unfold cmpI; split
  · omega
  · split <;> omega
theorem cmpI_add (a b c : Int) : cmpI (a + c) (b + c) = cmpI a b := by
  have h1 := cmpI_vals a b
  have h2 := cmpI_vals (a + c) (b + c)
  omega

theorem lexC_neg : ∀ xs ys : List Int, lexC xs ys = - lexC ys xs
  | [], [] => by simp [lexC]
  | [], _ :: _ => by simp [lexC]
  | _ :: _, [] => by simp [lexC]
  | x :: xs, y :: ys => by
    simp only [lexC]
    have h1 := cmpI_neg x y
    have h2 := lexC_neg xs ys
    by_cases h : cmpI x y = 0
    · rw [if_pos h, if_pos (by omega)]; exact h2
    · rw [if_neg h, if_neg (by omega)]; exact h1
theorem lexC_bd : ∀ xs ys : List Int, -1 ≤ lexC xs ys ∧ lexC xs ys ≤ 1
  | [], [] => by simp [lexC]
  | [], _ :: _ => by simp [lexC]
  | _ :: _, [] => by simp [lexC]
  | x :: xs, y :: ys => by
    simp only [lexC]
    have h1 := cmpI_vals x y
    have h2 := lexC_bd xs ys
    by_cases h : cmpI x y = 0
    · rw [if_pos h]; exact h2
    · rw [if_neg h]; omega
theorem lexC_zero : ∀ xs ys : List Int, xs.length = ys.length → (lexC xs ys = 0 ↔ xs = ys)
  | [], [], _ => by simp [lexC]
  | [], _ :: _, h => by simp at h
  | _ :: _, [], h => by simp at h
  | x :: xs, y :: ys, hl => by
    simp only [lexC, List.cons.injEq]
    have h1 := cmpI_vals x y
    have h2 := lexC_zero xs ys (by simpa using hl)
    by_cases h : cmpI x y = 0
    · rw [if_pos h, h2]
      constructor
      · intro e; exact ⟨by omega, e⟩
      · intro e; exact e.2
    · rw [if_neg h]
      constructor
      · intro e; exact absurd e h
      · intro e; omega
theorem lexC_trans : ∀ xs ys zs : List Int, xs.length = ys.length → ys.length = zs.length → 0 < lexC xs ys → 0 < lexC ys zs → 0 < lexC xs zs
  | [], [], _, _, _, h, _ => by simp [lexC] at h
  | [], _ :: _, _, h, _, _, _ => by simp at h
  | _ :: _, [], _, h, _, _, _ => by simp at h
  | _ :: _, _ :: _, [], _, h, _, _ => by simp at h
  | x :: xs, y :: ys, z :: zs, h1, h2, h3, h4 => by
    simp only [lexC] at h3 h4 ⊢
    have hxy := cmpI_vals x y
    have hyz := cmpI_vals y z
    have hxz := cmpI_vals x z
    by_cases a : cmpI x y = 0
    · rw [if_pos a] at h3
      by_cases b : cmpI y z = 0
      · rw [if_pos b] at h4
        rw [if_pos (by omega)]
        exact lexC_trans xs ys zs (by simpa using h1) (by simpa using h2) h3 h4
      · rw [if_neg b] at h4
        rw [if_neg (by omega)]; omega
    · rw [if_neg a] at h3
      by_cases b : cmpI y z = 0
      · rw [if_neg (by omega)]; omega
      · rw [if_neg b] at h4
        rw [if_neg (by omega)]; omega
theorem lexC_add : ∀ xs ys zs : List Int, xs.length = ys.length → ys.length = zs.length → lexC (zipI (· + ·) xs zs) (zipI (· + ·) ys zs) = lexC xs ys
  | [], [], _, _, _ => by simp [lexC, zipI]
  | [], _ :: _, _, h, _ => by simp at h
  | _ :: _, [], _, h, _ => by simp at h
  | _ :: _, _ :: _, [], _, h => by simp at h
  | x :: xs, y :: ys, z :: zs, h1, h2 => by
    simp only [lexC, zipI]
    rw [cmpI_add, lexC_add xs ys zs (by simpa using h1) (by simpa using h2)]

theorem zipI_snoc (g : Int → Int → Int) : ∀ (xs ys : List Int) (x y : Int), xs.length = ys.length → zipI g (xs ++ [x]) (ys ++ [y]) = zipI g xs ys ++ [g x y]
  | [], [], _, _, _ => by simp [zipI]
  | [], _ :: _, _, _, h => by simp at h
  | _ :: _, [], _, _, h => by simp at h
  | a :: xs, b :: ys, x, y, h => by simp [zipI, zipI_snoc g xs ys x y (by simpa using h)]
theorem zipI_rev (g : Int → Int → Int) : ∀ (xs ys : List Int), xs.length = ys.length → (zipI g xs ys).reverse = zipI g xs.reverse ys.reverse
  | [], [], _ => by simp [zipI]
  | [], _ :: _, h => by simp at h
  | _ :: _, [], h => by simp at h
  | a :: xs, b :: ys, h => by
    simp only [zipI, List.reverse_cons]
    rw [zipI_snoc g _ _ _ _ (by simpa using h), zipI_rev g xs ys (by simpa using h)]
theorem sumI_zip : ∀ xs ys : List Int, xs.length = ys.length → sumI (zipI (· + ·) xs ys) = sumI xs + sumI ys
  | [], [], _ => by simp [sumI, zipI]
  | [], _ :: _, h => by simp at h
  | _ :: _, [], h => by simp at h
  | a :: xs, b :: ys, h => by
    simp only [zipI, sumI]
    rw [sumI_zip xs ys (by simpa using h)]; omega

theorem ordS_neg (o : Int) (xs ys : List Int) : ordS o xs ys = - ordS o ys xs := by
  unfold ordS revC
  have h1 := cmpI_neg (sumI xs) (sumI ys)
  by_cases h : cmpI (sumI xs) (sumI ys) = 0
  · have h' : cmpI (sumI ys) (sumI xs) = 0 := by omega
    rw [if_pos h, if_pos h']
    by_cases ho : o = 1
    · rw [if_pos ho, if_pos ho]; exact lexC_neg _ _
    · rw [if_neg ho, if_neg ho]; exact lexC_neg _ _
  · rw [if_neg h, if_neg (by omega)]; exact h1
theorem ordS_bd (o : Int) (xs ys : List Int) : -1 ≤ ordS o xs ys ∧ ordS o xs ys ≤ 1 := by
  unfold ordS revC
  have h1 := cmpI_vals (sumI xs) (sumI ys)
  by_cases h : cmpI (sumI xs) (sumI ys) = 0
  · rw [if_pos h]
    by_cases ho : o = 1
    · rw [if_pos ho]; exact lexC_bd _ _
    · rw [if_neg ho]; exact lexC_bd _ _
  · rw [if_neg h]; omega
theorem ordS_zero (o : Int) (xs ys : List Int) (hl : xs.length = ys.length) : (ordS o xs ys = 0) ↔ xs = ys := by
  unfold ordS revC
  have h1 := cmpI_vals (sumI xs) (sumI ys)
  by_cases h : cmpI (sumI xs) (sumI ys) = 0
  · rw [if_pos h]
    by_cases ho : o = 1
    · rw [if_pos ho, lexC_zero _ _ (by simp; omega)]
      constructor
      · intro e; have := congrArg List.reverse e; simpa using this.symm
      · intro e; rw [e]
    · rw [if_neg ho, lexC_zero _ _ hl]
  · rw [if_neg h]
    constructor
    · intro e; exact absurd e h
    · intro e; rw [e] at h1; rw [e] at h; omega
theorem ordS_trans (o : Int) (xs ys zs : List Int) (h1 : xs.length = ys.length) (h2 : ys.length = zs.length) (h3 : 0 < ordS o xs ys) (h4 : 0 < ordS o ys zs) : 0 < ordS o xs zs := by
  unfold ordS revC at *
  have hxy := cmpI_vals (sumI xs) (sumI ys)
  have hyz := cmpI_vals (sumI ys) (sumI zs)
  have hxz := cmpI_vals (sumI xs) (sumI zs)
  by_cases a : cmpI (sumI xs) (sumI ys) = 0
  · rw [if_pos a] at h3
    by_cases b : cmpI (sumI ys) (sumI zs) = 0
    · rw [if_pos b] at h4
      rw [if_pos (by omega)]
      by_cases ho : o = 1
      · rw [if_pos ho] at h3 h4 ⊢
        have k1 := lexC_neg ys.reverse xs.reverse
        have k2 := lexC_neg zs.reverse ys.reverse
        exact Int.not_le.1 (fun hn => by
          have k3 := lexC_neg zs.reverse xs.reverse
          have k4 := lexC_trans zs.reverse ys.reverse xs.reverse (by simp; omega) (by simp; omega) h4 h3
          omega)
      · rw [if_neg ho] at h3 h4 ⊢
        exact lexC_trans xs ys zs h1 h2 h3 h4
    · rw [if_neg b] at h4
      rw [if_neg (by omega)]; omega
  · rw [if_neg a] at h3
    by_cases b : cmpI (sumI ys) (sumI zs) = 0
    · rw [if_neg (by omega)]; omega
    · rw [if_neg b] at h4
      rw [if_neg (by omega)]; omega
theorem ordS_add (o : Int) (xs ys zs : List Int) (h1 : xs.length = ys.length) (h2 : ys.length = zs.length) : ordS o (zipI (· + ·) xs zs) (zipI (· + ·) ys zs) = ordS o xs ys := by
  unfold ordS revC
  rw [sumI_zip xs zs (by omega), sumI_zip ys zs h2, cmpI_add, zipI_rev _ xs zs (by omega), zipI_rev _ ys zs h2,
    lexC_add _ _ _ (by simp; omega) (by simp; omega), lexC_add xs ys zs h1 h2]

theorem mem_le_sum : ∀ xs : List Int, (∀ x ∈ xs, 0 ≤ x ∧ x ≤ 400) → ∀ x ∈ xs, x ≤ sumI xs
  | [], _, x, hx => by simp at hx
  | y :: xs, h, x, hx => by
    have h1 := h y (by simp)
    have h2 := sumI_bd xs (fun z hz => h z (by simp [hz]))
    simp only [List.mem_cons] at hx
    simp only [sumI]
    rcases hx with rfl | hx
    · omega
    · have := mem_le_sum xs (fun z hz => h z (by simp [hz])) x hx; omega
theorem errM_mk {n : Int} {xs : List Int} (hl : (xs.length : Int) = n) (hb : ∀ x ∈ xs, 0 ≤ x ∧ x ≤ 400) (hs : sumI xs ≤ 200) : errM n xs = 0 := by
  unfold errM
  rw [if_neg (by simp [hl])]
  have h2 : xs.any outB = false := by
    rw [List.any_eq_false]
    intro x hx
    have h1 := hb x hx
    have h3 := mem_le_sum xs hb x hx
    simp [outB]; omega
  rw [if_neg (by simp [h2]), if_neg (by omega)]
end Go.Proofs.YtilogbggilchaaaDoor
