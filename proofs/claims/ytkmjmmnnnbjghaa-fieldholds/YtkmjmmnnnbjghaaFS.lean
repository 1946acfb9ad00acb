/- Plain mathematics: as many rows are independent as columns are. -/
import Derived.Test.YtkmjmmnnnbjghaaFG
namespace Go.Proofs.Ytkmjmmnnnbjghaa
set_option linter.unusedSimpArgs false
set_option linter.unusedVariables false

def sumN : Nat → (Nat → Int) → Int
  | 0, _ => 0
  | n + 1, f => sumN n f + f n
theorem sumN_congr {n : Nat} {f g : Nat → Int} (h : ∀ k, k < n → f k = g k) : sumN n f = sumN n g := by
  induction n with
  | zero => rfl
  | succ n ih => simp only [sumN]; rw [ih (fun k hk => h k (by omega)), h n (by omega)]
theorem sumN_add (n : Nat) (f g : Nat → Int) : sumN n (fun k => f k + g k) = sumN n f + sumN n g := by
  induction n with
  | zero => rfl
  | succ n ih => simp only [sumN]; rw [ih]; omega
theorem sumN_sub (n : Nat) (f g : Nat → Int) : sumN n (fun k => f k - g k) = sumN n f - sumN n g := by
  induction n with
  | zero => rfl
  | succ n ih => simp only [sumN]; rw [ih]; omega
theorem sumN_mul (n : Nat) (c : Int) (f : Nat → Int) : sumN n (fun k => c * f k) = c * sumN n f := by
  induction n with
  | zero => simp [sumN]
  | succ n ih => simp only [sumN]; rw [ih, Int.mul_add]
theorem sumN_mulr (n : Nat) (c : Int) (f : Nat → Int) : sumN n (fun k => f k * c) = sumN n f * c := by
  induction n with
  | zero => simp [sumN]
  | succ n ih => simp only [sumN]; rw [ih, Int.add_mul]
theorem sumN_zero (n : Nat) : sumN n (fun _ => 0) = 0 := by
  induction n with
  | zero => rfl
  | succ n ih => simp only [sumN]; rw [ih]; rfl
theorem sumN_dvd {n : Nat} {d : Int} {f : Nat → Int} (h : ∀ k, k < n → d ∣ f k) : d ∣ sumN n f := by
  induction n with
  | zero => exact ⟨0, by simp [sumN]⟩
  | succ n ih => simp only [sumN]; exact Int.dvd_add (ih (fun k hk => h k (by omega))) (h n (by omega))
theorem sumN_swap (n m : Nat) (f : Nat → Nat → Int) : sumN n (fun i => sumN m (fun j => f i j)) = sumN m (fun j => sumN n (fun i => f i j)) := by
  induction n with
  | zero => simp only [sumN]; rw [sumN_zero]
  | succ n ih => simp only [sumN]; rw [ih, ← sumN_add]
def sk (k0 k : Nat) : Nat := if k < k0 then k else k + 1
theorem sumN_skip (n k0 : Nat) (h : k0 ≤ n) (f : Nat → Int) : sumN (n + 1) f = sumN n (fun k => f (sk k0 k)) + f k0 := by
  induction n with
  | zero =>
    have : k0 = 0 := by omega
    subst this; simp [sumN]
  | succ n ih =>
    by_cases hk : k0 = n + 1
    · subst hk
      have e : sumN (n + 1) (fun k => f (sk (n + 1) k)) = sumN (n + 1) f := sumN_congr (fun k hk => by simp [sk, hk])
      rw [e]; rfl
    · have h1 := ih (by omega)
      have e : sumN (n + 1 + 1) f = sumN (n + 1) f + f (n + 1) := rfl
      have e2 : sumN (n + 1) (fun k => f (sk k0 k)) = sumN n (fun k => f (sk k0 k)) + f (n + 1) := by
        show sumN n (fun k => f (sk k0 k)) + f (sk k0 n) = _
        have : sk k0 n = n + 1 := by unfold sk; rw [if_neg (by omega)]
        rw [this]
      rw [e, h1, e2]; omega

/-- More unknowns than equations: there is a solution that is not nothing. -/
theorem solve (p : Int) (hpr : ∀ a b : Int, p ∣ a * b → p ∣ a ∨ p ∣ b) (h1 : ¬ p ∣ 1) : ∀ (r s : Nat), r < s → ∀ c : Nat → Nat → Int, ∃ x : Nat → Int, (∃ k, k < s ∧ ¬ p ∣ x k) ∧ ∀ i, i < r → p ∣ sumN s (fun k => c i k * x k) := by
  intro r
  induction r with
  | zero => intro s hs c; exact ⟨fun _ => 1, ⟨0, hs, h1⟩, fun i hi => absurd hi (by omega)⟩
  | succ r ih =>
    intro s hs c
    by_cases hall : ∀ k, k < s → p ∣ c r k
    · obtain ⟨x, hx, hsol⟩ := ih s (by omega) c
      refine ⟨x, hx, fun i hi => ?_⟩
      by_cases hir : i = r
      · subst hir
        exact sumN_dvd (fun k hk => Int.dvd_trans (hall k hk) ⟨x k, rfl⟩)
      · exact hsol i (by omega)
    · obtain ⟨k0, hk0⟩ : ∃ k0, ¬ (k0 < s → p ∣ c r k0) := by
        apply Classical.byContradiction
        intro hn
        exact hall (fun k => Classical.byContradiction (fun hk => hn ⟨k, hk⟩))
      have hk1 : k0 < s := Classical.byContradiction (fun h => hk0 (fun h' => absurd h' h))
      have hk2 : ¬ p ∣ c r k0 := fun h => hk0 (fun _ => h)
      obtain ⟨s', rfl⟩ : ∃ s', s = s' + 1 := ⟨s - 1, by omega⟩
      obtain ⟨y, ⟨kx, hkx, hky⟩, hsol⟩ := ih s' (by omega) (fun i k => c i (sk k0 k) * c r k0 - c i k0 * c r (sk k0 k))
      have hne : ∀ k, sk k0 k ≠ k0 := fun k => by unfold sk; split <;> omega
      obtain ⟨X, hX0, hXk⟩ : ∃ X : Nat → Int, X k0 = - sumN s' (fun j => c r (sk k0 j) * y j) ∧ ∀ k, X (sk k0 k) = y k * c r k0 := by
        refine ⟨fun k => if k = k0 then - sumN s' (fun j => c r (sk k0 j) * y j) else y (if k < k0 then k else k - 1) * c r k0, by simp, fun k => ?_⟩
        show (if sk k0 k = k0 then _ else y (if sk k0 k < k0 then sk k0 k else sk k0 k - 1) * c r k0) = _
        rw [if_neg (hne k)]
        have e : (if sk k0 k < k0 then sk k0 k else sk k0 k - 1) = k := by
          by_cases hk : k < k0
          · have e1 : sk k0 k = k := by unfold sk; rw [if_pos hk]
            rw [e1, if_pos hk]
          · have e1 : sk k0 k = k + 1 := by unfold sk; rw [if_neg hk]
            rw [e1, if_neg (by omega)]; omega
        rw [e]
      refine ⟨X, ⟨sk k0 kx, ?_, ?_⟩, fun i hi => ?_⟩
      · unfold sk; split <;> omega
      · rw [hXk]
        intro h
        rcases hpr _ _ h with h | h
        · exact hky h
        · exact hk2 h
      · rw [sumN_skip s' k0 (by omega), hX0]
        have e1 : sumN s' (fun k => c i (sk k0 k) * X (sk k0 k)) = sumN s' (fun k => c i (sk k0 k) * c r k0 * y k) :=
          sumN_congr (fun k hk => by rw [hXk]; grind)
        have e2 : sumN s' (fun k => c i (sk k0 k) * c r k0 * y k) + c i k0 * -sumN s' (fun j => c r (sk k0 j) * y j) = sumN s' (fun k => (c i (sk k0 k) * c r k0 - c i k0 * c r (sk k0 k)) * y k) := by
          have e3 : sumN s' (fun k => (c i (sk k0 k) * c r k0 - c i k0 * c r (sk k0 k)) * y k) = sumN s' (fun k => c i (sk k0 k) * c r k0 * y k - c i k0 * (c r (sk k0 k) * y k)) := sumN_congr (fun k hk => by grind)
          rw [e3, sumN_sub, sumN_mul]; grind
        rw [e1, e2]
        by_cases hir : i = r
        · subst hir
          have e4 : sumN s' (fun k => (c i (sk k0 k) * c i k0 - c i k0 * c i (sk k0 k)) * y k) = 0 := by
            exact (sumN_congr (fun k hk => by grind)).trans (sumN_zero s')
          rw [e4]; exact ⟨0, by simp⟩
        · exact hsol i (by omega)

/-- It is made of these, modulo p. -/
def Sp (p : Int) (n r : Nat) (V : Nat → Nat → Int) (u : Nat → Int) : Prop := ∃ a : Nat → Int, ∀ j, j < n → p ∣ u j - sumN r (fun k => a k * V k j)
theorem Sp.one {p : Int} {n r : Nat} {V : Nat → Nat → Int} {k : Nat} (hk : k < r) : Sp p n r V (V k) := by
  refine ⟨fun i => if i = k then 1 else 0, fun j _ => ?_⟩
  obtain ⟨r', rfl⟩ : ∃ r', r = r' + 1 := ⟨r - 1, by omega⟩
  rw [sumN_skip r' k (by omega)]
  have e : sumN r' (fun i => (if sk k i = k then 1 else 0) * V (sk k i) j) = 0 := by
    refine (sumN_congr (fun i _ => ?_)).trans (sumN_zero r')
    rw [if_neg (by unfold sk; split <;> omega)]; exact Int.zero_mul _
  rw [e]; simp
theorem Sp.add {p : Int} {n r : Nat} {V : Nat → Nat → Int} {u v : Nat → Int} (hu : Sp p n r V u) (hv : Sp p n r V v) : Sp p n r V (fun j => u j + v j) := by
  obtain ⟨a, ha⟩ := hu
  obtain ⟨b, hb⟩ := hv
  refine ⟨fun k => a k + b k, fun j hj => ?_⟩
  have e : sumN r (fun k => (a k + b k) * V k j) = sumN r (fun k => a k * V k j) + sumN r (fun k => b k * V k j) := by
    rw [← sumN_add]; exact sumN_congr (fun k _ => by grind)
  rw [e]
  have := Int.dvd_add (ha j hj) (hb j hj)
  have e2 : u j + v j - (sumN r (fun k => a k * V k j) + sumN r (fun k => b k * V k j)) = u j - sumN r (fun k => a k * V k j) + (v j - sumN r (fun k => b k * V k j)) := by omega
  rw [e2]; exact this
theorem Sp.smul {p : Int} {n r : Nat} {V : Nat → Nat → Int} {u : Nat → Int} (c : Int) (hu : Sp p n r V u) : Sp p n r V (fun j => c * u j) := by
  obtain ⟨a, ha⟩ := hu
  refine ⟨fun k => c * a k, fun j hj => ?_⟩
  have e : sumN r (fun k => c * a k * V k j) = c * sumN r (fun k => a k * V k j) := by
    rw [← sumN_mul]; exact sumN_congr (fun k _ => by grind)
  rw [e, ← Int.mul_sub]
  exact Int.dvd_trans (ha j hj) ⟨c, by rw [Int.mul_comm]⟩
theorem Sp.congr {p : Int} {n r : Nat} {V : Nat → Nat → Int} {u v : Nat → Int} (hu : Sp p n r V u) (h : ∀ j, j < n → p ∣ v j - u j) : Sp p n r V v := by
  obtain ⟨a, ha⟩ := hu
  refine ⟨a, fun j hj => ?_⟩
  have := Int.dvd_add (h j hj) (ha j hj)
  have e : v j - u j + (u j - sumN r (fun k => a k * V k j)) = v j - sumN r (fun k => a k * V k j) := by omega
  rwa [e] at this
theorem Sp.zero {p : Int} {n r : Nat} {V : Nat → Nat → Int} : Sp p n r V (fun _ => 0) := by
  refine ⟨fun _ => 0, fun j _ => ?_⟩
  have e : sumN r (fun k => 0 * V k j) = 0 := (sumN_congr (fun k _ => Int.zero_mul _)).trans (sumN_zero r)
  rw [e]; exact ⟨0, by simp⟩
theorem Sp.sum {p : Int} {n r : Nat} {V : Nat → Nat → Int} (m : Nat) (t : Nat → Int) (U : Nat → Nat → Int) (h : ∀ k, k < m → Sp p n r V (U k)) : Sp p n r V (fun j => sumN m (fun k => t k * U k j)) := by
  induction m with
  | zero => exact Sp.zero
  | succ m ih => exact (ih (fun k hk => h k (by omega))).add ((h m (by omega)).smul (t m))
/-- .. of more. -/
theorem Sp.more {p : Int} {n r r' : Nat} {V V' : Nat → Nat → Int} {u : Nat → Int} (hu : Sp p n r V u) (h : ∀ k, k < r → Sp p n r' V' (V k)) : Sp p n r' V' u := by
  obtain ⟨a, ha⟩ := hu
  exact (Sp.sum r a V h).congr ha

/-- What stands below a stair is independent: and so no more of them than what they are made of. -/
theorem stair (p : Int) (hpr : ∀ a b : Int, p ∣ a * b → p ∣ a ∨ p ∣ b) (h1 : ¬ p ∣ 1) (m s r : Nat) (G : Nat → Nat → Int) (d : Nat → Nat) (A : Nat → Nat → Int)
    (hd : ∀ l, l < s → d l < m) (hone : ∀ l, l < s → p ∣ G l (d l) - 1) (hzero : ∀ l l', l < l' → l' < s → p ∣ G l' (d l)) (hsp : ∀ l, l < s → Sp p m r A (G l)) : s ≤ r := by
  apply Nat.le_of_not_lt
  intro hrs
  have hC : ∃ C : Nat → Nat → Int, ∀ l, l < s → ∀ i, i < m → p ∣ G l i - sumN r (fun k => C l k * A k i) := by
    refine ⟨fun l => if h : l < s then Classical.choose (hsp l h) else fun _ => 0, fun l hl i hi => ?_⟩
    simp only [dif_pos hl]
    exact Classical.choose_spec (hsp l hl) i hi
  obtain ⟨C, hC⟩ := hC
  obtain ⟨x, ⟨k, hk, hxk⟩, hsol⟩ := solve p hpr h1 r s hrs (fun k l => C l k)
  -- the sum is nothing
  have hsum : ∀ i, i < m → p ∣ sumN s (fun l => x l * G l i) := by
    intro i hi
    have hA : p ∣ sumN s (fun l => x l * G l i) - sumN s (fun l => x l * sumN r (fun k => C l k * A k i)) := by
      rw [← sumN_sub]
      refine sumN_dvd (fun l hl => ?_)
      have := hC l hl i hi
      rw [← Int.mul_sub]
      exact Int.dvd_trans this ⟨x l, by rw [Int.mul_comm]⟩
    have hB : p ∣ sumN s (fun l => x l * sumN r (fun k => C l k * A k i)) := by
      have e : sumN s (fun l => x l * sumN r (fun k => C l k * A k i)) = sumN r (fun k => sumN s (fun l => C l k * x l) * A k i) := by
        have e1 : sumN s (fun l => x l * sumN r (fun k => C l k * A k i)) = sumN s (fun l => sumN r (fun k => C l k * x l * A k i)) :=
          sumN_congr (fun l _ => by rw [← sumN_mul]; exact sumN_congr (fun k _ => by grind))
        rw [e1, sumN_swap]
        exact sumN_congr (fun k _ => by rw [← sumN_mulr])
      rw [e]
      exact sumN_dvd (fun k hk => Int.dvd_trans (hsol k hk) ⟨A k i, rfl⟩)
    have := Int.dvd_add hA hB
    rwa [Int.sub_add_cancel] at this
  have hall : ∀ l, l < s → p ∣ x l := by
    intro l
    induction l using Nat.strongRecOn with
    | _ l ih =>
      intro hl
      have h2 := hsum (d l) (hd l hl)
      obtain ⟨s', rfl⟩ : ∃ s', s = s' + 1 := ⟨s - 1, by omega⟩
      rw [sumN_skip s' l (by omega)] at h2
      have h3 : p ∣ sumN s' (fun k => x (sk l k) * G (sk l k) (d l)) := by
        refine sumN_dvd (fun k hk => ?_)
        by_cases hkl : k < l
        · have e : sk l k = k := by unfold sk; rw [if_pos hkl]
          rw [e]
          exact Int.dvd_trans (ih k hkl (by omega)) ⟨_, rfl⟩
        · have e : sk l k = k + 1 := by unfold sk; rw [if_neg hkl]
          rw [e]
          exact Int.dvd_trans (hzero l (k + 1) (by omega) (by omega)) ⟨x (k + 1), by rw [Int.mul_comm]⟩
      have h4 : p ∣ x l * G l (d l) := by
        have := Int.dvd_sub h2 h3
        rwa [show sumN s' (fun k => x (sk l k) * G (sk l k) (d l)) + x l * G l (d l) - sumN s' (fun k => x (sk l k) * G (sk l k) (d l)) = x l * G l (d l) by omega] at this
      have h5 : p ∣ x l * (G l (d l) - 1) := Int.dvd_trans (hone l hl) ⟨x l, by rw [Int.mul_comm]⟩
      have := Int.dvd_sub h4 h5
      rwa [show x l * G l (d l) - x l * (G l (d l) - 1) = x l by grind] at this
  exact hxk (hall k hk)

end Go.Proofs.Ytkmjmmnnnbjghaa

