/- Keys: of two terms at places the one that stands ahead has the greater key. -/
import Derived.Test.YtilogbggilchaaaGreatH
namespace Go.Proofs.YtilogbggilchaaaGreat
set_option linter.unusedSimpArgs false
set_option linter.unusedVariables false
open Go.RowKit
def W0 (o : Int) : Int := if o = 1 then 68719476736 else 68723671040
def W1 (o : Int) : Int := if o = 1 then 68719476480 else 68719476992
def W2 (o : Int) : Int := if o = 1 then 68715282432 else 68719476736
def stK (ov i : Int) : Int := if ov = 2 then (255 - i) * 1125899906842624 else 255 - i
def addK (o : Int) (xs : List Int) : Int := xs.getD 0 0 * W0 o + xs.getD 1 0 * W1 o + xs.getD 2 0 * W2 o
def keyL (o ov i : Int) (xs : List Int) : Int := stK ov i + addK o xs

theorem len3 {xs : List Int} (h0 : 0 < xs.length) (h3 : xs.length ≤ 3) : (∃ a, xs = [a]) ∨ (∃ a b, xs = [a, b]) ∨ (∃ a b c, xs = [a, b, c]) := by
  match xs, h0, h3 with
  | [a], _, _ => exact Or.inl ⟨a, rfl⟩
  | [a, b], _, _ => exact Or.inr (Or.inl ⟨a, b, rfl⟩)
  | [a, b, c], _, _ => exact Or.inr (Or.inr ⟨a, b, c, rfl⟩)
  | _ :: _ :: _ :: _ :: _, _, h => simp at h
theorem len3_two {xs ys : List Int} (h0 : 0 < xs.length) (h3 : xs.length ≤ 3) (he : xs.length = ys.length) : (∃ a x, xs = [a] ∧ ys = [x]) ∨ (∃ a b x y, xs = [a, b] ∧ ys = [x, y]) ∨ (∃ a b c x y z, xs = [a, b, c] ∧ ys = [x, y, z]) := by
  rcases len3 h0 h3 with ⟨a, rfl⟩ | ⟨a, b, rfl⟩ | ⟨a, b, c, rfl⟩ <;> rcases len3 (xs := ys) (by omega) (by omega) with ⟨x, rfl⟩ | ⟨x, y, rfl⟩ | ⟨x, y, z, rfl⟩ <;> simp at he <;> simp
structure Exq (N : Nat) (xs : List Int) : Prop where
  len : xs.length = N
  nn : ∀ x ∈ xs, 0 ≤ x
  deg : sumI xs ≤ 16000

theorem cmp3 (a b : Int) : (cmpI a b = 0 ∧ a = b) ∨ (cmpI a b = -1 ∧ a < b) ∨ (cmpI a b = 1 ∧ b < a) := by
  unfold cmpI
  by_cases h1 : a < b
  · exact Or.inr (Or.inl ⟨if_pos h1, h1⟩)
  · by_cases h2 : b < a
    · exact Or.inr (Or.inr ⟨by rw [if_neg h1, if_pos h2], h2⟩)
    · exact Or.inl ⟨by rw [if_neg h1, if_neg h2], by omega⟩
def OrdK (o : Int) (xs ys : List Int) : Prop := (0 < ordS o xs ys ∧ addK o ys + 256 ≤ addK o xs) ∨ (ordS o xs ys < 0 ∧ addK o xs + 256 ≤ addK o ys) ∨ (ordS o xs ys = 0 ∧ xs = ys)
theorem ord_key1 {o a x : Int} (ho : o = 1 ∨ o = 2) (na : 0 ≤ a) (nx : 0 ≤ x) : OrdK o [a] [x] := by
  unfold OrdK
  rcases ho with rfl | rfl <;> simp only [ordS, revC, lexC, sumI, addK, W0, W1, W2, List.reverse_cons, List.reverse_nil, List.nil_append, List.getD_cons_zero, List.getD_cons_succ, List.getD_nil, List.cons.injEq, eq_self, and_true, if_true, show ¬ ((2 : Int) = 1) from by decide, if_false, Int.add_zero] <;>
    rcases cmp3 a x with ⟨e, h⟩ | ⟨e, h⟩ | ⟨e, h⟩ <;> rcases cmp3 x a with ⟨e2, h2⟩ | ⟨e2, h2⟩ | ⟨e2, h2⟩ <;> simp only [e, e2, if_true, show ¬ ((-1 : Int) = 0) from by decide, show ¬ ((1 : Int) = 0) from by decide, if_false, true_and, false_and, or_false] <;> omega
set_option maxHeartbeats 1000000 in
theorem ord_key2 {o a b x y : Int} (ho : o = 1 ∨ o = 2) (na : 0 ≤ a) (nb : 0 ≤ b) (nx : 0 ≤ x) (ny : 0 ≤ y) (d1 : a + b ≤ 16000) (d2 : x + y ≤ 16000) : OrdK o [a, b] [x, y] := by
  unfold OrdK
  rcases ho with rfl | rfl <;> simp only [ordS, revC, lexC, sumI, addK, W0, W1, W2, List.reverse_cons, List.reverse_nil, List.nil_append, List.cons_append, List.getD_cons_zero, List.getD_cons_succ, List.getD_nil, List.cons.injEq, eq_self, and_true, if_true, show ¬ ((2 : Int) = 1) from by decide, if_false, Int.add_zero]
  · rcases cmp3 (a + b) (x + y) with ⟨e, h⟩ | ⟨e, h⟩ | ⟨e, h⟩ <;> simp only [e, if_true, show ¬ ((-1 : Int) = 0) from by decide, show ¬ ((1 : Int) = 0) from by decide, if_false, true_and, false_and, or_false]
    · rcases cmp3 y b with ⟨e, h⟩ | ⟨e, h⟩ | ⟨e, h⟩ <;> simp only [e, if_true, show ¬ ((-1 : Int) = 0) from by decide, show ¬ ((1 : Int) = 0) from by decide, if_false, true_and, false_and, or_false]
      · rcases cmp3 x a with ⟨e, h⟩ | ⟨e, h⟩ | ⟨e, h⟩ <;> simp only [e, if_true, show ¬ ((-1 : Int) = 0) from by decide, show ¬ ((1 : Int) = 0) from by decide, if_false, true_and, false_and, or_false] <;> omega
      · omega
      · omega
    · omega
    · omega
  · rcases cmp3 (a + b) (x + y) with ⟨e, h⟩ | ⟨e, h⟩ | ⟨e, h⟩ <;> simp only [e, if_true, show ¬ ((-1 : Int) = 0) from by decide, show ¬ ((1 : Int) = 0) from by decide, if_false, true_and, false_and, or_false]
    · rcases cmp3 a x with ⟨e, h⟩ | ⟨e, h⟩ | ⟨e, h⟩ <;> simp only [e, if_true, show ¬ ((-1 : Int) = 0) from by decide, show ¬ ((1 : Int) = 0) from by decide, if_false, true_and, false_and, or_false]
      · rcases cmp3 b y with ⟨e, h⟩ | ⟨e, h⟩ | ⟨e, h⟩ <;> simp only [e, if_true, show ¬ ((-1 : Int) = 0) from by decide, show ¬ ((1 : Int) = 0) from by decide, if_false, true_and, false_and, or_false] <;> omega
      · omega
      · omega
    · omega
    · exact Or.inl ⟨by decide, by omega⟩
set_option maxHeartbeats 2000000 in
theorem ord_key3 {o a b c x y z : Int} (ho : o = 1 ∨ o = 2) (na : 0 ≤ a) (nb : 0 ≤ b) (nc : 0 ≤ c) (nx : 0 ≤ x) (ny : 0 ≤ y) (nz : 0 ≤ z) (d1 : a + (b + c) ≤ 16000) (d2 : x + (y + z) ≤ 16000) : OrdK o [a, b, c] [x, y, z] := by
  unfold OrdK
  rcases ho with rfl | rfl <;> simp only [ordS, revC, lexC, sumI, addK, W0, W1, W2, List.reverse_cons, List.reverse_nil, List.nil_append, List.cons_append, List.getD_cons_zero, List.getD_cons_succ, List.getD_nil, List.cons.injEq, eq_self, and_true, if_true, show ¬ ((2 : Int) = 1) from by decide, if_false, Int.add_zero]
  · rcases cmp3 (a + (b + c)) (x + (y + z)) with ⟨e, h⟩ | ⟨e, h⟩ | ⟨e, h⟩ <;> simp only [e, if_true, show ¬ ((-1 : Int) = 0) from by decide, show ¬ ((1 : Int) = 0) from by decide, if_false, true_and, false_and, or_false]
    · rcases cmp3 z c with ⟨e, h⟩ | ⟨e, h⟩ | ⟨e, h⟩ <;> simp only [e, if_true, show ¬ ((-1 : Int) = 0) from by decide, show ¬ ((1 : Int) = 0) from by decide, if_false, true_and, false_and, or_false]
      · rcases cmp3 y b with ⟨e, h⟩ | ⟨e, h⟩ | ⟨e, h⟩ <;> simp only [e, if_true, show ¬ ((-1 : Int) = 0) from by decide, show ¬ ((1 : Int) = 0) from by decide, if_false, true_and, false_and, or_false]
        · rcases cmp3 x a with ⟨e, h⟩ | ⟨e, h⟩ | ⟨e, h⟩ <;> simp only [e, if_true, show ¬ ((-1 : Int) = 0) from by decide, show ¬ ((1 : Int) = 0) from by decide, if_false, true_and, false_and, or_false] <;> omega
        · omega
        · omega
      · omega
      · omega
    · omega
    · omega
  · rcases cmp3 (a + (b + c)) (x + (y + z)) with ⟨e, h⟩ | ⟨e, h⟩ | ⟨e, h⟩ <;> simp only [e, if_true, show ¬ ((-1 : Int) = 0) from by decide, show ¬ ((1 : Int) = 0) from by decide, if_false, true_and, false_and, or_false]
    · rcases cmp3 a x with ⟨e, h⟩ | ⟨e, h⟩ | ⟨e, h⟩ <;> simp only [e, if_true, show ¬ ((-1 : Int) = 0) from by decide, show ¬ ((1 : Int) = 0) from by decide, if_false, true_and, false_and, or_false]
      · rcases cmp3 b y with ⟨e, h⟩ | ⟨e, h⟩ | ⟨e, h⟩ <;> simp only [e, if_true, show ¬ ((-1 : Int) = 0) from by decide, show ¬ ((1 : Int) = 0) from by decide, if_false, true_and, false_and, or_false]
        · rcases cmp3 c z with ⟨e, h⟩ | ⟨e, h⟩ | ⟨e, h⟩ <;> simp only [e, if_true, show ¬ ((-1 : Int) = 0) from by decide, show ¬ ((1 : Int) = 0) from by decide, if_false, true_and, false_and, or_false] <;> omega
        · omega
        · omega
      · omega
      · omega
    · omega
    · omega
theorem ord_key {o : Int} {N : Nat} {xs ys : List Int} (ho : o = 1 ∨ o = 2) (h0 : 0 < N) (h3 : N ≤ 3) (hx : Exq N xs) (hy : Exq N ys) : OrdK o xs ys := by
  obtain ⟨lx, nx, dx⟩ := hx
  obtain ⟨ly, ny, dy⟩ := hy
  rcases len3_two (xs := xs) (ys := ys) (by omega) (by omega) (by omega) with ⟨a, x, rfl, rfl⟩ | ⟨a, b, x, y, rfl, rfl⟩ | ⟨a, b, c, x, y, z, rfl, rfl⟩
  · exact ord_key1 ho (nx a (by simp)) (ny x (by simp))
  · exact ord_key2 ho (nx a (by simp)) (nx b (by simp)) (ny x (by simp)) (ny y (by simp)) (by simpa [sumI] using dx) (by simpa [sumI] using dy)
  · exact ord_key3 ho (nx a (by simp)) (nx b (by simp)) (nx c (by simp)) (ny x (by simp)) (ny y (by simp)) (ny z (by simp)) (by simpa [sumI] using dx) (by simpa [sumI] using dy)
end Go.Proofs.YtilogbggilchaaaGreat
