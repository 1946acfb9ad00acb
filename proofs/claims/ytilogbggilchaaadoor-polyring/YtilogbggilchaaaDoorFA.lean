/- Numbers modulo a prime: the closures; looking through numbers. -/
import Derived.Test.YtilogbggilchaaaDoorC
namespace Go.Proofs.YtilogbggilchaaaDoor
set_option linter.unusedSimpArgs false
set_option linter.unusedVariables false
open Go.RowKit
def outP (p x : Int) : Bool := decide (x < 0 ∨ p ≤ x)

set_option maxHeartbeats 400000 in
theorem addFn_any (a b : Int) (w : World) (h : 0 ≤ a ∧ a ≤ 200 ∧ 0 ≤ b ∧ b ≤ 200) :
    Calls Tryd.prog 72 #[.int .i64 a, .int .i64 b] w fun e w' => e = .returned (.int .i64 (a + b)) ∧ w' = w := by
  obtain ⟨_, _, _, _⟩ := h
  go_enter Tryd.func72, Tryd.ntmps72
  go_wp2
  go_ret
  exact ⟨rfl, rfl⟩

theorem mul_bd {a b : Int} (h : 0 ≤ a ∧ a ≤ 200 ∧ 0 ≤ b ∧ b ≤ 200) : 0 ≤ a * b ∧ a * b ≤ 40000 := by
  obtain ⟨h1, h2, h3, h4⟩ := h
  refine ⟨Int.mul_nonneg h1 h3, ?_⟩
  have : a * b ≤ 200 * 200 := Int.mul_le_mul h2 h4 h3 (by omega)
  omega

set_option maxHeartbeats 400000 in
theorem outFn_any (p x : Int) (b : Nat) (w : World) (hb : w.cell? ⟨b, 0, none⟩ = some (.int .i64 p)) :
    Calls Tryd.prog 96 #[.int .i64 x, .pointer (some ⟨b, 0, none⟩)] w fun e w' => e = .returned (.bool (outP p x)) ∧ w' = w := by
  unfold outP
  by_cases h : x < 0
  · go_enter Tryd.func96, Tryd.ntmps96
    go_wp2
    go_ret
    exact ⟨by simp [h], rfl⟩
  · go_enter Tryd.func96, Tryd.ntmps96
    go_wp2
    go_ret
    exact ⟨by simp; omega, rfl⟩

set_option maxHeartbeats 400000 in
theorem indexOut_any (p : Int) (xs : List Int) (b off cap pb : Nat) (w : World) (hm : xs.length ≤ 400) (hc : IntsAt w b off xs) (hp : w.cell? ⟨pb, 0, none⟩ = some (.int .i64 p)) :
    Calls Tryd.prog 64 #[.slice (some ⟨b, off, none⟩) xs.length cap, .func (.func 96) #[] #[.pointer (some ⟨pb, 0, none⟩)]] w fun e w' =>
      ∃ r : Int, e = .returned (.int .i64 r) ∧ decide (0 ≤ r) = xs.any (outP p) ∧ w' = w := by
  have HC := hid hc
  have HP := hid hp
  clear hc hp
  go_enter Tryd.func64, Tryd.ntmps64
  go_wp2
  go_loop [8] (fun i => ∃ k : Nat, k ≤ xs.length ∧ i = .int .i64 k ∧ (xs.take k).any (outP p) = false) (fun i => xs.length - (intOf i).toNat)
  case atStart => exact ⟨0, Nat.zero_le _, rfl, by simp⟩
  case round =>
    obtain ⟨k, hk, rfl, hn⟩ := hrel
    have HN := hid hn
    clear hn
    by_cases hlt : k < xs.length
    · have hcell := HC.out k hlt
      have H1 := hid (any_take (outP p) xs k hlt HN.out)
      have H2 := hid (any_at (outP p) xs k hlt)
      generalize xs.getD k 0 = y at hcell H1 H2
      cases hy : outP p y
      · go_wp2_with (go_at_call 96; refine (outFn_any p _ _ _ HP.out).mono ?_; rintro e w' ⟨rfl, rfl⟩)
        go_round
        case rel => exact ⟨k + 1, by omega, by go_num, H1.out hy⟩
        case measure => simp [intOf]; omega
      · go_wp2_with (go_at_call 96; refine (outFn_any p _ _ _ HP.out).mono ?_; rintro e w' ⟨rfl, rfl⟩)
        go_ret
        exact ⟨(k : Int), rfl, by rw [H2.out hy]; simp, rfl⟩
    · go_wp2
      go_ret
      exact ⟨-1, rfl, by have := HN.out; rw [List.take_of_length_le (by omega)] at this; rw [this]; simp, rfl⟩

set_option maxHeartbeats 400000 in
theorem indexNil_any (f : Value) (a : Option Addr) (cap : Nat) (w : World) :
    Calls Tryd.prog 64 #[.slice a 0 cap, f] w fun e w' => e = .returned (.int .i64 (-1)) ∧ w' = w := by
  go_enter Tryd.func64, Tryd.ntmps64
  go_wp2
  go_loop [8] (fun i => i = .int .i64 0) (fun _ => 0)
  case atStart => rfl
  case round =>
    subst hrel
    go_wp2
    go_ret
    exact ⟨rfl, rfl⟩

set_option maxHeartbeats 400000 in
theorem anyOutside_any (p : Int) (v : Value) (xs : List Int) (w : World) (hm : xs.length ≤ 400) (hs : Sl w v xs) :
    Calls Tryd.prog 82 #[.int .i64 p, v] w fun e w' => e = .returned (.bool (xs.any (outP p))) ∧ Below w.heap.size w w' := by
  have below_one : ∀ {w : World} {A : Obj}, Below w.heap.size w (w.alloc A) := fun {w A} => (Below.refl _ _).alloc (Nat.le_refl _) _
  obtain ⟨a, cap, rfl, h1⟩ := hs
  have hcon : ∀ (W : World) (pb : Nat), W.cell? ⟨pb, 0, none⟩ = some (.int .i64 p) → Below w.heap.size w W → Calls Tryd.prog 37 #[.slice a xs.length cap, .func (.func 96) #[] #[.pointer (some ⟨pb, 0, none⟩)]] W fun e w' => e = .returned (.bool (xs.any (outP p))) ∧ w' = W := by
    intro W pb hW hb
    by_cases h0 : 0 < xs.length
    · obtain ⟨b, off, rfl, hlt, hc⟩ := h1 h0
      have HC : Hid (IntsAt W b off xs) := fun i hi => by rw [hb.cell (p := ⟨b, off + i, none⟩) hlt]; exact hc i hi
      have HW := hid hW
      clear hc h1 hb hW
      go_enter Tryd.func37, Tryd.ntmps37
      go_wp2_with (go_at_call 64; refine (indexOut_any p xs _ _ _ _ _ hm HC.out HW.out).mono ?_; rintro e w' ⟨r, rfl, hr, rfl⟩)
      go_ret
      exact ⟨by rw [← hr]; rfl, rfl⟩
    · have e : xs = [] := List.length_eq_zero_iff.1 (by omega)
      subst e
      clear h1 hb hW h0 hm
      go_enter Tryd.func37, Tryd.ntmps37
      go_wp2_with (go_at_call 64; refine (indexNil_any _ _ _ _).mono ?_; rintro e w' ⟨rfl, rfl⟩)
      go_ret
      exact ⟨rfl, rfl⟩
  have HCON := hid hcon
  clear hcon h1
  go_enter Tryd.func82, Tryd.ntmps82
  go_wp2_with fail
  refine (HCON.out _ _ (by simp) below_one).mono ?_
  rintro e w' ⟨rfl, rfl⟩
  go_wp2
  go_ret
  exact ⟨rfl, below_one⟩
end Go.Proofs.YtilogbggilchaaaDoor
