/- Values: valueOfTerm, Value. -/
import Derived.Test.YtilogbggilchaaaDoorPL
namespace Go.Proofs.YtilogbggilchaaaDoor
set_option linter.unusedSimpArgs false
set_option linter.unusedVariables false
open Go.RowKit
def outV (p x : Int) : Bool := decide (x < 0 ∨ p ≤ x)
set_option maxHeartbeats 400000 in
theorem valFn_any (p x : Int) (rb : Nat) (w : World) (hrb : w.cell? ⟨rb, 0, none⟩ = some (.int .i64 p)) :
    Calls Tryd.prog 38 #[.int .i64 x, .pointer (some ⟨rb, 0, none⟩)] w fun e w' => e = .returned (.bool (outV p x)) ∧ w' = w := by
  unfold outV
  by_cases h : x < 0
  · go_enter Tryd.func38, Tryd.ntmps38
    go_wp2
    go_ret
    exact ⟨by simp [h], rfl⟩
  · go_enter Tryd.func38, Tryd.ntmps38
    go_wp2
    go_ret
    exact ⟨by simp; omega, rfl⟩

set_option maxHeartbeats 400000 in
theorem indexVal_any (p : Int) (rb : Nat) (xs : List Int) (b off cap : Nat) (w : World) (hm : xs.length ≤ 3) (hrb : w.cell? ⟨rb, 0, none⟩ = some (.int .i64 p)) (hc : IntsAt w b off xs) :
    Calls Tryd.prog 64 #[.slice (some ⟨b, off, none⟩) xs.length cap, .func (.func 38) #[] #[.pointer (some ⟨rb, 0, none⟩)]] w fun e w' =>
      ∃ r : Int, e = .returned (.int .i64 r) ∧ decide (0 ≤ r) = xs.any (outV p) ∧ w' = w := by
  have HC : Hid (IntsAt w b off xs) := hc
  have HRB := hid hrb
  clear hc
  go_enter Tryd.func64, Tryd.ntmps64
  go_wp2
  go_loop [8] (fun i => ∃ k : Nat, k ≤ xs.length ∧ i = .int .i64 k ∧ (xs.take k).any (outV p) = false) (fun i => xs.length - (intOf i).toNat)
  case atStart => exact ⟨0, Nat.zero_le _, rfl, by simp⟩
  case round =>
    obtain ⟨k, hk, rfl, hn⟩ := hrel
    have HN : Hid ((xs.take k).any (outV p) = false) := hn
    clear hn
    by_cases hlt : k < xs.length
    · have hcell := HC.out k hlt
      have h1 := any_take (outV p) xs k hlt HN.out
      have h2 := any_at (outV p) xs k hlt
      have H1 := hid h1
      have H2 := hid h2
      clear h1 h2
      generalize xs.getD k 0 = y at hcell H1 H2
      cases hy : outV p y
      · go_wp2_with (go_at_call 38; refine (valFn_any p _ rb _ HRB.out).mono ?_; rintro e w' ⟨rfl, rfl⟩)
        go_round
        case rel => exact ⟨k + 1, by omega, by go_num, H1.out hy⟩
        case measure => simp [intOf]; omega
      · go_wp2_with (go_at_call 38; refine (valFn_any p _ rb _ HRB.out).mono ?_; rintro e w' ⟨rfl, rfl⟩)
        go_ret
        exact ⟨(k : Int), rfl, by rw [H2.out hy]; simp, rfl⟩
    · go_wp2
      go_ret
      exact ⟨-1, rfl, by have := HN.out; rw [List.take_of_length_le (by omega)] at this; rw [this]; simp, rfl⟩

set_option maxHeartbeats 400000 in
theorem containsVal_any (p : Int) (rb : Nat) (xs : List Int) (b off cap : Nat) (w : World) (hm : xs.length ≤ 3) (hrb : w.cell? ⟨rb, 0, none⟩ = some (.int .i64 p)) (hc : IntsAt w b off xs) :
    Calls Tryd.prog 37 #[.slice (some ⟨b, off, none⟩) xs.length cap, .func (.func 38) #[] #[.pointer (some ⟨rb, 0, none⟩)]] w fun e w' =>
      e = .returned (.bool (xs.any (outV p))) ∧ w' = w := by
  have HC := hid hc
  have HRB := hid hrb
  clear hc
  go_enter Tryd.func37, Tryd.ntmps37
  go_wp2_with (go_at_call 64; refine (indexVal_any p rb xs _ _ _ _ hm HRB.out HC.out).mono ?_; rintro e w' ⟨r, rfl, hr, rfl⟩)
  go_ret
  exact ⟨by rw [← hr]; rfl, rfl⟩


theorem mval_take : ∀ (xs es : List Int) (k : Nat), xs.length = es.length → k < xs.length → mval (xs.take (k + 1)) (es.take (k + 1)) = mval (xs.take k) (es.take k) * (xs.getD k 0) ^ (es.getD k 0).toNat
  | x :: xs, e :: es, 0, _, _ => by simp [mval]
  | x :: xs, e :: es, k + 1, hl, hk => by
    simp only [List.take_succ_cons, mval]
    rw [mval_take xs es k (by simpa using hl) (by simpa using hk)]
    simp [Int.mul_assoc]
  | [], _, _, _, hk => by simp at hk
  | _ :: _, [], _, hl, _ => by simp at hl
theorem mul_step (p a x : Int) (j : Nat) : (a * x ^ j % p) * x % p = a * x ^ (j + 1) % p := by
  rw [Int.pow_succ, ← Int.mul_assoc, Int.mul_emod (a * x ^ j % p), Int.emod_emod_of_dvd _ (Int.dvd_refl p), ← Int.mul_emod]

set_option maxRecDepth 100000 in
set_option maxHeartbeats 1000000 in
theorem valueOfTerm_any (p c : Int) (ev av : Value) (es xs : List Int) (w : World) (hp : 2 ≤ p ∧ p ≤ 101) (hc : 0 ≤ c ∧ c < p) (h0 : 0 < es.length) (h3 : es.length ≤ 3) (hl : xs.length = es.length) (he : ∀ e ∈ es, 0 ≤ e ∧ e ≤ 200) (hx : ∀ x ∈ xs, 0 ≤ x ∧ x < p) (hs : Sl w ev es) (ha : Sl w av xs) :
    Calls Tryd.prog 39 #[.int .i64 p, .agg #[.int .i64 c, ev], av] w fun e w' => e = .returned (.int .i64 (c * mval xs es % p)) ∧ Below w.heap.size w w' := by
  obtain ⟨ea, ec, rfl, hs1⟩ := hs
  obtain ⟨aa, ac, rfl, ha1⟩ := ha
  obtain ⟨eb, eoff, rfl, helt, hei⟩ := hs1 h0
  obtain ⟨ab, aoff, rfl, halt, hai⟩ := ha1 (by omega)
  have HL := hid hl
  have HE := hid he
  have HX := hid hx
  have HEI := hid hei
  have HAI := hid hai
  obtain ⟨hp1, hp2⟩ := hp
  obtain ⟨w1, hw1⟩ : ∃ w1, w1 = w.alloc (.cells #[.int .i64 c, .slice (some ⟨eb, eoff, none⟩) es.length ec] 55) := ⟨_, rfl⟩
  have hbw : Below w.heap.size w w1 := by rw [hw1]; exact below_oneG
  have HBW := hid hbw
  have HC := hid hc
  clear hl he hx hei hai hs1 ha1 hbw hc
  go_enter Tryd.func39, Tryd.ntmps39
  go_wp2_with fail
  rw [← hw1]
  clear hw1
  go_loop [7, 15] (fun z i => ∃ k : Nat, k ≤ es.length ∧ i = .int .i64 k ∧ z = .int .i64 (c * mval (xs.take k) (es.take k) % p)) (fun _ i => es.length - (intOf i).toNat)
  case atStart => exact ⟨0, Nat.zero_le _, rfl, by simp [mval]; exact (Int.emod_eq_of_lt HC.out.1 HC.out.2).symm⟩
  case round =>
    obtain ⟨k, hk, rfl, rfl⟩ := hrel
    by_cases hk2 : k < es.length
    · have hk3 : k < xs.length := by rw [HL.out]; exact hk2
      have c0 := HEI.out k hk2
      have d0 := HAI.out k hk3
      rw [← HBW.out.cell (p := ⟨eb, eoff + k, none⟩) helt] at c0
      rw [← HBW.out.cell (p := ⟨ab, aoff + k, none⟩) halt] at d0
      have HT := hid (mval_take xs es k HL.out hk3)
      have hee := HE.out _ (getD_mem es k hk2)
      have hxx := HX.out _ (getD_mem xs k hk3)
      generalize es.getD k 0 = e at c0 HT hee
      generalize xs.getD k 0 = x at d0 HT hxx
      have hkI : (k : Int) < (xs.length : Int) := by omega
      obtain ⟨a, ha⟩ : ∃ a, c * mval (xs.take k) (es.take k) = a := ⟨_, rfl⟩
      have HA := hid ha
      rw [ha]
      clear ha
      obtain ⟨hee1, hee2⟩ := hee
      obtain ⟨hxx1, hxx2⟩ := hxx
      go_wp2
      go_loop [7, 21] (fun z i => ∃ j : Nat, (j : Int) ≤ e ∧ i = .int .i64 j ∧ z = .int .i64 (a * x ^ j % p)) (fun _ i => (e - intOf i).toNat)
      case atStart => exact ⟨0, by omega, rfl, by simp⟩
      case round =>
        obtain ⟨j, hj, rfl, rfl⟩ := hrel
        have hb1 := Int.emod_nonneg (a * x ^ j) (show p ≠ 0 by omega)
        have hb2 := Int.emod_lt_of_pos (a * x ^ j) (show 0 < p by omega)
        have HST := hid (mul_step p a x j)
        by_cases hj2 : (j : Int) < e
        · generalize a * x ^ j % p = z at hb1 hb2 HST
          obtain ⟨hm1, hm2⟩ := mulBd (a := z) (b := x) ⟨by omega, by omega, by omega, by omega⟩
          go_wp2
          go_round
          case rel => exact ⟨j + 1, by omega, by go_num, by rw [← HST.out]⟩
          case measure => simp [intOf]; omega
        · have e1 : j = e.toNat := by omega
          go_wp2
          go_round
          case rel => exact ⟨k + 1, by omega, by go_num, by rw [HT.out, ← Int.mul_assoc, HA.out, e1]⟩
          case measure => simp [intOf]; omega
    · have e : k = es.length := by omega
      subst e
      go_wp2
      go_ret
      refine ⟨ret_int ?_, HBW.out⟩
      rw [List.take_of_length_le (show xs.length ≤ es.length by rw [HL.out]; exact Nat.le_refl _)]
end Go.Proofs.YtilogbggilchaaaDoor
