/- FieldRanks, walked. -/
import Derived.Test.YtkmjmmnnnbjghaaFP
namespace Go.Proofs.Ytkmjmmnnnbjghaa
set_option linter.unusedSimpArgs false
set_option linter.unusedVariables false
open Go.RowKit

theorem primeN {n : Nat} (h : primeB (n : Int) = true) : noDiv n n = true := h

set_option maxHeartbeats 1000000 in
theorem fieldRanks_any (p : Int) (v : Value) (xss : List (List Int)) (w : World) (hr : Rws w v xss) :
    Calls Try.prog 4 #[.int .i64 p, v] w fun e w' => e = .returned (.bool true) ∧ Below w.heap.size w w' := by
  have HR := hid hr
  obtain ⟨a, cap, rfl, _⟩ := hr
  cases hz : (errP p == 0)
  · have hz0 : errP p ≠ 0 := by simpa using hz
    have E1 : Hid (rowsE p xss = errP p) := by unfold Hid rowsE; rw [if_neg hz0]
    have E2 : Hid (rankR p xss = 0) := by unfold Hid rankR; rw [E1.out, if_neg hz0]
    clear hz0
    go_enter Try.func4, Try.ntmps4
    go_wp2_with fail
    refine (rank_any p _ xss _ HR.out).mono ?_
    rintro e w1 ⟨rfl, hb1⟩
    rw [E1.out, E2.out]
    go_wp2_with fail
    refine (checkPrime_any p _).mono ?_
    rintro e w' ⟨rfl, hw'⟩
    subst w'
    go_wp2_with fail
    refine (fieldBegun_any _).mono ?_
    rintro e w2 ⟨rfl, hb2⟩
    go_wp2
    go_ret
    exact ⟨by simp, hb1.trans (hb2.mono hb1.size)⟩
  · have hz0 : errP p = 0 := by simpa using hz
    obtain ⟨hp1, hp2, hpr⟩ := errP_ok hz0
    have HZ := hid hz0
    have HPR := hid hpr
    have E1 : Hid (rowsE p xss = rowE p xss) := by unfold Hid rowsE; rw [if_pos hz0]
    clear hz0 hpr hz
    cases hy : (rowE p xss == 0)
    · have hy0 : rowE p xss ≠ 0 := by simpa using hy
      have E2 : Hid (rankR p xss = 0) := by unfold Hid rankR; rw [E1.out, if_neg hy0]
      clear hy0
      go_enter Try.func4, Try.ntmps4
      go_wp2_with fail
      refine (rank_any p _ xss _ HR.out).mono ?_
      rintro e w1 ⟨rfl, hb1⟩
      rw [E1.out, E2.out]
      go_wp2_with fail
      refine (checkPrime_any p _).mono ?_
      rintro e w' ⟨rfl, hw'⟩
      subst w'
      rw [HZ.out]
      go_wp2_with fail
      refine (checkRowsRef_any p _ xss _ ⟨hp1, hp2⟩ (HR.out.below hb1)).mono ?_
      rintro e w2 ⟨rfl, hb2⟩
      have hb12 := hb1.trans (hb2.mono hb1.size)
      clear hb1 hb2
      go_wp2_with fail
      refine (fieldBegun_any _).mono ?_
      rintro e w3 ⟨rfl, hb3⟩
      go_wp2
      go_ret
      exact ⟨by simp, hb12.trans (hb3.mono hb12.size)⟩
    · have hy0 : rowE p xss = 0 := by simpa using hy
      have E0 : Hid (rowsE p xss = 0) := by rw [E1.out]; exact hy0
      have E2 : Hid (rankR p xss = ((pivs p xss).length : Int)) := by unfold Hid rankR; rw [if_pos E0.out]
      have HY := hid hy0
      obtain ⟨_, h2, h3, h4⟩ := rowsE_ok E0.out
      have H4 := hid h4
      obtain ⟨pn, rfl⟩ : ∃ n : Nat, p = n := ⟨p.toNat, by omega⟩
      clear hy0 hy h4
      generalize (xss.getD 0 []).length = n at *
      go_enter Try.func4, Try.ntmps4
      go_wp2_with fail
      refine (rank_any pn _ xss _ HR.out).mono ?_
      rintro e w1 ⟨rfl, hb1⟩
      rw [E0.out, E2.out]
      go_wp2_with fail
      refine (checkPrime_any pn _).mono ?_
      rintro e w' ⟨rfl, hw'⟩
      subst w'
      rw [HZ.out]
      go_wp2_with fail
      refine (checkRowsRef_any pn _ xss _ ⟨hp1, hp2⟩ (HR.out.below hb1)).mono ?_
      rintro e w2 ⟨rfl, hb2⟩
      rw [HY.out]
      have hb12 := hb1.trans (hb2.mono hb1.size)
      clear hb1 hb2
      go_wp2_with fail
      refine (rankOf_any pn n _ xss _ (by omega) (by omega) (primeN HPR.out) h2 h3 H4.out (HR.out.below hb12)).mono ?_
      rintro e w3 ⟨rfl, hb3⟩
      have hb13 := hb12.trans (hb3.mono hb12.size)
      clear hb12 hb3
      go_wp2_with fail
      refine (fieldBegun_any _).mono ?_
      rintro e w4 ⟨rfl, hb4⟩
      go_wp2
      go_ret
      exact ⟨by simp, hb13.trans (hb4.mono hb13.size)⟩

end Go.Proofs.Ytkmjmmnnnbjghaa
