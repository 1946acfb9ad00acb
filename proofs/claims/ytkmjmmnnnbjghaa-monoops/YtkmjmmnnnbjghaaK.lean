/- monoBegun. -/
import Derived.Test.YtkmjmmnnnbjghaaJ
namespace Go.Proofs.Ytkmjmmnnnbjghaa
set_option linter.unusedSimpArgs false
set_option linter.unusedVariables false
open Go.RowKit

theorem Sl.new2 (w : World) (a b : Int) (T : TypeId) : Sl (w.alloc (.cells #[.int .i64 a, .int .i64 b] T)) (.slice (some ⟨w.heap.size, 0, none⟩) 2 2) [a, b] := by
  refine ⟨_, _, rfl, fun _ => ⟨_, _, rfl, by simp, fun i hi => ?_⟩⟩
  simp at hi
  rcases i with _ | _ | i
  · simp
  · simp
  · omega

theorem Sl.new2s (w : World) (A : Obj) (a b : Int) (T : TypeId) : Sl ((w.alloc A).alloc (.cells #[.int .i64 a, .int .i64 b] T)) (.slice (some ⟨w.heap.size + 1, 0, none⟩) 2 2) [a, b] := by
  have h := Sl.new2 (w.alloc A) a b T
  rwa [show (w.alloc A).heap.size = w.heap.size + 1 by simp] at h
theorem below_one {w : World} {A : Obj} : Below w.heap.size w (w.alloc A) := (Below.refl _ _).alloc (Nat.le_refl _) _

set_option maxHeartbeats 1000000 in
theorem monoBegun_any (w : World) : Calls Try.prog 31 #[] w fun e w' => e = .returned (.bool true) ∧ Below w.heap.size w w' := by
  have t1 : tgE (· + ·) 7 2 1 1 [1, 2] [3, 0] = 0 := by decide +kernel
  have t2 : tgR (· + ·) 7 2 1 1 [1, 2] [3, 0] = [4, 2] := by decide +kernel
  have t3 : errAll 7 2 1 1 [[2, 0], [1, 1]] = 0 := by decide +kernel
  have t4 : ordS 1 [2, 0] [1, 1] = 1 := by decide +kernel
  have t5 : errR 7 2 1 1 = 0 := by decide +kernel
  have t6 : errAll 7 2 1 1 [[0, 0]] = 0 := by decide +kernel
  have T1 := hid t1
  have T2 := hid t2
  have T3 := hid t3
  have T4 := hid t4
  have T5 := hid t5
  have T6 := hid t6
  clear t1 t2 t3 t4 t5 t6
  go_enter Try.func31, Try.ntmps31
  go_wp2_with fail
  refine (xy_any _).mono ?_
  rintro e w1 ⟨rfl, hb1⟩
  go_wp2_with fail
  refine (monoTimes_any 7 2 1 1 _ _ [1, 2] [3, 0] _ ?_ ?_).mono ?_
  · exact (Sl.new2 _ _ _ _).below below_one
  · exact Sl.new2s _ _ _ _ _
  rintro e w2 ⟨u, rfl, hu, hb2⟩
  rw [T1.out]
  rw [T2.out] at hu
  have hbb2 : Below w.heap.size w w2 := hb1.trans ((below_two.trans (hb2.mono (by simp; omega))).mono hb1.size)
  obtain ⟨ua, ucap, rfl, _⟩ := id hu
  have HU := hid hu
  clear hu hb1 hb2
  go_wp2_with fail
  refine (xy_any _).mono ?_
  rintro e w3 ⟨rfl, hb3⟩
  have HU3 := hid (HU.out.below hb3)
  have hbb3 : Below w.heap.size w w3 := hbb2.trans (hb3.mono hbb2.size)
  clear HU hb3
  go_wp2_with fail
  refine (order_ok 7 2 1 1 _ _ [2, 0] [1, 1] _ ?_ ?_ T3.out).mono ?_
  · exact (Sl.new2 _ _ _ _).below below_one
  · exact Sl.new2s _ _ _ _ _
  rintro e w4 ⟨rfl, hb4⟩
  rw [T4.out]
  have hb34 : Below w3.heap.size w3 w4 := below_two.trans (hb4.mono (by simp; omega))
  have HU4 := hid (HU3.out.below hb34)
  have hbb4 : Below w.heap.size w w4 := hbb3.trans (hb34.mono hbb3.size)
  clear HU3 hb4 hb34
  go_wp2_with fail
  refine (sameInts_any _ _ [4, 2] [4, 2] _ (by simp) ?_ ?_).mono ?_
  · exact HU4.out.below below_one
  · exact Sl.new2 _ _ _ _
  rintro e w5 ⟨rfl, hw5⟩
  have hb45 : Below w4.heap.size w4 w5 := below_ndraws below_one hw5
  have hbb5 : Below w.heap.size w w5 := hbb4.trans (hb45.mono hbb4.size)
  have hsm : sameB [4, 2] [4, 2] = true := by decide
  rw [hsm]
  clear hw5 hb45 hsm
  go_wp2_with fail
  refine (xy_any _).mono ?_
  rintro e w6 ⟨rfl, hb6⟩
  have hbb6 : Below w.heap.size w w6 := hbb5.trans (hb6.mono hbb5.size)
  clear hb6
  go_wp2_with fail
  refine (ring_any 7 2 1 1 _).mono ?_
  rintro e w7 ⟨rfl, hb7⟩
  have hbb7 : Below w.heap.size w w7 := hbb6.trans (hb7.mono hbb6.size)
  rw [T5.out]
  clear hb7
  go_wp2_with fail
  refine (xy_any _).mono ?_
  rintro e w8 ⟨rfl, hb8⟩
  have hbb8 : Below w.heap.size w w8 := hbb7.trans (hb8.mono hbb7.size)
  clear hb8
  go_wp2_with fail
  refine (monoCheck_any 7 2 1 1 _ [0, 0] _ ?_).mono ?_
  · exact Sl.new2 _ _ _ _
  rintro e w9 ⟨rfl, hb9⟩
  have hbb9 : Below w.heap.size w w9 := hbb8.trans ((below_one.trans (hb9.mono (by simp))).mono hbb8.size)
  rw [T6.out]
  go_wp2
  go_ret
  exact ⟨rfl, hbb9⟩

end Go.Proofs.Ytkmjmmnnnbjghaa
