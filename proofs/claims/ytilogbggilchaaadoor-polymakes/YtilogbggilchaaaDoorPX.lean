/- polyBegun. -/
import Derived.Test.YtilogbggilchaaaDoorPQ
import Derived.Test.YtilogbggilchaaaDoorVB
import Derived.Test.YtilogbggilchaaaDoorH
namespace Go.Proofs.YtilogbggilchaaaDoor
set_option linter.unusedSimpArgs false
set_option linter.unusedVariables false
open Go.RowKit
set_option maxHeartbeats 1000000 in
theorem polyCheck_any (p n o v : Int) (chk : List (List Tm) → Int) (HC : Tells p n o v chk) (x : Value) (fs : List Tm) (w : World) (pf : Pl w x fs) :
    Calls Tryd.prog 12 #[ringV p n o v, x] w fun e w' => e = .returned (.int .i64 (chk [fs])) ∧ Below w.heap.size w w' := by
  have HP := hid pf
  have HT := hid HC
  obtain ⟨a, c, rfl, _, _⟩ := pf
  clear HC
  have HB2 : Hid (∀ A B, Below w.heap.size w ((w.alloc A).alloc B)) := fun A B => below_two
  go_enter Tryd.func12, Tryd.ntmps12
  go_wp2_with fail
  refine (HT.out.1 [fs] _ _ (by simp) (pls1 (HP.out.below (HB2.out _ _)) (by simp) (by simp [go_sem]))).mono ?_
  rintro e w1 ⟨rfl, hb1⟩
  have HB1 := hid ((HB2.out _ _).trans (hb1.mono (HB2.out _ _).size))
  clear hb1
  go_wp2
  go_ret
  exact ⟨rfl, HB1.out⟩

set_option maxHeartbeats 1000000 in
theorem term_any (c : Int) (a : Option Addr) (n m : Nat) (w : World) :
    Calls Tryd.prog 31 #[.int .i64 c, .slice a n m] w fun e w' => e = .returned (.agg #[.int .i64 c, .slice a n m]) ∧ Below w.heap.size w w' := by
  go_enter Tryd.func31, Tryd.ntmps31
  go_wp2
  exact bodyPost_ret (v := .agg #[.int .i64 c, .slice a n m]) (by simp [results, Tryd.results31, go_sem]) rfl ⟨rfl, (Below.refl _ _).alloc (Nat.le_refl _) _⟩

abbrev fB : List Tm := [(1, [1, 0]), (2, [0, 0])]
theorem pl_new2 {w : World} {c1 c2 : Int} {s1 s2 : Value} {e1 e2 : List Int} {T : TypeId} (h1 : Sl w s1 e1) (h2 : Sl w s2 e2) : Pl (w.alloc (.cells #[.int .i64 c1, s1, .int .i64 c2, s2] T)) (.slice (some ⟨w.heap.size, 0, none⟩) 2 2) [(c1, e1), (c2, e2)] := by
  refine ⟨_, _, rfl, by simp, fun _ => ⟨_, _, rfl, by simp, fun i hi => ?_⟩⟩
  simp at hi
  rcases i with _ | _ | i
  · exact ⟨by simp [go_sem], s1, by simp [go_sem], h1.below belowNew⟩
  · exact ⟨by simp [go_sem], s2, by simp [go_sem], h2.below belowNew⟩
  · omega
theorem txtB : priR 0 [(1, [2, 0]), (4, [1, 0]), (4, [0, 0])] = [120, 94, 50, 32, 43, 32, 52, 42, 120, 32, 43, 32, 52] := by
  have h2 : Lib.decDigits 2 = [50] := Lib.decDigits_one (by decide)
  have h4 : Lib.decDigits 4 = [52] := Lib.decDigits_one (by decide)
  simp [priR, ptB, facs, pows, powB, varB, sumI, h2, h4, Lib.join, List.intercalate, List.intersperse]

set_option maxRecDepth 100000 in
set_option maxHeartbeats 2000000 in
theorem polyBegun_any (chk : List (List Tm) → Int) (HC : Tells 7 2 1 1 chk) (hJ : JoK) (w : World) (hI : ItoK (fun i => i < 100) w) :
    Calls Tryd.prog 11 #[] w fun e w' => e = .returned (.bool true) ∧ Below w.heap.size w w' := by
  have t0 : errR 7 2 1 1 = 0 := by decide +kernel
  have t1 : errOne 7 2 1 fB = 0 := by decide +kernel
  have k1 : chk [fB, fB] = 0 := HC.2.2 t0 _ (fun f hf => by simp at hf; rw [hf]; exact t1)
  have k2 : chk [fB] = 0 := HC.2.2 t0 _ (fun f hf => by simp at hf; rw [hf]; exact t1)
  have t3 : colL 7 1 (prodL 7 fB fB) = [(1, [2, 0]), (4, [1, 0]), (4, [0, 0])] := by decide +kernel
  have t4 : greatB (colL 7 1 (prodL 7 fB fB)) = false := by rw [t3]; decide +kernel
  have t5 : errOne 7 2 1 [(1, [2, 0]), (4, [1, 0]), (4, [0, 0])] = 0 := by decide +kernel
  have k3 : chk [[(1, [2, 0]), (4, [1, 0]), (4, [0, 0])]] = 0 := HC.2.2 t0 _ (fun f hf => by simp at hf; rw [hf]; exact t5)
  have m1 := mulE_no (p := 7) (o := 1) (f := fB) (g := fB) k1 t4
  have v1 : valE (chk [fB]) 2 7 [3, 0] = 0 := by rw [k2]; decide +kernel
  have v2 : valR (chk [fB]) 2 7 [3, 0] fB = 5 := by rw [k2]; decide +kernel
  have T := hid (And.intro m1.1 (And.intro (m1.2.trans t3) (And.intro k3 (And.intro v1 (And.intro v2 k2)))))
  have HT := hid HC
  have HJ := hid hJ
  have HI := hid hI
  clear t0 t1 k1 k2 t3 t4 t5 k3 m1 v1 v2 HC hJ hI
  go_enter Tryd.func11, Tryd.ntmps11
  go_wp2_with fail
  refine (term_any _ _ _ _ _).mono ?_
  rintro e w1 ⟨rfl, hb1⟩
  have HS1 := hid ((Sl.new2 w 1 0 _).below hb1)
  have HB1 := hid (show Below w.heap.size w w1 from below_one.trans (hb1.mono (by simp)))
  clear hb1
  go_wp2_with fail
  refine (term_any _ _ _ _ _).mono ?_
  rintro e w2 ⟨rfl, hb2⟩
  have HS2 := hid ((Sl.new2 w1 0 0 _).below hb2)
  have HS3 := hid ((HS1.out.below below_one).below hb2)
  have HB2 := hid (show Below w.heap.size w w2 from HB1.out.trans ((below_one.trans (hb2.mono (by simp))).mono HB1.out.size))
  clear hb2 HS1
  have HPF := hid (fun T => pl_new2 (c1 := 1) (c2 := 2) (T := T) HS3.out HS2.out)
  go_wp2_with fail
  refine (xy_any _).mono ?_
  rintro e w4 ⟨rfl, hb4⟩
  have HF4 := hid ((HPF.out _).below hb4)
  have HB4 := hid (show Below w.heap.size w w4 from HB2.out.trans ((below_one.trans (hb4.mono (by simp))).mono HB2.out.size))
  clear hb4
  go_wp2_with fail
  refine (polyMul_any 7 2 1 1 chk HT.out _ _ fB fB _ HF4.out HF4.out).mono ?_
  rintro e w5 ⟨u, rfl, hu, hb5⟩
  rw [T.out.1]
  rw [T.out.2.1] at hu
  have HU := hid hu
  have HF5 := hid (HF4.out.below hb5)
  have HB5 := hid (show Below w.heap.size w w5 from HB4.out.trans (hb5.mono HB4.out.size))
  obtain ⟨ua, uc, rfl, _, _⟩ := hu
  clear hb5 HF4
  go_wp2_with fail
  refine (xy_any _).mono ?_
  rintro e w6 ⟨rfl, hb6⟩
  have HU6 := hid (HU.out.below hb6)
  have HF6 := hid (HF5.out.below hb6)
  have HB6 := hid (show Below w.heap.size w w6 from HB5.out.trans (hb6.mono HB5.out.size))
  clear hb6 HU HF5
  go_wp2_with fail
  refine (polyPrint_any (fun i => i < 100) 7 2 1 1 chk HT.out HJ.out _ [(1, [2, 0]), (4, [1, 0]), (4, [0, 0])] _ (fun i W hq hb => HI.out i W hq (HB6.out.trans (hb.mono HB6.out.size))) (by decide) HU6.out).mono ?_
  rintro e w7 ⟨rfl, hb7⟩
  rw [T.out.2.2.1, txtB]
  unfold mkS
  have HF7 := hid (HF6.out.below hb7)
  have HB7 := hid (show Below w.heap.size w w7 from HB6.out.trans (hb7.mono HB6.out.size))
  clear hb7 HF6 HU6
  go_wp2_with fail
  refine (xy_any _).mono ?_
  rintro e w8 ⟨rfl, hb8⟩
  have HF8 := hid (HF7.out.below hb8)
  have HB8 := hid (show Below w.heap.size w w8 from HB7.out.trans (hb8.mono HB7.out.size))
  clear hb8 HF7
  go_wp2_with fail
  refine (polyValue_any 7 2 1 1 chk HT.out _ _ fB [3, 0] _ (HF8.out.below below_one) (Sl.new2 _ _ _ _)).mono ?_
  rintro e w9 ⟨rfl, hb9⟩
  rw [T.out.2.2.2.1, T.out.2.2.2.2.1]
  have HF9 := hid ((HF8.out.below below_one).below hb9)
  have HB9 := hid (show Below w.heap.size w w9 from HB8.out.trans ((below_one.trans (hb9.mono (by simp))).mono HB8.out.size))
  clear hb9 HF8
  go_wp2_with fail
  refine (xy_any _).mono ?_
  rintro e w10 ⟨rfl, hb10⟩
  have HF10 := hid (HF9.out.below hb10)
  have HB10 := hid (show Below w.heap.size w w10 from HB9.out.trans (hb10.mono HB9.out.size))
  clear hb10 HF9
  go_wp2_with fail
  refine (polyCheck_any 7 2 1 1 chk HT.out _ fB _ HF10.out).mono ?_
  rintro e w11 ⟨rfl, hb11⟩
  rw [T.out.2.2.2.2.2]
  have HB11 := hid (show Below w.heap.size w w11 from HB10.out.trans (hb11.mono HB10.out.size))
  clear hb11
  go_wp2
  go_ret
  exact ⟨rfl, HB11.out⟩
end Go.Proofs.YtilogbggilchaaaDoor
