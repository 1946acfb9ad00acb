/- DivideDivides in its ways. -/
import Derived.Test.YtkmjmmnnnbjghaaGreatND
namespace Go.Proofs.YtkmjmmnnnbjghaaGreat
set_option linter.unusedSimpArgs false
set_option linter.unusedVariables false
open Go.RowKit

set_option maxRecDepth 100000 in
set_option maxHeartbeats 4000000 in
theorem divideDivides_err (p n o v rank : Int) (x lv : Value) (u : List (List Tm)) (vss : List (List (List Tm))) (w : World) (hu : Vl w x u) (hl : Wl w lv vss) (he : errDiv p n o v rank u vss ≠ 0) :
    Calls Tryz.prog 3 #[ringV p n o v, .int .i64 rank, x, lv] w fun e w' => e = .returned (.bool true) ∧ Below w.heap.size w w' := by
  obtain ⟨w1, hw1⟩ : ∃ w1, w1 = w.alloc (.cells #[.int .i64 p, .int .i64 n, .int .i64 o, .int .i64 v] 23) := ⟨_, rfl⟩
  have HB1 : Hid (Below w.heap.size w w1) := by rw [hw1]; exact belowNew
  have HX1 : Hid (BoxAt w1 w.heap.size p n o v) := by rw [hw1]; exact BoxAt.new w p n o v _
  have hu1 := hu.below HB1.out
  have hl1 := hl.below HB1.out
  have HDV := hid (fun W (hb : Below w1.heap.size w1 W) => divide_err p n o v rank x lv u vss W (hu1.below hb) (hl1.below hb) he)
  have HNO := hid (fun W (hb : Below w1.heap.size w1 W) => normal_err p n o v rank x lv u vss W (hu1.below hb) (hl1.below hb) he)
  have HCK := hid (fun W (hb : Below w1.heap.size w1 W) => checkDivide_any p n o v rank x lv u vss W (hu1.below hb) (hl1.below hb))
  have HSV := hid (fun W => sameVector_any (.slice none 0 0) (.slice none 0 0) [] W (by simp) (fun f hf => by simp at hf) (vl_nil W) (vl_nil W))
  have HBG := hid (fun W => divideBegun_any W)
  obtain ⟨_, r0, r1, r2, r3⟩ := HX1.out
  generalize errDiv p n o v rank u vss = E at HDV HNO HCK he
  have hE : (E == 0) = false := by simpa using he
  obtain ⟨xa, xc, rfl, _⟩ := hu
  obtain ⟨la, lc, rfl, _⟩ := hl
  unfold ringV at HDV HNO HCK ⊢
  clear hu1 hl1
  go_enter Tryz.func3, Tryz.ntmps3
  go_upto_region 1 with fail
  rw [← hw1]
  clear hw1
  go_wp2_with (first
    | (go_at_call 5; refine (HDV.out _ (Below.refl _ _)).mono ?_; rintro e w2 ⟨rfl, hb2⟩; have HB2 := hid hb2; have s0 := cell_keep r0 hb2; have s1 := cell_keep r1 hb2; have s2 := cell_keep r2 hb2; have s3 := cell_keep r3 hb2; clear hb2)
    | (go_at_call 6; refine (HNO.out _ HB2.out).mono ?_; rintro e w3 ⟨rfl, hb3⟩; have HB3 := hid (HB2.out.trans (hb3.mono HB2.out.size)); have q0 := cell_keep s0 hb3; have q1 := cell_keep s1 hb3; have q2 := cell_keep s2 hb3; have q3 := cell_keep s3 hb3; clear hb3)
    | (go_at_call 7; refine (HCK.out _ HB3.out).mono ?_; rintro e w4 ⟨rfl, hb4⟩; have HB4 := hid (HB3.out.trans (hb4.mono HB3.out.size)); clear hb4)
    | (go_at_call 11; refine (HBG.out _).mono ?_; rintro e w5 ⟨rfl, hb5⟩; have HBC := hid (HB4.out.trans (hb5.mono HB4.out.size)); clear hb5)
    | (go_at_call 12; refine (HSV.out _).mono ?_; rintro e w6 ⟨rfl, hb6⟩; have HBC := hid (HBC.out.trans (hb6.mono HBC.out.size)); clear hb6))
  go_ret
  exact ⟨rfl, HB1.out.trans (HBC.out.mono HB1.out.size)⟩

set_option maxRecDepth 100000 in
set_option maxHeartbeats 4000000 in
theorem divideDivides_ok1 (p o v rank : Int) (N R : Nat) (x lv : Value) (u : List (List Tm)) (vss : List (List (List Tm))) (f : DS) (w w1 : World) (hu : Vl w x u) (hl : Wl w lv vss) (he : errDiv p N o v rank u vss = 0) (hw1 : w1 = w.alloc (.cells #[.int .i64 p, .int .i64 N, .int .i64 o, .int .i64 v] 23)) (hf : FinD p o v rank N R x lv u vss w1 f) (hg : f.q.any greatB = false ∧ f.l.any greatB = false) :
    Calls Tryz.prog 3 #[ringV p N o v, .int .i64 rank, x, lv] w fun e w' => e = .returned (.bool true) ∧ Below w.heap.size w w' := by
  have HB1 : Hid (Below w.heap.size w w1) := by rw [hw1]; exact belowNew
  have HX1 : Hid (BoxAt w1 w.heap.size p N o v) := by rw [hw1]; exact BoxAt.new w p N o v _
  have hu1 := hu.below HB1.out
  have hl1 := hl.below HB1.out
  have HDV := hid (hf.small hg.1 hg.2)
  have HRF := hid hf.ref
  have HNR := hid hf.nrm
  have HOK := hid hf.ok
  have HQL := hid hf.ql
  have HLL := hid hf.ll
  have HNO := hid (fun W (hb : Below w1.heap.size w1 W) => normal_ok p o v rank N x lv u vss W (hu1.below hb) (hl1.below hb) he)
  have HCK : Hid (∀ W, Below w1.heap.size w1 W → Calls Tryz.prog 7 #[ringV p N o v, .int .i64 rank, x, lv] W fun e w' => e = .returned (.int .i64 0) ∧ Below W.heap.size W w') := fun W hb => by
    have h := checkDivide_any p N o v rank x lv u vss W (hu1.below hb) (hl1.below hb)
    rw [he] at h; exact h
  have HBG := hid (fun W => divideBegun_any W)
  have HSN := hid (fun W => sameVector_any (.slice none 0 0) (.slice none 0 0) [] W (by simp) (fun f hf => by simp at hf) (vl_nil W) (vl_nil W))
  obtain ⟨_, r0, r1, r2, r3⟩ := HX1.out
  generalize nrmB o v vss u = nb at HNO HNR
  obtain ⟨xa, xc, rfl, _⟩ := hu
  obtain ⟨la, lc, rfl, _⟩ := hl
  unfold ringV at HDV HRF HNR HNO HCK ⊢
  clear hu1 hl1 hf he
  have HG := hid hg
  clear hg
  go_enter Tryz.func3, Tryz.ntmps3
  go_upto_region 1 with fail
  rw [← hw1]
  clear hw1
  go_upto_region 10 with (first
    | (go_at_call 5; refine (HDV.out _ (Below.refl _ _)).mono ?_; rintro e w2 ⟨qa, qc, ya, yc, rfl, hq2, hx2, hb2⟩; have HQ2 := hid hq2; have HX2 := hid hx2; have HB2 := hid hb2; have s0 := cell_keep r0 hb2; have s1 := cell_keep r1 hb2; have s2 := cell_keep r2 hb2; have s3 := cell_keep r3 hb2; clear hq2 hx2 hb2)
    | (go_at_call 6; refine (HNO.out _ HB2.out).mono ?_; rintro e w3 ⟨rfl, hb3⟩; have HB23 := hid hb3; have HB3 := hid (HB2.out.trans (hb3.mono HB2.out.size)); have q0 := cell_keep s0 hb3; have q1 := cell_keep s1 hb3; have q2 := cell_keep s2 hb3; have q3 := cell_keep s3 hb3; clear hb3)
    | (go_at_call 7; refine (HCK.out _ HB3.out).mono ?_; rintro e w4 ⟨rfl, hb4⟩; have HB34 := hid hb4; have HB4 := hid (HB3.out.trans (hb4.mono HB3.out.size)); have t0 := cell_keep q0 hb4; have t1 := cell_keep q1 hb4; have t2 := cell_keep q2 hb4; have t3 := cell_keep q3 hb4; clear hb4)
    | (go_at_call 8; refine (HRF.out _ HB4.out).mono ?_; rintro e w5 ⟨qa2, qc2, xa2, xc2, rfl, hq5, hx5, hb5⟩; have HQ5 := hid hq5; have HX5 := hid hx5; have HB45 := hid hb5; have HB5 := hid (HB4.out.trans (hb5.mono HB4.out.size)); have m0 := cell_keep t0 hb5; have m1 := cell_keep t1 hb5; have m2 := cell_keep t2 hb5; have m3 := cell_keep t3 hb5; clear hq5 hx5 hb5)
    | (go_at_call 9; refine (HNR.out _ HB5.out).mono ?_; rintro e w6 ⟨rfl, hb6⟩; have HB56 := hid hb6; have HB6 := hid (HB5.out.trans (hb6.mono HB5.out.size)); clear hb6))
  have HQ6 := hid (HQ5.out.below HB56.out)
  have HX6 := hid (HX5.out.below HB56.out)
  have HVQ := hid (vgreat_any (.slice qa2 f.q.length qc2) f.q w6 HQL.out HOK.out.1 HQ6.out)
  have HVL := hid (vgreat_any (.slice xa2 f.l.length xc2) f.l w6 HLL.out HOK.out.2 HX6.out)
  rw [HG.out.1] at HVQ
  rw [HG.out.2] at HVL
  have HB26 : Hid (Below w2.heap.size w2 w6) := HB23.out.trans ((HB34.out.trans ((HB45.out.trans (HB56.out.mono HB45.out.size)).mono HB34.out.size)).mono HB23.out.size)
  have HSQ := hid (fun W (hb : Below w6.heap.size w6 W) => sameVector_any (.slice qa f.q.length qc) (.slice qa2 f.q.length qc2) f.q W HQL.out HOK.out.1 ((HQ2.out.below HB26.out).below hb) (HQ6.out.below hb))
  have HSX := hid (fun W (hb : Below w6.heap.size w6 W) => sameVector_any (.slice ya f.l.length yc) (.slice xa2 f.l.length xc2) f.l W HLL.out HOK.out.2 ((HX2.out.below HB26.out).below hb) (HX6.out.below hb))

  go_wp2_with (first
    | (go_at_call 10; with_reducible refine HVQ.out.mono ?_; rintro e w7 ⟨rfl, rfl⟩)
    | (go_at_call 10; with_reducible refine HVL.out.mono ?_; rintro e w7 ⟨rfl, rfl⟩)
    | (go_at_call 11; refine (HBG.out _).mono ?_; rintro e w8 ⟨rfl, hb8⟩; have HB8 := hid hb8; clear hb8)
    | (go_at_call 12; with_reducible refine (HSQ.out _ HB8.out).mono ?_; rintro e w9 ⟨rfl, hb9⟩; have HB8 := hid (HB8.out.trans (hb9.mono HB8.out.size)); clear hb9)
    | (go_at_call 12; with_reducible refine (HSX.out _ HB8.out).mono ?_; rintro e w10 ⟨rfl, hb10⟩; have HB8 := hid (HB8.out.trans (hb10.mono HB8.out.size)); clear hb10))
  go_ret
  exact ⟨rfl, HB1.out.trans ((HB6.out.trans (HB8.out.mono HB6.out.size)).mono HB1.out.size)⟩

set_option maxRecDepth 100000 in
set_option maxHeartbeats 4000000 in
theorem divideDivides_ok2 (p o v rank : Int) (N R : Nat) (x lv : Value) (u : List (List Tm)) (vss : List (List (List Tm))) (f : DS) (w w1 : World) (hu : Vl w x u) (hl : Wl w lv vss) (he : errDiv p N o v rank u vss = 0) (hw1 : w1 = w.alloc (.cells #[.int .i64 p, .int .i64 N, .int .i64 o, .int .i64 v] 23)) (hf : FinD p o v rank N R x lv u vss w1 f) (hg : f.q.any greatB = true) :
    Calls Tryz.prog 3 #[ringV p N o v, .int .i64 rank, x, lv] w fun e w' => e = .returned (.bool true) ∧ Below w.heap.size w w' := by
  have HB1 : Hid (Below w.heap.size w w1) := by rw [hw1]; exact belowNew
  have HX1 : Hid (BoxAt w1 w.heap.size p N o v) := by rw [hw1]; exact BoxAt.new w p N o v _
  have hu1 := hu.below HB1.out
  have hl1 := hl.below HB1.out
  have HDV := hid (hf.great (by rw [hg]; rfl))
  have HRF := hid hf.ref
  have HNR := hid hf.nrm
  have HOK := hid hf.ok
  have HQL := hid hf.ql
  have HLL := hid hf.ll
  have HNO := hid (fun W (hb : Below w1.heap.size w1 W) => normal_ok p o v rank N x lv u vss W (hu1.below hb) (hl1.below hb) he)
  have HCK : Hid (∀ W, Below w1.heap.size w1 W → Calls Tryz.prog 7 #[ringV p N o v, .int .i64 rank, x, lv] W fun e w' => e = .returned (.int .i64 0) ∧ Below W.heap.size W w') := fun W hb => by
    have h := checkDivide_any p N o v rank x lv u vss W (hu1.below hb) (hl1.below hb)
    rw [he] at h; exact h
  have HBG := hid (fun W => divideBegun_any W)
  have HSN := hid (fun W => sameVector_any (.slice none 0 0) (.slice none 0 0) [] W (by simp) (fun f hf => by simp at hf) (vl_nil W) (vl_nil W))
  obtain ⟨_, r0, r1, r2, r3⟩ := HX1.out
  generalize nrmB o v vss u = nb at HNO HNR
  obtain ⟨xa, xc, rfl, _⟩ := hu
  obtain ⟨la, lc, rfl, _⟩ := hl
  unfold ringV at HDV HRF HNR HNO HCK ⊢
  clear hu1 hl1 hf he
  have HG := hid hg
  clear hg
  go_enter Tryz.func3, Tryz.ntmps3
  go_upto_region 1 with fail
  rw [← hw1]
  clear hw1
  go_upto_region 10 with (first
    | (go_at_call 5; refine (HDV.out _ (Below.refl _ _)).mono ?_; rintro e w2 ⟨rfl, hb2⟩; have HB2 := hid hb2; have s0 := cell_keep r0 hb2; have s1 := cell_keep r1 hb2; have s2 := cell_keep r2 hb2; have s3 := cell_keep r3 hb2; clear hb2)
    | (go_at_call 6; refine (HNO.out _ HB2.out).mono ?_; rintro e w3 ⟨rfl, hb3⟩; have HB23 := hid hb3; have HB3 := hid (HB2.out.trans (hb3.mono HB2.out.size)); have q0 := cell_keep s0 hb3; have q1 := cell_keep s1 hb3; have q2 := cell_keep s2 hb3; have q3 := cell_keep s3 hb3; clear hb3)
    | (go_at_call 7; refine (HCK.out _ HB3.out).mono ?_; rintro e w4 ⟨rfl, hb4⟩; have HB34 := hid hb4; have HB4 := hid (HB3.out.trans (hb4.mono HB3.out.size)); have t0 := cell_keep q0 hb4; have t1 := cell_keep q1 hb4; have t2 := cell_keep q2 hb4; have t3 := cell_keep q3 hb4; clear hb4)
    | (go_at_call 8; refine (HRF.out _ HB4.out).mono ?_; rintro e w5 ⟨qa2, qc2, xa2, xc2, rfl, hq5, hx5, hb5⟩; have HQ5 := hid hq5; have HX5 := hid hx5; have HB45 := hid hb5; have HB5 := hid (HB4.out.trans (hb5.mono HB4.out.size)); have m0 := cell_keep t0 hb5; have m1 := cell_keep t1 hb5; have m2 := cell_keep t2 hb5; have m3 := cell_keep t3 hb5; clear hq5 hx5 hb5)
    | (go_at_call 9; refine (HNR.out _ HB5.out).mono ?_; rintro e w6 ⟨rfl, hb6⟩; have HB56 := hid hb6; have HB6 := hid (HB5.out.trans (hb6.mono HB5.out.size)); clear hb6))
  have HQ6 := hid (HQ5.out.below HB56.out)
  have HX6 := hid (HX5.out.below HB56.out)
  have HVQ := hid (vgreat_any (.slice qa2 f.q.length qc2) f.q w6 HQL.out HOK.out.1 HQ6.out)
  have HVL := hid (vgreat_any (.slice xa2 f.l.length xc2) f.l w6 HLL.out HOK.out.2 HX6.out)
  rw [HG.out] at HVQ

  go_wp2_with (first
    | (go_at_call 10; with_reducible refine HVQ.out.mono ?_; rintro e w7 ⟨rfl, rfl⟩)
    | (go_at_call 10; with_reducible refine HVL.out.mono ?_; rintro e w7 ⟨rfl, rfl⟩)
    | (go_at_call 11; refine (HBG.out _).mono ?_; rintro e w8 ⟨rfl, hb8⟩; have HB8 := hid hb8; clear hb8)
    | (go_at_call 12; refine (HSN.out _).mono ?_; rintro e w9 ⟨rfl, hb9⟩; have HB8 := hid (HB8.out.trans (hb9.mono HB8.out.size)); clear hb9))
  go_ret
  exact ⟨rfl, HB1.out.trans ((HB6.out.trans (HB8.out.mono HB6.out.size)).mono HB1.out.size)⟩

set_option maxRecDepth 100000 in
set_option maxHeartbeats 4000000 in
theorem divideDivides_ok3 (p o v rank : Int) (N R : Nat) (x lv : Value) (u : List (List Tm)) (vss : List (List (List Tm))) (f : DS) (w w1 : World) (hu : Vl w x u) (hl : Wl w lv vss) (he : errDiv p N o v rank u vss = 0) (hw1 : w1 = w.alloc (.cells #[.int .i64 p, .int .i64 N, .int .i64 o, .int .i64 v] 23)) (hf : FinD p o v rank N R x lv u vss w1 f) (hg : f.q.any greatB = false ∧ f.l.any greatB = true) :
    Calls Tryz.prog 3 #[ringV p N o v, .int .i64 rank, x, lv] w fun e w' => e = .returned (.bool true) ∧ Below w.heap.size w w' := by
  have HB1 : Hid (Below w.heap.size w w1) := by rw [hw1]; exact belowNew
  have HX1 : Hid (BoxAt w1 w.heap.size p N o v) := by rw [hw1]; exact BoxAt.new w p N o v _
  have hu1 := hu.below HB1.out
  have hl1 := hl.below HB1.out
  have HDV := hid (hf.great (by rw [hg.1, hg.2]; rfl))
  have HRF := hid hf.ref
  have HNR := hid hf.nrm
  have HOK := hid hf.ok
  have HQL := hid hf.ql
  have HLL := hid hf.ll
  have HNO := hid (fun W (hb : Below w1.heap.size w1 W) => normal_ok p o v rank N x lv u vss W (hu1.below hb) (hl1.below hb) he)
  have HCK : Hid (∀ W, Below w1.heap.size w1 W → Calls Tryz.prog 7 #[ringV p N o v, .int .i64 rank, x, lv] W fun e w' => e = .returned (.int .i64 0) ∧ Below W.heap.size W w') := fun W hb => by
    have h := checkDivide_any p N o v rank x lv u vss W (hu1.below hb) (hl1.below hb)
    rw [he] at h; exact h
  have HBG := hid (fun W => divideBegun_any W)
  have HSN := hid (fun W => sameVector_any (.slice none 0 0) (.slice none 0 0) [] W (by simp) (fun f hf => by simp at hf) (vl_nil W) (vl_nil W))
  obtain ⟨_, r0, r1, r2, r3⟩ := HX1.out
  generalize nrmB o v vss u = nb at HNO HNR
  obtain ⟨xa, xc, rfl, _⟩ := hu
  obtain ⟨la, lc, rfl, _⟩ := hl
  unfold ringV at HDV HRF HNR HNO HCK ⊢
  clear hu1 hl1 hf he
  have HG := hid hg
  clear hg
  go_enter Tryz.func3, Tryz.ntmps3
  go_upto_region 1 with fail
  rw [← hw1]
  clear hw1
  go_upto_region 10 with (first
    | (go_at_call 5; refine (HDV.out _ (Below.refl _ _)).mono ?_; rintro e w2 ⟨rfl, hb2⟩; have HB2 := hid hb2; have s0 := cell_keep r0 hb2; have s1 := cell_keep r1 hb2; have s2 := cell_keep r2 hb2; have s3 := cell_keep r3 hb2; clear hb2)
    | (go_at_call 6; refine (HNO.out _ HB2.out).mono ?_; rintro e w3 ⟨rfl, hb3⟩; have HB23 := hid hb3; have HB3 := hid (HB2.out.trans (hb3.mono HB2.out.size)); have q0 := cell_keep s0 hb3; have q1 := cell_keep s1 hb3; have q2 := cell_keep s2 hb3; have q3 := cell_keep s3 hb3; clear hb3)
    | (go_at_call 7; refine (HCK.out _ HB3.out).mono ?_; rintro e w4 ⟨rfl, hb4⟩; have HB34 := hid hb4; have HB4 := hid (HB3.out.trans (hb4.mono HB3.out.size)); have t0 := cell_keep q0 hb4; have t1 := cell_keep q1 hb4; have t2 := cell_keep q2 hb4; have t3 := cell_keep q3 hb4; clear hb4)
    | (go_at_call 8; refine (HRF.out _ HB4.out).mono ?_; rintro e w5 ⟨qa2, qc2, xa2, xc2, rfl, hq5, hx5, hb5⟩; have HQ5 := hid hq5; have HX5 := hid hx5; have HB45 := hid hb5; have HB5 := hid (HB4.out.trans (hb5.mono HB4.out.size)); have m0 := cell_keep t0 hb5; have m1 := cell_keep t1 hb5; have m2 := cell_keep t2 hb5; have m3 := cell_keep t3 hb5; clear hq5 hx5 hb5)
    | (go_at_call 9; refine (HNR.out _ HB5.out).mono ?_; rintro e w6 ⟨rfl, hb6⟩; have HB56 := hid hb6; have HB6 := hid (HB5.out.trans (hb6.mono HB5.out.size)); clear hb6))
  have HQ6 := hid (HQ5.out.below HB56.out)
  have HX6 := hid (HX5.out.below HB56.out)
  have HVQ := hid (vgreat_any (.slice qa2 f.q.length qc2) f.q w6 HQL.out HOK.out.1 HQ6.out)
  have HVL := hid (vgreat_any (.slice xa2 f.l.length xc2) f.l w6 HLL.out HOK.out.2 HX6.out)
  rw [HG.out.1] at HVQ
  rw [HG.out.2] at HVL

  go_wp2_with (first
    | (go_at_call 10; with_reducible refine HVQ.out.mono ?_; rintro e w7 ⟨rfl, rfl⟩)
    | (go_at_call 10; with_reducible refine HVL.out.mono ?_; rintro e w7 ⟨rfl, rfl⟩)
    | (go_at_call 11; refine (HBG.out _).mono ?_; rintro e w8 ⟨rfl, hb8⟩; have HB8 := hid hb8; clear hb8)
    | (go_at_call 12; refine (HSN.out _).mono ?_; rintro e w9 ⟨rfl, hb9⟩; have HB8 := hid (HB8.out.trans (hb9.mono HB8.out.size)); clear hb9))
  go_ret
  exact ⟨rfl, HB1.out.trans ((HB6.out.trans (HB8.out.mono HB6.out.size)).mono HB1.out.size)⟩

theorem divideDivides_any (p n o v rank : Int) (x lv : Value) (u : List (List Tm)) (vss : List (List (List Tm))) (w : World) (hu : Vl w x u) (hl : Wl w lv vss) :
    Calls Tryz.prog 3 #[ringV p n o v, .int .i64 rank, x, lv] w fun e w' => e = .returned (.bool true) ∧ Below w.heap.size w w' := by
  by_cases he : errDiv p n o v rank u vss = 0
  · have hn : 0 < n := by
      have h1 : errVecs p n o v rank vss = 0 := by
        unfold errDiv at he
        by_cases h : errVecs p n o v rank vss = 0
        · exact h
        · rw [if_pos h] at he; exact absurd he h
      have hR : errR p n o v = 0 := by
        unfold errVecs at h1
        by_cases h : errR p n o v = 0
        · exact h
        · rw [if_pos h] at h1; exact absurd h1 h
      have := (ring_ok hR).2.1
      omega
    obtain ⟨N, rfl⟩ : ∃ N : Nat, n = N := ⟨n.toNat, by omega⟩
    obtain ⟨w1, hw1⟩ : ∃ w1, w1 = w.alloc (.cells #[.int .i64 p, .int .i64 N, .int .i64 o, .int .i64 v] 23) := ⟨_, rfl⟩
    have hb : Below w.heap.size w w1 := by rw [hw1]; exact belowNew
    obtain ⟨R, f, hf⟩ := fin_of (hu.below hb) (hl.below hb) he
    cases h1 : f.q.any greatB with
    | true => exact divideDivides_ok2 p o v rank N R x lv u vss f w w1 hu hl he hw1 hf h1
    | false =>
      cases h2 : f.l.any greatB with
      | true => exact divideDivides_ok3 p o v rank N R x lv u vss f w w1 hu hl he hw1 hf ⟨h1, h2⟩
      | false => exact divideDivides_ok1 p o v rank N R x lv u vss f w w1 hu hl he hw1 hf ⟨h1, h2⟩
  · exact divideDivides_err p n o v rank x lv u vss w hu hl he

end Go.Proofs.YtkmjmmnnnbjghaaGreat
