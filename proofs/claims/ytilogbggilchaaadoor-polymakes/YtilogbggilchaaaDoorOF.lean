/- PolyMakes, walked. -/
import Derived.Test.YtilogbggilchaaaDoorOB
import Derived.Test.YtilogbggilchaaaDoorOE
import Derived.Test.YtilogbggilchaaaDoorPO
namespace Go.Proofs.YtilogbggilchaaaDoor
set_option linter.unusedSimpArgs false
set_option linter.unusedVariables false
open Go.RowKit
set_option maxRecDepth 100000 in
set_option maxHeartbeats 1000000 in
theorem polyPrint_all (p n o v : Int) (chk : List (List Tm) → Int) (HC : Tells p n o v chk) (hJ : JoK) (x : Value) (fs : List Tm) (w : World) (hI : ItoK (fun i => i ≤ 1000) w) (pf : Pl w x fs) :
    Calls Tryd.prog 16 #[ringV p n o v, x] w fun e w' => e = .returned (.tuple #[mkS (priR (chk [fs]) fs), .int .i64 (chk [fs])]) ∧ Below w.heap.size w w' := by
  by_cases hE : chk [fs] = 0
  · obtain ⟨hr, hall⟩ := HC.2.1 [fs] (by simp) hE
    obtain ⟨rf, _, _, _, hp, _⟩ := right_of hr (hall fs (by simp))
    exact polyPrint_any (fun i => i ≤ 1000) p n o v chk HC hJ x fs w hI (fun t ht => ⟨by have := rf.canon.coef t ht; show _ ≤ _; omega, fun e he => by have := rf.bd t ht e he; show _ ≤ _; omega⟩) pf
  · have HP := hid pf
    have HT := hid HC
    have hE1 : (chk [fs] != 0) = true := by simpa using hE
    have hpr : priR (chk [fs]) fs = [] := by unfold priR; rw [if_pos hE]
    rw [hpr]
    obtain ⟨a, c, rfl, _, _⟩ := pf
    have HB2 : Hid (∀ A B, Below w.heap.size w ((w.alloc A).alloc B)) := fun A B => below_two
    clear hpr hE HC hI hJ
    go_enter Tryd.func16, Tryd.ntmps16
    go_wp2_with fail
    refine (HT.out.1 [fs] _ _ (by simp) (pls1 (HP.out.below (HB2.out _ _)) (by simp) (by simp [go_sem]))).mono ?_
    rintro e w1 ⟨rfl, hb1⟩
    have HB1 := hid ((HB2.out _ _).trans (hb1.mono (HB2.out _ _).size))
    clear hb1
    go_wp2
    go_ret2
    exact ⟨rfl, HB1.out⟩

structure OpsM (w w' : World) (lv x a u1 : Value) (l f : List Tm) (xs : List Int) (p n o v : Int) : Prop where
  below : Below w.heap.size w w'
  box : BoxAt w' w.heap.size p n o v
  pl : Pl w' lv l
  pf : Pl w' x f
  sa : Sl w' a xs
  s1 : Pl w' u1 (ofR p n o v l)
theorem OpsM.next {w w' w2 : World} {lv x a u1 : Value} {l f : List Tm} {xs : List Int} {p n o v : Int} (h : OpsM w w' lv x a u1 l f xs p n o v) (hb : Below w'.heap.size w' w2) : OpsM w w2 lv x a u1 l f xs p n o v :=
  ⟨h.below.trans (hb.mono h.below.size), h.box.below hb, h.pl.below hb, h.pf.below hb, h.sa.below hb, h.s1.below hb⟩
abbrev HeldM (w w' : World) (lv x a u1 : Value) (l f : List Tm) (xs : List Int) (p n o v : Int) : Prop :=
  w'.cell? ⟨w.heap.size, 0, none⟩ = some (.int .i64 p) ∧ w'.cell? ⟨w.heap.size, 1, none⟩ = some (.int .i64 n) ∧ w'.cell? ⟨w.heap.size, 2, none⟩ = some (.int .i64 o) ∧ w'.cell? ⟨w.heap.size, 3, none⟩ = some (.int .i64 v) ∧ Hid (OpsM w w' lv x a u1 l f xs p n o v)
theorem OpsM.held {w w' : World} {lv x a u1 : Value} {l f : List Tm} {xs : List Int} {p n o v : Int} (h : OpsM w w' lv x a u1 l f xs p n o v) : HeldM w w' lv x a u1 l f xs p n o v :=
  ⟨h.box.2.1, h.box.2.2.1, h.box.2.2.2.1, h.box.2.2.2.2, h⟩
theorem HeldM.ops {w w' : World} {lv x a u1 : Value} {l f : List Tm} {xs : List Int} {p n o v : Int} (h : HeldM w w' lv x a u1 l f xs p n o v) : OpsM w w' lv x a u1 l f xs p n o v := h.2.2.2.2
theorem HeldM.next {w w' w2 : World} {lv x a u1 : Value} {l f : List Tm} {xs : List Int} {p n o v : Int} (h : HeldM w w' lv x a u1 l f xs p n o v) (hb : Below w'.heap.size w' w2) : HeldM w w2 lv x a u1 l f xs p n o v :=
  (h.ops.next hb).held
structure Want (p n o v : Int) (l X : List Tm) : Prop where
  e : isE (errOf p n o v l) X = errOf p n o v l
  r : isR (errOf p n o v l) X = ofR p n o v l
  ok : errOf p n o v l = 0 → Okw X
theorem want_bad {p n o v : Int} {l : List Tm} (h : errOf p n o v l ≠ 0) : Want p n o v l [] := by
  have e1 : isE (errOf p n o v l) [] = errOf p n o v l := by unfold isE; rw [if_pos h]
  exact ⟨e1, by unfold isR ofR; rw [e1, if_neg h, if_neg h], fun h2 => absurd h2 h⟩
theorem want_ok {p n o v : Int} {l : List Tm} (h : errOf p n o v l = 0) : Want p n o v l (colL p o l) := by
  have e1 : isE (errOf p n o v l) (colL p o l) = errOf p n o v l := by unfold isE; rw [if_neg (by simpa using h), if_neg (by rw [of_great h]; simp), h]
  obtain ⟨h1, _, h3, h4, h5, _⟩ := of_right h
  exact ⟨e1, by unfold isR ofR; rw [e1], fun _ => okw_col h4 h5 (by omega) h1⟩

set_option maxRecDepth 100000 in
set_option maxHeartbeats 4000000 in
theorem polyMakes_a (p n o v : Int) (hJ : JoK) (lv x a : Value) (l f : List Tm) (xs : List Int) (w : World) (hI : ∀ w, ItoK (fun i => i < 100) w) (hI2 : ItoK (fun i => i ≤ 1000) w) (ql : Pl w lv l) (pf : Pl w x f) (sa : Sl w a xs)
    (hbad : errPolys p n o v [f] ≠ 0) :
    Calls Tryd.prog 4 #[ringV p n o v, lv, x, a] w fun e w' => e = .returned (.bool true) ∧ Below w.heap.size w w' := by
  have HL := hid ql
  have HP := hid pf
  have HS := hid sa
  have HJ := hid hJ
  have HI := hid hI
  have HI2 := hid hI2
  have HT := hid (tells p n o v)
  have HT7 := hid (tells 7 2 1 1)
  have hC1 := cur_eq (p := p) (n := n) (o := o) (v := v) (fss := [f]) (by simp)
  have hE : (errPolys p n o v [f] == 0) = false := by simpa using hbad
  have HEP : Hid (errPolys p n o v [f] = errPolys p n o v [f]) := rfl
  have HCE := hid hC1
  have HVE : Hid (valE (cur p n o v [f]) n p xs = errPolys p n o v [f]) := by show _ = _; unfold valE; rw [hC1, if_pos hbad]
  have HVR : Hid (valR (cur p n o v [f]) n p xs f = 0) := by show _ = _; unfold valR; rw [HVE.out, if_neg hbad]
  have HPR : Hid (priR (cur p n o v [f]) f = []) := by show _ = _; unfold priR; rw [hC1, if_pos hbad]
  clear hbad
  obtain ⟨al, kl, rfl, _, _⟩ := ql
  obtain ⟨af, kf, rfl, _, _⟩ := pf
  obtain ⟨aa, ka, rfl, _⟩ := sa
  clear hJ hI hI2 hC1
  go_enter Tryd.func4, Tryd.ntmps4
  go_wp2_with fail
  refine (polyOf_any p n o v _ l _ (HL.out.below below_one)).mono ?_
  rintro e w1 ⟨u1, rfl, hu1, hb1⟩
  have hbb1 := show Below w.heap.size w w1 from below_one.trans (hb1.mono (by simp))
  have OPS := hid (OpsM.mk hbb1 ((BoxAt.new w p n o v 23).below hb1) (HL.out.below hbb1) (HP.out.below hbb1) (HS.out.below hbb1) hu1)
  obtain ⟨ua1, uc1, rfl, _, _⟩ := hu1
  clear hb1 hbb1
  obtain ⟨c, c0, c1, c2, c3⟩ := OPS.out.box
  go_wp2_with fail
  refine (polyValue_any p n o v _ HT.out _ _ f xs _ OPS.out.pf OPS.out.sa).mono ?_
  rw [HVE.out, HVR.out]
  rintro e w2 ⟨rfl, hb2⟩
  have OPS := hid (OPS.out.next hb2)
  clear hb2 c c0 c1 c2 c3
  obtain ⟨c, c0, c1, c2, c3⟩ := OPS.out.box
  go_wp2_with fail
  refine (polyPrint_all p n o v _ HT.out HJ.out _ f _ (fun i W hq hb => HI2.out i W hq (OPS.out.below.trans (hb.mono OPS.out.below.size))) OPS.out.pf).mono ?_
  rw [HPR.out, HCE.out]
  unfold mkS
  rintro e w3 ⟨rfl, hb3⟩
  have OPS := hid (OPS.out.next hb3)
  clear hb3 c c0 c1 c2 c3
  obtain ⟨c, c0, c1, c2, c3⟩ := OPS.out.box
  go_upto_region 4 with fail
  go_cut [15, 16] (fun s15 s16 wc => s15 = .int .i64 (errOf p n o v l) ∧ s16 = .int .i64 (errPolys p n o v [f]) ∧ OpsM w wc (.slice al l.length kl) (.slice af f.length kf) (.slice aa xs.length ka) (.slice ua1 (ofR p n o v l).length uc1) l f xs p n o v)
  case first =>
    go_region_held (fun W => HeldM w W (.slice al l.length kl) (.slice af f.length kf) (.slice aa xs.length ka) (.slice ua1 (ofR p n o v l).length uc1) l f xs p n o v)
      (first | exact HeldM.next (by assumption) hbn | exact HeldM.next (by assumption) below_one | exact (OPS.out.next (Below.refl _ _).drew).held)
      (first
        | (go_at_call 17; refine (checkTermsR_any p n o v _ l _ ?_).mono ?_; exact (HeldM.ops (by assumption)).pl; rintro e w9 ⟨rfl, hbn⟩)
        | (go_at_call 8; refine (checkPolys_any p n o v _ [f] _ (by simp) ?_).mono ?_; exact pls1 (x := Value.slice af f.length kf) (HeldM.ops (by assumption)).pf (by first | (simp; done) | (have := hbn.size; simp at this; omega)) (by first | (simp [go_sem]; done) | (rw [hbn.cell (by simp)]; simp [go_sem])); rintro e w9 ⟨rfl, hbn⟩))
    all_goals
      have HF := hid (HeldM.ops (by assumption) : OpsM w _ (.slice al l.length kl) (.slice af f.length kf) (.slice aa xs.length ka) (.slice ua1 (ofR p n o v l).length uc1) l f xs p n o v)
      go_wp2_with fail
      go_meet
      case rel => exact ⟨rfl, rfl, HF.out⟩
  case rest =>
  obtain ⟨rfl, rfl, hopx⟩ := hcut
  have OPX := hid hopx
  clear OPS c c0 c1 c2 c3 hopx
  obtain ⟨c, c0, c1, c2, c3⟩ := OPX.out.box
  go_upto_if 50 with fail
  go_cut [18] (fun s18 wc => OpsM w wc (.slice al l.length kl) (.slice af f.length kf) (.slice aa xs.length ka) (.slice ua1 (ofR p n o v l).length uc1) l f xs p n o v ∧ ∃ X, Pl wc s18 X ∧ Want p n o v l X)
  case first =>
    cases hz : (errOf p n o v l == 0)
    · have HZ := hid (show errOf p n o v l ≠ 0 by simpa using hz)
      go_wp2_with fail
      go_meet
      case rel => exact ⟨OPX.out, [], Pl.empty _, want_bad HZ.out⟩
    · have HZ := hid (show errOf p n o v l = 0 by simpa using hz)
      obtain ⟨ht1, _, ht3, ht4, ht5, ht6, ht7⟩ := of_right HZ.out
      have HTK := hid (And.intro ht1 (And.intro ht6 ht7))
      clear ht1 ht6 ht7
      go_wp2_with fail
      refine (collect_any p n o v n.toNat _ l _ HTK.out.2.1 HTK.out.2.2 ht4 ht5 HTK.out.1 (by omega) OPX.out.pl).mono ?_
      rintro e w5 ⟨u5, rfl, hu5, hb5⟩
      have HU5 := hid hu5
      have OP5 := hid (OPX.out.next hb5)
      obtain ⟨ua5, uc5, rfl, _, _⟩ := hu5
      clear hb5
      go_wp2_with fail
      go_meet
      case rel => exact ⟨OP5.out, _, HU5.out, want_ok HZ.out⟩
  case rest =>
  obtain ⟨hops, X, hX, hW⟩ := hcut
  have OPS := hid hops
  have HX := hid hX
  have HW := hid hW
  obtain ⟨ta1, tc1, rfl, _, _⟩ := hX
  clear c c0 c1 c2 c3 hops OPX hW
  obtain ⟨c, c0, c1, c2, c3⟩ := OPS.out.box
  go_wp2_with fail
  obtain ⟨wt, hwt⟩ : ∃ wt : World, OpsM w wt (.slice al l.length kl) (.slice af f.length kf) (.slice aa xs.length ka) (.slice ua1 (ofR p n o v l).length uc1) l f xs p n o v ∧ Pl wt (.slice ta1 X.length tc1) X := ⟨_, OPS.out, HX.out⟩
  go_loopw [17, 21] (fun u i wr => u = .int .i64 (errPolys p n o v [f]) ∧ i = .int .i64 0 ∧ OpsM w wr (.slice al l.length kl) (.slice af f.length kf) (.slice aa xs.length ka) (.slice ua1 (ofR p n o v l).length uc1) l f xs p n o v ∧ Pl wr (.slice ta1 X.length tc1) X) (fun _ _ _ => 0)
  case atStart => exact ⟨rfl, rfl, OPS.out, HX.out⟩
  case round =>
    obtain ⟨rfl, rfl, hops2, hX2⟩ := hrel
    have OP2 := hid hops2
    have HX2 := hid hX2
    clear hops2 hX2
    by_cases h0 : 0 < xs.length
    · go_wp2_with (first
        | (go_at_call 11; refine (polyBegun_any _ HT7.out HJ.out _ (HI.out _)).mono ?_; rintro e w9 ⟨rfl, hb9⟩; have OP9 := hid (OP2.out.next hb9); have HX9 := hid (HX2.out.below hb9); clear hb9)
        | (go_at_call 13; have hpi := polyIs_any _ _ X (errOf p n o v l) w9 HW.out.ok (by rw [HW.out.r]; exact OP9.out.s1) HX9.out; rw [HW.out.e] at hpi; refine hpi.mono ?_; rintro e w10 ⟨rfl, hb10⟩; have OP10 := hid (OP9.out.next hb10); clear hb10))
      go_ret
      exact ⟨rfl, OP10.out.below⟩
    · go_wp2_with (first
        | (go_at_call 11; refine (polyBegun_any _ HT7.out HJ.out _ (HI.out _)).mono ?_; rintro e w9 ⟨rfl, hb9⟩; have OP9 := hid (OP2.out.next hb9); have HX9 := hid (HX2.out.below hb9); clear hb9)
        | (go_at_call 13; have hpi := polyIs_any _ _ X (errOf p n o v l) w9 HW.out.ok (by rw [HW.out.r]; exact OP9.out.s1) HX9.out; rw [HW.out.e] at hpi; refine hpi.mono ?_; rintro e w10 ⟨rfl, hb10⟩; have OP10 := hid (OP9.out.next hb10); clear hb10))
      go_ret
      exact ⟨rfl, OP10.out.below⟩

set_option maxRecDepth 100000 in
set_option maxHeartbeats 4000000 in
theorem polyMakes_b (p n o v : Int) (hJ : JoK) (lv x a : Value) (l f : List Tm) (xs : List Int) (w : World) (hI : ∀ w, ItoK (fun i => i < 100) w) (hI2 : ItoK (fun i => i ≤ 1000) w) (ql : Pl w lv l) (pf : Pl w x f) (sa : Sl w a xs)
    (hE : errPolys p n o v [f] = 0) (hlen : (xs.length : Int) ≠ n) :
    Calls Tryd.prog 4 #[ringV p n o v, lv, x, a] w fun e w' => e = .returned (.bool true) ∧ Below w.heap.size w w' := by
  have HL := hid ql
  have HP := hid pf
  have HS := hid sa
  have HJ := hid hJ
  have HI := hid hI
  have HI2 := hid hI2
  have HT := hid (tells p n o v)
  have HT7 := hid (tells 7 2 1 1)
  have hC1 := cur_eq (p := p) (n := n) (o := o) (v := v) (fss := [f]) (by simp)
  have HEP := hid hE
  have hCE : cur p n o v [f] = 0 := by rw [hC1]; exact hE
  have HCE := hid hCE
  have HRT : Hid (Right p o n.toNat f ∧ 0 < n.toNat ∧ n.toNat ≤ 3 ∧ (2 ≤ p ∧ p ≤ 101) ∧ (o = 1 ∨ o = 2)) := by
    obtain ⟨hr, hall⟩ := errPolys_ok hE
    obtain ⟨rf, h1, h2, _, h3, h4⟩ := right_of hr (hall f (by simp))
    exact ⟨rf, h1, h2, h3, h4⟩
  have HPR : Hid (priR (cur p n o v [f]) f = priR 0 f) := by show _ = _; rw [hCE]
  have hln : ((xs.length : Int) != n) = true := by simpa using hlen
  have HVE : Hid (valE (cur p n o v [f]) n p xs = 1) := by show _ = _; unfold valE; rw [hCE, if_neg (by simp), if_pos hlen]
  have HVR : Hid (valR (cur p n o v [f]) n p xs f = 0) := by show _ = _; unfold valR; rw [HVE.out, if_neg (by omega)]
  clear hlen hCE hE
  obtain ⟨al, kl, rfl, _, _⟩ := ql
  obtain ⟨af, kf, rfl, _, _⟩ := pf
  obtain ⟨aa, ka, rfl, _⟩ := sa
  clear hJ hI hI2 hC1
  go_enter Tryd.func4, Tryd.ntmps4
  go_wp2_with fail
  refine (polyOf_any p n o v _ l _ (HL.out.below below_one)).mono ?_
  rintro e w1 ⟨u1, rfl, hu1, hb1⟩
  have hbb1 := show Below w.heap.size w w1 from below_one.trans (hb1.mono (by simp))
  have OPS := hid (OpsM.mk hbb1 ((BoxAt.new w p n o v 23).below hb1) (HL.out.below hbb1) (HP.out.below hbb1) (HS.out.below hbb1) hu1)
  obtain ⟨ua1, uc1, rfl, _, _⟩ := hu1
  clear hb1 hbb1
  obtain ⟨c, c0, c1, c2, c3⟩ := OPS.out.box
  go_wp2_with fail
  refine (polyValue_any p n o v _ HT.out _ _ f xs _ OPS.out.pf OPS.out.sa).mono ?_
  rw [HVE.out, HVR.out]
  rintro e w2 ⟨rfl, hb2⟩
  have OPS := hid (OPS.out.next hb2)
  clear hb2 c c0 c1 c2 c3
  obtain ⟨c, c0, c1, c2, c3⟩ := OPS.out.box
  go_wp2_with fail
  refine (polyPrint_all p n o v _ HT.out HJ.out _ f _ (fun i W hq hb => HI2.out i W hq (OPS.out.below.trans (hb.mono OPS.out.below.size))) OPS.out.pf).mono ?_
  rw [HPR.out, HCE.out]
  unfold mkS
  rintro e w3 ⟨rfl, hb3⟩
  have OPS := hid (OPS.out.next hb3)
  clear hb3 c c0 c1 c2 c3
  obtain ⟨c, c0, c1, c2, c3⟩ := OPS.out.box
  go_upto_region 4 with fail
  go_cut [15, 16] (fun s15 s16 wc => s15 = .int .i64 (errOf p n o v l) ∧ s16 = .int .i64 0 ∧ OpsM w wc (.slice al l.length kl) (.slice af f.length kf) (.slice aa xs.length ka) (.slice ua1 (ofR p n o v l).length uc1) l f xs p n o v)
  case first =>
    go_region_held (fun W => HeldM w W (.slice al l.length kl) (.slice af f.length kf) (.slice aa xs.length ka) (.slice ua1 (ofR p n o v l).length uc1) l f xs p n o v)
      (first | exact HeldM.next (by assumption) hbn | exact HeldM.next (by assumption) below_one | exact (OPS.out.next (Below.refl _ _).drew).held)
      (first
        | (go_at_call 17; refine (checkTermsR_any p n o v _ l _ ?_).mono ?_; exact (HeldM.ops (by assumption)).pl; rintro e w9 ⟨rfl, hbn⟩)
        | (go_at_call 8; refine (checkPolys_any p n o v _ [f] _ (by simp) ?_).mono ?_; exact pls1 (x := Value.slice af f.length kf) (HeldM.ops (by assumption)).pf (by first | (simp; done) | (have := hbn.size; simp at this; omega)) (by first | (simp [go_sem]; done) | (rw [hbn.cell (by simp)]; simp [go_sem])); rw [HEP.out]; rintro e w9 ⟨rfl, hbn⟩))
    all_goals
      have HF := hid (HeldM.ops (by assumption) : OpsM w _ (.slice al l.length kl) (.slice af f.length kf) (.slice aa xs.length ka) (.slice ua1 (ofR p n o v l).length uc1) l f xs p n o v)
      go_wp2_with fail
      go_meet
      case rel => exact ⟨rfl, rfl, HF.out⟩
  case rest =>
  obtain ⟨rfl, rfl, hopx⟩ := hcut
  have OPX := hid hopx
  clear OPS c c0 c1 c2 c3 hopx
  obtain ⟨c, c0, c1, c2, c3⟩ := OPX.out.box
  go_upto_if 50 with fail
  go_cut [18] (fun s18 wc => OpsM w wc (.slice al l.length kl) (.slice af f.length kf) (.slice aa xs.length ka) (.slice ua1 (ofR p n o v l).length uc1) l f xs p n o v ∧ ∃ X, Pl wc s18 X ∧ Want p n o v l X)
  case first =>
    cases hz : (errOf p n o v l == 0)
    · have HZ := hid (show errOf p n o v l ≠ 0 by simpa using hz)
      go_wp2_with fail
      go_meet
      case rel => exact ⟨OPX.out, [], Pl.empty _, want_bad HZ.out⟩
    · have HZ := hid (show errOf p n o v l = 0 by simpa using hz)
      obtain ⟨ht1, _, ht3, ht4, ht5, ht6, ht7⟩ := of_right HZ.out
      have HTK := hid (And.intro ht1 (And.intro ht6 ht7))
      clear ht1 ht6 ht7
      go_wp2_with fail
      refine (collect_any p n o v n.toNat _ l _ HTK.out.2.1 HTK.out.2.2 ht4 ht5 HTK.out.1 (by omega) OPX.out.pl).mono ?_
      rintro e w5 ⟨u5, rfl, hu5, hb5⟩
      have HU5 := hid hu5
      have OP5 := hid (OPX.out.next hb5)
      obtain ⟨ua5, uc5, rfl, _, _⟩ := hu5
      clear hb5
      go_wp2_with fail
      go_meet
      case rel => exact ⟨OP5.out, _, HU5.out, want_ok HZ.out⟩
  case rest =>
  obtain ⟨hops, X, hX, hW⟩ := hcut
  have OPS := hid hops
  have HX := hid hX
  have HW := hid hW
  obtain ⟨ta1, tc1, rfl, _, _⟩ := hX
  clear c c0 c1 c2 c3 hops OPX hW
  obtain ⟨c, c0, c1, c2, c3⟩ := OPS.out.box
  obtain ⟨hrr, hN0, hN3, hpp, hor⟩ := HRT.out
  have HRI := hid (And.intro hrr (And.intro hpp hor))
  clear hrr hpp hor
  go_wp2_with fail
  refine (printOf_any p o n.toNat _ f _ HRI.out.2.1 HRI.out.1 hN0 hN3 OPS.out.pf).mono ?_
  unfold mkS
  rintro e w6 ⟨rfl, hb6⟩
  have OPS := hid (OPS.out.next hb6)
  have HX := hid (HX.out.below hb6)
  clear hb6 c c0 c1 c2 c3
  obtain ⟨c, c0, c1, c2, c3⟩ := OPS.out.box
  go_wp2_with fail
  obtain ⟨wt, hwt⟩ : ∃ wt : World, OpsM w wt (.slice al l.length kl) (.slice af f.length kf) (.slice aa xs.length ka) (.slice ua1 (ofR p n o v l).length uc1) l f xs p n o v ∧ Pl wt (.slice ta1 X.length tc1) X := ⟨_, OPS.out, HX.out⟩
  go_loopw [17, 21] (fun u i wr => u = .int .i64 1 ∧ i = .int .i64 0 ∧ OpsM w wr (.slice al l.length kl) (.slice af f.length kf) (.slice aa xs.length ka) (.slice ua1 (ofR p n o v l).length uc1) l f xs p n o v ∧ Pl wr (.slice ta1 X.length tc1) X) (fun _ _ _ => 0)
  case atStart => exact ⟨rfl, rfl, OPS.out, HX.out⟩
  case round =>
    obtain ⟨rfl, rfl, hops2, hX2⟩ := hrel
    have OP2 := hid hops2
    have HX2 := hid hX2
    clear hops2 hX2
    by_cases h0 : 0 < xs.length
    · go_wp2_with (first
        | (go_at_call 11; refine (polyBegun_any _ HT7.out HJ.out _ (HI.out _)).mono ?_; rintro e w9 ⟨rfl, hb9⟩; have OP9 := hid (OP2.out.next hb9); have HX9 := hid (HX2.out.below hb9); clear hb9)
        | (go_at_call 13; have hpi := polyIs_any _ _ X (errOf p n o v l) w9 HW.out.ok (by rw [HW.out.r]; exact OP9.out.s1) HX9.out; rw [HW.out.e] at hpi; refine hpi.mono ?_; rintro e w10 ⟨rfl, hb10⟩; have OP10 := hid (OP9.out.next hb10); clear hb10))
      go_ret
      exact ⟨rfl, OP10.out.below⟩
    · go_wp2_with (first
        | (go_at_call 11; refine (polyBegun_any _ HT7.out HJ.out _ (HI.out _)).mono ?_; rintro e w9 ⟨rfl, hb9⟩; have OP9 := hid (OP2.out.next hb9); have HX9 := hid (HX2.out.below hb9); clear hb9)
        | (go_at_call 13; have hpi := polyIs_any _ _ X (errOf p n o v l) w9 HW.out.ok (by rw [HW.out.r]; exact OP9.out.s1) HX9.out; rw [HW.out.e] at hpi; refine hpi.mono ?_; rintro e w10 ⟨rfl, hb10⟩; have OP10 := hid (OP9.out.next hb10); clear hb10))
      go_ret
      exact ⟨rfl, OP10.out.below⟩

set_option maxRecDepth 100000 in
set_option maxHeartbeats 4000000 in
theorem polyMakes_c (p n o v : Int) (hJ : JoK) (lv x a : Value) (l f : List Tm) (xs : List Int) (w : World) (hI : ∀ w, ItoK (fun i => i < 100) w) (hI2 : ItoK (fun i => i ≤ 1000) w) (ql : Pl w lv l) (pf : Pl w x f) (sa : Sl w a xs)
    (hE : errPolys p n o v [f] = 0) (hlen : (xs.length : Int) = n) (hany : xs.any (outV p) = true) :
    Calls Tryd.prog 4 #[ringV p n o v, lv, x, a] w fun e w' => e = .returned (.bool true) ∧ Below w.heap.size w w' := by
  have HL := hid ql
  have HP := hid pf
  have HS := hid sa
  have HJ := hid hJ
  have HI := hid hI
  have HI2 := hid hI2
  have HT := hid (tells p n o v)
  have HT7 := hid (tells 7 2 1 1)
  have hC1 := cur_eq (p := p) (n := n) (o := o) (v := v) (fss := [f]) (by simp)
  have HEP := hid hE
  have hCE : cur p n o v [f] = 0 := by rw [hC1]; exact hE
  have HCE := hid hCE
  have HRT : Hid (Right p o n.toNat f ∧ 0 < n.toNat ∧ n.toNat ≤ 3 ∧ (2 ≤ p ∧ p ≤ 101) ∧ (o = 1 ∨ o = 2)) := by
    obtain ⟨hr, hall⟩ := errPolys_ok hE
    obtain ⟨rf, h1, h2, _, h3, h4⟩ := right_of hr (hall f (by simp))
    exact ⟨rf, h1, h2, h3, h4⟩
  have HPR : Hid (priR (cur p n o v [f]) f = priR 0 f) := by show _ = _; rw [hCE]
  have hln : ((xs.length : Int) != n) = false := by simpa using hlen
  have HLN := hid hlen
  have hx3 : xs.length ≤ 3 := by have := HRT.out.2.2.1; omega
  have HVE : Hid (valE (cur p n o v [f]) n p xs = 3) := by show _ = _; unfold valE; rw [hCE, if_neg (by simp), if_neg (by simpa using hlen), hany]; simp
  have HVR : Hid (valR (cur p n o v [f]) n p xs f = 0) := by show _ = _; unfold valR; rw [HVE.out, if_neg (by omega)]
  clear hlen hCE hE
  obtain ⟨al, kl, rfl, _, _⟩ := ql
  obtain ⟨af, kf, rfl, _, _⟩ := pf
  obtain ⟨aa, ka, rfl, _⟩ := sa
  clear hJ hI hI2 hC1
  go_enter Tryd.func4, Tryd.ntmps4
  go_wp2_with fail
  refine (polyOf_any p n o v _ l _ (HL.out.below below_one)).mono ?_
  rintro e w1 ⟨u1, rfl, hu1, hb1⟩
  have hbb1 := show Below w.heap.size w w1 from below_one.trans (hb1.mono (by simp))
  have OPS := hid (OpsM.mk hbb1 ((BoxAt.new w p n o v 23).below hb1) (HL.out.below hbb1) (HP.out.below hbb1) (HS.out.below hbb1) hu1)
  obtain ⟨ua1, uc1, rfl, _, _⟩ := hu1
  clear hb1 hbb1
  obtain ⟨c, c0, c1, c2, c3⟩ := OPS.out.box
  go_wp2_with fail
  refine (polyValue_any p n o v _ HT.out _ _ f xs _ OPS.out.pf OPS.out.sa).mono ?_
  rw [HVE.out, HVR.out]
  rintro e w2 ⟨rfl, hb2⟩
  have OPS := hid (OPS.out.next hb2)
  clear hb2 c c0 c1 c2 c3
  obtain ⟨c, c0, c1, c2, c3⟩ := OPS.out.box
  go_wp2_with fail
  refine (polyPrint_all p n o v _ HT.out HJ.out _ f _ (fun i W hq hb => HI2.out i W hq (OPS.out.below.trans (hb.mono OPS.out.below.size))) OPS.out.pf).mono ?_
  rw [HPR.out, HCE.out]
  unfold mkS
  rintro e w3 ⟨rfl, hb3⟩
  have OPS := hid (OPS.out.next hb3)
  clear hb3 c c0 c1 c2 c3
  obtain ⟨c, c0, c1, c2, c3⟩ := OPS.out.box
  go_upto_region 4 with fail
  go_cut [15, 16] (fun s15 s16 wc => s15 = .int .i64 (errOf p n o v l) ∧ s16 = .int .i64 0 ∧ OpsM w wc (.slice al l.length kl) (.slice af f.length kf) (.slice aa xs.length ka) (.slice ua1 (ofR p n o v l).length uc1) l f xs p n o v)
  case first =>
    go_region_held (fun W => HeldM w W (.slice al l.length kl) (.slice af f.length kf) (.slice aa xs.length ka) (.slice ua1 (ofR p n o v l).length uc1) l f xs p n o v)
      (first | exact HeldM.next (by assumption) hbn | exact HeldM.next (by assumption) below_one | exact (OPS.out.next (Below.refl _ _).drew).held)
      (first
        | (go_at_call 17; refine (checkTermsR_any p n o v _ l _ ?_).mono ?_; exact (HeldM.ops (by assumption)).pl; rintro e w9 ⟨rfl, hbn⟩)
        | (go_at_call 8; refine (checkPolys_any p n o v _ [f] _ (by simp) ?_).mono ?_; exact pls1 (x := Value.slice af f.length kf) (HeldM.ops (by assumption)).pf (by first | (simp; done) | (have := hbn.size; simp at this; omega)) (by first | (simp [go_sem]; done) | (rw [hbn.cell (by simp)]; simp [go_sem])); rw [HEP.out]; rintro e w9 ⟨rfl, hbn⟩))
    all_goals
      have HF := hid (HeldM.ops (by assumption) : OpsM w _ (.slice al l.length kl) (.slice af f.length kf) (.slice aa xs.length ka) (.slice ua1 (ofR p n o v l).length uc1) l f xs p n o v)
      go_wp2_with fail
      go_meet
      case rel => exact ⟨rfl, rfl, HF.out⟩
  case rest =>
  obtain ⟨rfl, rfl, hopx⟩ := hcut
  have OPX := hid hopx
  clear OPS c c0 c1 c2 c3 hopx
  obtain ⟨c, c0, c1, c2, c3⟩ := OPX.out.box
  go_upto_if 50 with fail
  go_cut [18] (fun s18 wc => OpsM w wc (.slice al l.length kl) (.slice af f.length kf) (.slice aa xs.length ka) (.slice ua1 (ofR p n o v l).length uc1) l f xs p n o v ∧ ∃ X, Pl wc s18 X ∧ Want p n o v l X)
  case first =>
    cases hz : (errOf p n o v l == 0)
    · have HZ := hid (show errOf p n o v l ≠ 0 by simpa using hz)
      go_wp2_with fail
      go_meet
      case rel => exact ⟨OPX.out, [], Pl.empty _, want_bad HZ.out⟩
    · have HZ := hid (show errOf p n o v l = 0 by simpa using hz)
      obtain ⟨ht1, _, ht3, ht4, ht5, ht6, ht7⟩ := of_right HZ.out
      have HTK := hid (And.intro ht1 (And.intro ht6 ht7))
      clear ht1 ht6 ht7
      go_wp2_with fail
      refine (collect_any p n o v n.toNat _ l _ HTK.out.2.1 HTK.out.2.2 ht4 ht5 HTK.out.1 (by omega) OPX.out.pl).mono ?_
      rintro e w5 ⟨u5, rfl, hu5, hb5⟩
      have HU5 := hid hu5
      have OP5 := hid (OPX.out.next hb5)
      obtain ⟨ua5, uc5, rfl, _, _⟩ := hu5
      clear hb5
      go_wp2_with fail
      go_meet
      case rel => exact ⟨OP5.out, _, HU5.out, want_ok HZ.out⟩
  case rest =>
  obtain ⟨hops, X, hX, hW⟩ := hcut
  have OPS := hid hops
  have HX := hid hX
  have HW := hid hW
  obtain ⟨ta1, tc1, rfl, _, _⟩ := hX
  clear c c0 c1 c2 c3 hops OPX hW
  obtain ⟨c, c0, c1, c2, c3⟩ := OPS.out.box
  obtain ⟨hrr, hN0, hN3, hpp, hor⟩ := HRT.out
  have HRI := hid (And.intro hrr (And.intro hpp hor))
  clear hrr hpp hor
  go_wp2_with fail
  refine (printOf_any p o n.toNat _ f _ HRI.out.2.1 HRI.out.1 hN0 hN3 OPS.out.pf).mono ?_
  unfold mkS
  rintro e w6 ⟨rfl, hb6⟩
  have OPS := hid (OPS.out.next hb6)
  have HX := hid (HX.out.below hb6)
  clear hb6 c c0 c1 c2 c3
  obtain ⟨c, c0, c1, c2, c3⟩ := OPS.out.box
  go_wp2_with fail
  go_loopw [17, 21] (fun u i wr => ∃ k : Nat, k ≤ xs.length ∧ i = .int .i64 k ∧ (u = .int .i64 0 ∧ (xs.take k).any (outV p) = false ∨ u = .int .i64 3 ∧ xs.any (outV p) = true) ∧ OpsM w wr (.slice al l.length kl) (.slice af f.length kf) (.slice aa xs.length ka) (.slice ua1 (ofR p n o v l).length uc1) l f xs p n o v ∧ Pl wr (.slice ta1 X.length tc1) X) (fun _ i _ => xs.length - (intOf i).toNat)
  case atStart => exact ⟨0, Nat.zero_le _, rfl, Or.inl ⟨rfl, by simp⟩, OPS.out, HX.out⟩
  case round =>
    obtain ⟨k, hk, rfl, hu, hops2, hX2⟩ := hrel
    have OP2 := hid hops2
    have HX2 := hid hX2
    clear hops2 hX2 c c0 c1 c2 c3
    obtain ⟨c, c0, c1, c2, c3⟩ := OP2.out.box
    rcases hu with ⟨rfl, hany2⟩ | ⟨rfl, hany2⟩
    · by_cases hk2 : k < xs.length
      · obtain ⟨ga, gc, hgv, hsl⟩ := OP2.out.sa
        obtain ⟨gb, goff, hga, hglt, hgc⟩ := hsl (Nat.lt_of_le_of_lt (Nat.zero_le k) hk2)
        simp only [Value.slice.injEq, true_and] at hgv
        obtain ⟨e1, e2⟩ := hgv
        subst e1
        subst e2
        subst hga
        have e0 := hgc k hk2
        have HY := hid (any_take (outV p) xs k hk2 hany2)
        have HN := hid (any_at (outV p) xs k hk2)
        generalize xs.getD k 0 = y at e0 HY HN
        clear hsl hgc hany2
        by_cases hy1 : y < 0
        · have HO : Hid (outV p y = true) := decide_eq_true (Or.inl hy1)
          go_wp2_with fail
          go_quiet (fail)
          have HQ1 := hid (below_drewN (Below.refl wr.heap.size wr) nq)
          go_wp2
          go_roundw
          case rel => exact ⟨k + 1, by omega, by go_num, Or.inr ⟨rfl, HN.out HO.out⟩, OP2.out.next HQ1.out, HX2.out.below HQ1.out⟩
          case measure => simp [intOf]; omega
        · by_cases hy2 : p ≤ y
          · have HO : Hid (outV p y = true) := decide_eq_true (Or.inr hy2)
            go_wp2_with fail
            go_quiet (fail)
            have HQ1 := hid (below_drewN (Below.refl wr.heap.size wr) nq)
            go_wp2
            go_roundw
            case rel => exact ⟨k + 1, by omega, by go_num, Or.inr ⟨rfl, HN.out HO.out⟩, OP2.out.next HQ1.out, HX2.out.below HQ1.out⟩
            case measure => simp [intOf]; omega
          · have HO : Hid (outV p y = false) := decide_eq_false (by omega)
            go_wp2_with fail
            go_quiet (fail)
            have HQ1 := hid (below_drewN (Below.refl wr.heap.size wr) nq)
            go_wp2
            go_roundw
            case rel => exact ⟨k + 1, by omega, by go_num, Or.inl ⟨rfl, HY.out HO.out⟩, OP2.out.next HQ1.out, HX2.out.below HQ1.out⟩
            case measure => simp [intOf]; omega
      · have hall : xs.any (outV p) = false := by rw [List.take_of_length_le (by omega)] at hany2; exact hany2
        rw [hany] at hall; simp at hall
    · clear hany2
      by_cases hk2 : k < xs.length
      · go_wp2_with (first
          | (go_at_call 11; refine (polyBegun_any _ HT7.out HJ.out _ (HI.out _)).mono ?_; rintro e w9 ⟨rfl, hb9⟩; have OP9 := hid (OP2.out.next hb9); have HX9 := hid (HX2.out.below hb9); clear hb9)
          | (go_at_call 13; have hpi := polyIs_any _ _ X (errOf p n o v l) w9 HW.out.ok (by rw [HW.out.r]; exact OP9.out.s1) HX9.out; rw [HW.out.e] at hpi; refine hpi.mono ?_; rintro e w10 ⟨rfl, hb10⟩; have OP10 := hid (OP9.out.next hb10); clear hb10))
        go_ret
        exact ⟨rfl, OP10.out.below⟩
      · go_wp2_with (first
          | (go_at_call 11; refine (polyBegun_any _ HT7.out HJ.out _ (HI.out _)).mono ?_; rintro e w9 ⟨rfl, hb9⟩; have OP9 := hid (OP2.out.next hb9); have HX9 := hid (HX2.out.below hb9); clear hb9)
          | (go_at_call 13; have hpi := polyIs_any _ _ X (errOf p n o v l) w9 HW.out.ok (by rw [HW.out.r]; exact OP9.out.s1) HX9.out; rw [HW.out.e] at hpi; refine hpi.mono ?_; rintro e w10 ⟨rfl, hb10⟩; have OP10 := hid (OP9.out.next hb10); clear hb10))
        go_ret
        exact ⟨rfl, OP10.out.below⟩

set_option maxRecDepth 100000 in
set_option maxHeartbeats 4000000 in
theorem polyMakes_d (p n o v : Int) (hJ : JoK) (lv x a : Value) (l f : List Tm) (xs : List Int) (w : World) (hI : ∀ w, ItoK (fun i => i < 100) w) (hI2 : ItoK (fun i => i ≤ 1000) w) (ql : Pl w lv l) (pf : Pl w x f) (sa : Sl w a xs)
    (hE : errPolys p n o v [f] = 0) (hlen : (xs.length : Int) = n) (hany : xs.any (outV p) = false) :
    Calls Tryd.prog 4 #[ringV p n o v, lv, x, a] w fun e w' => e = .returned (.bool true) ∧ Below w.heap.size w w' := by
  have HL := hid ql
  have HP := hid pf
  have HS := hid sa
  have HJ := hid hJ
  have HI := hid hI
  have HI2 := hid hI2
  have HT := hid (tells p n o v)
  have HT7 := hid (tells 7 2 1 1)
  have hC1 := cur_eq (p := p) (n := n) (o := o) (v := v) (fss := [f]) (by simp)
  have HEP := hid hE
  have hCE : cur p n o v [f] = 0 := by rw [hC1]; exact hE
  have HCE := hid hCE
  have HRT : Hid (Right p o n.toNat f ∧ 0 < n.toNat ∧ n.toNat ≤ 3 ∧ (2 ≤ p ∧ p ≤ 101) ∧ (o = 1 ∨ o = 2)) := by
    obtain ⟨hr, hall⟩ := errPolys_ok hE
    obtain ⟨rf, h1, h2, _, h3, h4⟩ := right_of hr (hall f (by simp))
    exact ⟨rf, h1, h2, h3, h4⟩
  have HPR : Hid (priR (cur p n o v [f]) f = priR 0 f) := by show _ = _; rw [hCE]
  have hln : ((xs.length : Int) != n) = false := by simpa using hlen
  have HLN := hid hlen
  have hx3 : xs.length ≤ 3 := by have := HRT.out.2.2.1; omega
  have HVE : Hid (valE (cur p n o v [f]) n p xs = 0) := by show _ = _; unfold valE; rw [hCE, if_neg (by simp), if_neg (by simpa using hlen), hany]; simp
  have HVR : Hid (valR (cur p n o v [f]) n p xs f = lin (mval xs) f % p) := by show _ = _; unfold valR; rw [HVE.out, if_pos rfl]
  clear hlen hCE hE
  obtain ⟨al, kl, rfl, _, _⟩ := ql
  obtain ⟨af, kf, rfl, _, _⟩ := pf
  obtain ⟨aa, ka, rfl, _⟩ := sa
  clear hJ hI hI2 hC1
  go_enter Tryd.func4, Tryd.ntmps4
  go_wp2_with fail
  refine (polyOf_any p n o v _ l _ (HL.out.below below_one)).mono ?_
  rintro e w1 ⟨u1, rfl, hu1, hb1⟩
  have hbb1 := show Below w.heap.size w w1 from below_one.trans (hb1.mono (by simp))
  have OPS := hid (OpsM.mk hbb1 ((BoxAt.new w p n o v 23).below hb1) (HL.out.below hbb1) (HP.out.below hbb1) (HS.out.below hbb1) hu1)
  obtain ⟨ua1, uc1, rfl, _, _⟩ := hu1
  clear hb1 hbb1
  obtain ⟨c, c0, c1, c2, c3⟩ := OPS.out.box
  go_wp2_with fail
  refine (polyValue_any p n o v _ HT.out _ _ f xs _ OPS.out.pf OPS.out.sa).mono ?_
  rw [HVE.out, HVR.out]
  rintro e w2 ⟨rfl, hb2⟩
  have OPS := hid (OPS.out.next hb2)
  clear hb2 c c0 c1 c2 c3
  obtain ⟨c, c0, c1, c2, c3⟩ := OPS.out.box
  go_wp2_with fail
  refine (polyPrint_all p n o v _ HT.out HJ.out _ f _ (fun i W hq hb => HI2.out i W hq (OPS.out.below.trans (hb.mono OPS.out.below.size))) OPS.out.pf).mono ?_
  rw [HPR.out, HCE.out]
  unfold mkS
  rintro e w3 ⟨rfl, hb3⟩
  have OPS := hid (OPS.out.next hb3)
  clear hb3 c c0 c1 c2 c3
  obtain ⟨c, c0, c1, c2, c3⟩ := OPS.out.box
  go_upto_region 4 with fail
  go_cut [15, 16] (fun s15 s16 wc => s15 = .int .i64 (errOf p n o v l) ∧ s16 = .int .i64 0 ∧ OpsM w wc (.slice al l.length kl) (.slice af f.length kf) (.slice aa xs.length ka) (.slice ua1 (ofR p n o v l).length uc1) l f xs p n o v)
  case first =>
    go_region_held (fun W => HeldM w W (.slice al l.length kl) (.slice af f.length kf) (.slice aa xs.length ka) (.slice ua1 (ofR p n o v l).length uc1) l f xs p n o v)
      (first | exact HeldM.next (by assumption) hbn | exact HeldM.next (by assumption) below_one | exact (OPS.out.next (Below.refl _ _).drew).held)
      (first
        | (go_at_call 17; refine (checkTermsR_any p n o v _ l _ ?_).mono ?_; exact (HeldM.ops (by assumption)).pl; rintro e w9 ⟨rfl, hbn⟩)
        | (go_at_call 8; refine (checkPolys_any p n o v _ [f] _ (by simp) ?_).mono ?_; exact pls1 (x := Value.slice af f.length kf) (HeldM.ops (by assumption)).pf (by first | (simp; done) | (have := hbn.size; simp at this; omega)) (by first | (simp [go_sem]; done) | (rw [hbn.cell (by simp)]; simp [go_sem])); rw [HEP.out]; rintro e w9 ⟨rfl, hbn⟩))
    all_goals
      have HF := hid (HeldM.ops (by assumption) : OpsM w _ (.slice al l.length kl) (.slice af f.length kf) (.slice aa xs.length ka) (.slice ua1 (ofR p n o v l).length uc1) l f xs p n o v)
      go_wp2_with fail
      go_meet
      case rel => exact ⟨rfl, rfl, HF.out⟩
  case rest =>
  obtain ⟨rfl, rfl, hopx⟩ := hcut
  have OPX := hid hopx
  clear OPS c c0 c1 c2 c3 hopx
  obtain ⟨c, c0, c1, c2, c3⟩ := OPX.out.box
  go_upto_if 50 with fail
  go_cut [18] (fun s18 wc => OpsM w wc (.slice al l.length kl) (.slice af f.length kf) (.slice aa xs.length ka) (.slice ua1 (ofR p n o v l).length uc1) l f xs p n o v ∧ ∃ X, Pl wc s18 X ∧ Want p n o v l X)
  case first =>
    cases hz : (errOf p n o v l == 0)
    · have HZ := hid (show errOf p n o v l ≠ 0 by simpa using hz)
      go_wp2_with fail
      go_meet
      case rel => exact ⟨OPX.out, [], Pl.empty _, want_bad HZ.out⟩
    · have HZ := hid (show errOf p n o v l = 0 by simpa using hz)
      obtain ⟨ht1, _, ht3, ht4, ht5, ht6, ht7⟩ := of_right HZ.out
      have HTK := hid (And.intro ht1 (And.intro ht6 ht7))
      clear ht1 ht6 ht7
      go_wp2_with fail
      refine (collect_any p n o v n.toNat _ l _ HTK.out.2.1 HTK.out.2.2 ht4 ht5 HTK.out.1 (by omega) OPX.out.pl).mono ?_
      rintro e w5 ⟨u5, rfl, hu5, hb5⟩
      have HU5 := hid hu5
      have OP5 := hid (OPX.out.next hb5)
      obtain ⟨ua5, uc5, rfl, _, _⟩ := hu5
      clear hb5
      go_wp2_with fail
      go_meet
      case rel => exact ⟨OP5.out, _, HU5.out, want_ok HZ.out⟩
  case rest =>
  obtain ⟨hops, X, hX, hW⟩ := hcut
  have OPS := hid hops
  have HX := hid hX
  have HW := hid hW
  obtain ⟨ta1, tc1, rfl, _, _⟩ := hX
  clear c c0 c1 c2 c3 hops OPX hW
  obtain ⟨c, c0, c1, c2, c3⟩ := OPS.out.box
  obtain ⟨hrr, hN0, hN3, hpp, hor⟩ := HRT.out
  have HRI := hid (And.intro hrr (And.intro hpp hor))
  clear hrr hpp hor
  go_wp2_with fail
  refine (printOf_any p o n.toNat _ f _ HRI.out.2.1 HRI.out.1 hN0 hN3 OPS.out.pf).mono ?_
  unfold mkS
  rintro e w6 ⟨rfl, hb6⟩
  have OPS := hid (OPS.out.next hb6)
  have HX := hid (HX.out.below hb6)
  clear hb6 c c0 c1 c2 c3
  obtain ⟨c, c0, c1, c2, c3⟩ := OPS.out.box
  go_wp2_with fail
  go_loopw [17, 21] (fun u i wr => ∃ k : Nat, k ≤ xs.length ∧ i = .int .i64 k ∧ (u = .int .i64 0 ∧ (xs.take k).any (outV p) = false ∨ u = .int .i64 3 ∧ xs.any (outV p) = true) ∧ OpsM w wr (.slice al l.length kl) (.slice af f.length kf) (.slice aa xs.length ka) (.slice ua1 (ofR p n o v l).length uc1) l f xs p n o v ∧ Pl wr (.slice ta1 X.length tc1) X) (fun _ i _ => xs.length - (intOf i).toNat)
  case atStart => exact ⟨0, Nat.zero_le _, rfl, Or.inl ⟨rfl, by simp⟩, OPS.out, HX.out⟩
  case round =>
    obtain ⟨k, hk, rfl, hu, hops2, hX2⟩ := hrel
    have OP2 := hid hops2
    have HX2 := hid hX2
    clear hops2 hX2 c c0 c1 c2 c3
    obtain ⟨c, c0, c1, c2, c3⟩ := OP2.out.box
    rcases hu with ⟨rfl, hany2⟩ | ⟨rfl, hany2⟩
    · by_cases hk2 : k < xs.length
      · obtain ⟨ga, gc, hgv, hsl⟩ := OP2.out.sa
        obtain ⟨gb, goff, hga, hglt, hgc⟩ := hsl (Nat.lt_of_le_of_lt (Nat.zero_le k) hk2)
        simp only [Value.slice.injEq, true_and] at hgv
        obtain ⟨e1, e2⟩ := hgv
        subst e1
        subst e2
        subst hga
        have e0 := hgc k hk2
        have HY := hid (any_take (outV p) xs k hk2 hany2)
        have HN := hid (any_at (outV p) xs k hk2)
        generalize xs.getD k 0 = y at e0 HY HN
        clear hsl hgc hany2
        by_cases hy1 : y < 0
        · have HO : Hid (outV p y = true) := decide_eq_true (Or.inl hy1)
          go_wp2_with fail
          go_quiet (fail)
          have HQ1 := hid (below_drewN (Below.refl wr.heap.size wr) nq)
          go_wp2
          go_roundw
          case rel => exact ⟨k + 1, by omega, by go_num, Or.inr ⟨rfl, HN.out HO.out⟩, OP2.out.next HQ1.out, HX2.out.below HQ1.out⟩
          case measure => simp [intOf]; omega
        · by_cases hy2 : p ≤ y
          · have HO : Hid (outV p y = true) := decide_eq_true (Or.inr hy2)
            go_wp2_with fail
            go_quiet (fail)
            have HQ1 := hid (below_drewN (Below.refl wr.heap.size wr) nq)
            go_wp2
            go_roundw
            case rel => exact ⟨k + 1, by omega, by go_num, Or.inr ⟨rfl, HN.out HO.out⟩, OP2.out.next HQ1.out, HX2.out.below HQ1.out⟩
            case measure => simp [intOf]; omega
          · have HO : Hid (outV p y = false) := decide_eq_false (by omega)
            go_wp2_with fail
            go_quiet (fail)
            have HQ1 := hid (below_drewN (Below.refl wr.heap.size wr) nq)
            go_wp2
            go_roundw
            case rel => exact ⟨k + 1, by omega, by go_num, Or.inl ⟨rfl, HY.out HO.out⟩, OP2.out.next HQ1.out, HX2.out.below HQ1.out⟩
            case measure => simp [intOf]; omega
      · have hall : xs.any (outV p) = false := by rw [List.take_of_length_le (by omega)] at hany2; exact hany2
        clear hany2
        have HXB := hid (any_bdV hall)
        go_wp2_with (first
          | (go_at_call 20; refine (valueOf_any p n o v _ _ f xs _ HRI.out.2.1 HRI.out.1 hN0 hN3 HLN.out HXB.out OP2.out.pf OP2.out.sa).mono ?_; rintro e w8 ⟨rfl, hb8⟩; have OP8 := hid (OP2.out.next hb8); have HX8 := hid (HX2.out.below hb8); clear hb8)
          | (go_at_call 11; refine (polyBegun_any _ HT7.out HJ.out _ (HI.out _)).mono ?_; rintro e w9 ⟨rfl, hb9⟩; have OP9 := hid (OP8.out.next hb9); have HX9 := hid (HX8.out.below hb9); clear hb9)
          | (go_at_call 13; have hpi := polyIs_any _ _ X (errOf p n o v l) w9 HW.out.ok (by rw [HW.out.r]; exact OP9.out.s1) HX9.out; rw [HW.out.e] at hpi; refine hpi.mono ?_; rintro e w10 ⟨rfl, hb10⟩; have OP10 := hid (OP9.out.next hb10); clear hb10))
        go_ret
        exact ⟨rfl, OP10.out.below⟩
    · rw [hany] at hany2; simp at hany2

theorem polyMakes_any (p n o v : Int) (hJ : JoK) (lv x a : Value) (l f : List Tm) (xs : List Int) (w : World) (hI : ∀ w, ItoK (fun i => i < 100) w) (hI2 : ItoK (fun i => i ≤ 1000) w) (ql : Pl w lv l) (pf : Pl w x f) (sa : Sl w a xs) :
    Calls Tryd.prog 4 #[ringV p n o v, lv, x, a] w fun e w' => e = .returned (.bool true) ∧ Below w.heap.size w w' := by
  by_cases hE : errPolys p n o v [f] = 0
  · by_cases hl : (xs.length : Int) = n
    · cases ha : xs.any (outV p)
      · exact polyMakes_d p n o v hJ lv x a l f xs w hI hI2 ql pf sa hE hl ha
      · exact polyMakes_c p n o v hJ lv x a l f xs w hI hI2 ql pf sa hE hl ha
    · exact polyMakes_b p n o v hJ lv x a l f xs w hI hI2 ql pf sa hE hl
  · exact polyMakes_a p n o v hJ lv x a l f xs w hI hI2 ql pf sa hE
end Go.Proofs.YtilogbggilchaaaDoor
