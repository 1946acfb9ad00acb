/- polyIs; PolyOps, walked. -/
import Derived.Test.YtilogbggilchaaaDoorPX
import Derived.Test.YtilogbggilchaaaDoorTM
import Derived.Deep.DeepCutAuto
namespace Go.Proofs.YtilogbggilchaaaDoor
set_option linter.unusedSimpArgs false
set_option linter.unusedVariables false
open Go.RowKit
def isE (E : Int) (ws : List Tm) : Int := if E ≠ 0 then E else if greatB ws then 2 else 0
def isR (E : Int) (ws : List Tm) : List Tm := if isE E ws = 0 then ws else []
def Okw (ws : List Tm) : Prop := ws.length ≤ 8000000 ∧ ∀ t ∈ ws, 0 < t.2.length ∧ t.2.length ≤ 3 ∧ ∀ x ∈ t.2, 0 ≤ x ∧ x ≤ 400

set_option maxRecDepth 100000 in
set_option maxHeartbeats 1000000 in
theorem polyIs_any (x y : Value) (ws : List Tm) (E : Int) (w : World) (hk : E = 0 → Okw ws) (pf : Pl w x (isR E ws)) (pg : Pl w y ws) :
    Calls Tryd.prog 13 #[x, .int .i64 (isE E ws), .int .i64 E, y] w fun e w' => e = .returned (.bool true) ∧ Below w.heap.size w w' := by
  have HQ := hid pg
  cases hE : (E != 0)
  · have hE0 : E = 0 := by simpa using hE
    subst hE0
    obtain ⟨hlen, hall⟩ := hk rfl
    have HALL := hid hall
    have HL3 := hid (fun t ht => (hall t ht).2.1)
    clear hk hE hall
    cases hg : greatB ws
    · have he : isE 0 ws = 0 := by unfold isE; simp [hg]
      have hr : isR 0 ws = ws := by unfold isR; rw [if_pos he]
      rw [hr] at pf
      rw [he]
      have HP := hid pf
      obtain ⟨a, c, rfl, _, _⟩ := pf
      obtain ⟨a2, c2, rfl, _, _⟩ := pg
      clear he hr
      go_enter Tryd.func13, Tryd.ntmps13
      go_wp2_with (first
        | (go_at_call 33; refine (great_any _ ws _ hlen HALL.out HQ.out).mono ?_; rw [hg]; rintro e w1 ⟨rfl, rfl⟩)
        | (go_at_call 22; refine (samePoly_any _ _ ws ws _ hlen HL3.out HP.out HQ.out).mono ?_; rw [decide_eq_true rfl]; rintro e w1 ⟨rfl, hb1⟩; have HB1 := hid hb1; clear hb1))
      go_ret
      exact ⟨rfl, HB1.out⟩
    · have he : isE 0 ws = 2 := by unfold isE; simp [hg]
      have hr : isR 0 ws = [] := by unfold isR; rw [he, if_neg (by omega)]
      rw [hr] at pf
      rw [he]
      have HP := hid pf
      obtain ⟨a, c, rfl, _, _⟩ := pf
      obtain ⟨a2, c2, rfl, _, _⟩ := pg
      clear he hr
      go_enter Tryd.func13, Tryd.ntmps13
      go_wp2_with (first
        | (go_at_call 33; refine (great_any _ ws _ hlen HALL.out HQ.out).mono ?_; rw [hg]; rintro e w1 ⟨rfl, rfl⟩)
        | (go_at_call 22; refine (samePoly_any _ _ [] [] _ (by simp) (fun t ht => by simp at ht) HP.out (Pl.empty _)).mono ?_; rw [decide_eq_true rfl]; rintro e w1 ⟨rfl, hb1⟩; have HB1 := hid hb1; clear hb1))
      go_ret
      exact ⟨rfl, HB1.out⟩
  · have hE0 : E ≠ 0 := by simpa using hE
    have he : isE E ws = E := by unfold isE; rw [if_pos hE0]
    have hr : isR E ws = [] := by unfold isR; rw [he, if_neg hE0]
    have hE1 : (E == 0) = false := by simpa using hE0
    rw [hr] at pf
    rw [he]
    have HP := hid pf
    obtain ⟨a, c, rfl, _, _⟩ := pf
    obtain ⟨a2, c2, rfl, _, _⟩ := pg
    clear he hr hk hE0
    go_enter Tryd.func13, Tryd.ntmps13
    go_wp2_with (first
      | (go_at_call 22; refine (samePoly_any _ _ [] [] _ (by simp) (fun t ht => by simp at ht) HP.out (Pl.empty _)).mono ?_; rw [decide_eq_true rfl]; rintro e w1 ⟨rfl, hb1⟩; have HB1 := hid hb1; clear hb1))
    go_ret
    exact ⟨rfl, HB1.out⟩

theorem addE_is (E p o : Int) (f g : List Tm) : addE E p o f g = isE E (colL p o (f ++ g)) := rfl
theorem addR_is (E p o : Int) (f g : List Tm) : addR E p o f g = isR E (colL p o (f ++ g)) := rfl
theorem mulE_is (E p o : Int) (f g : List Tm) : mulE E p o f g = isE E (colL p o (prodL p f g)) := rfl
theorem mulR_is (E p o : Int) (f g : List Tm) : mulR E p o f g = isR E (colL p o (prodL p f g)) := rfl
theorem tok_right {p o : Int} {N : Nat} {f : List Tm} (h : Right p o N f) : ∀ t ∈ f, Tok p N t := fun t ht => ⟨h.canon.len t ht, h.bd.bd t ht, by have := h.canon.coef t ht; omega, (h.canon.coef t ht).2⟩
theorem okw_col {p o : Int} {N : Nat} {l : List Tm} (h0 : 0 < N) (h3 : N ≤ 3) (hl : l.length ≤ 4000000) (h : ∀ t ∈ l, Tok p N t) : Okw (colL p o l) := by
  refine ⟨by have := col_len (p := p) (o := o) l; omega, fun t ht => ?_⟩
  obtain ⟨y, hy, e⟩ := col_mem ht
  have := h y hy
  rw [e, this.1]
  exact ⟨h0, h3, this.2.1⟩
structure OpsP (w w' : World) (x y u1 u2 : Value) (f g : List Tm) (p n o v : Int) : Prop where
  below : Below w.heap.size w w'
  box : BoxAt w' w.heap.size p n o v
  pf : Pl w' x f
  pg : Pl w' y g
  s1 : Pl w' u1 (isR (errPolys p n o v [f, g]) (colL p o (f ++ g)))
  s2 : Pl w' u2 (isR (errPolys p n o v [f, g]) (colL p o (prodL p f g)))
theorem OpsP.next {w w' w2 : World} {x y u1 u2 : Value} {f g : List Tm} {p n o v : Int} (h : OpsP w w' x y u1 u2 f g p n o v) (hb : Below w'.heap.size w' w2) : OpsP w w2 x y u1 u2 f g p n o v :=
  ⟨h.below.trans (hb.mono h.below.size), h.box.below hb, h.pf.below hb, h.pg.below hb, h.s1.below hb, h.s2.below hb⟩
structure FinP (w w' : World) (x y u1 u2 t1 t2 : Value) (f g X Y : List Tm) (p n o v : Int) : Prop where
  ops : OpsP w w' x y u1 u2 f g p n o v
  l1 : Pl w' t1 X
  l2 : Pl w' t2 Y
theorem FinP.next {w w' w2 : World} {x y u1 u2 t1 t2 : Value} {f g X Y : List Tm} {p n o v : Int} (h : FinP w w' x y u1 u2 t1 t2 f g X Y p n o v) (hb : Below w'.heap.size w' w2) : FinP w w2 x y u1 u2 t1 t2 f g X Y p n o v :=
  ⟨h.ops.next hb, h.l1.below hb, h.l2.below hb⟩
abbrev HeldP (w w' : World) (x y u1 u2 t1 t2 : Value) (f g X Y : List Tm) (p n o v : Int) : Prop :=
  w'.cell? ⟨w.heap.size, 0, none⟩ = some (.int .i64 p) ∧ w'.cell? ⟨w.heap.size, 1, none⟩ = some (.int .i64 n) ∧ w'.cell? ⟨w.heap.size, 2, none⟩ = some (.int .i64 o) ∧ w'.cell? ⟨w.heap.size, 3, none⟩ = some (.int .i64 v) ∧ Hid (FinP w w' x y u1 u2 t1 t2 f g X Y p n o v)
theorem FinP.held {w w' : World} {x y u1 u2 t1 t2 : Value} {f g X Y : List Tm} {p n o v : Int} (h : FinP w w' x y u1 u2 t1 t2 f g X Y p n o v) : HeldP w w' x y u1 u2 t1 t2 f g X Y p n o v :=
  ⟨h.ops.box.2.1, h.ops.box.2.2.1, h.ops.box.2.2.2.1, h.ops.box.2.2.2.2, h⟩
theorem HeldP.fin {w w' : World} {x y u1 u2 t1 t2 : Value} {f g X Y : List Tm} {p n o v : Int} (h : HeldP w w' x y u1 u2 t1 t2 f g X Y p n o v) : FinP w w' x y u1 u2 t1 t2 f g X Y p n o v := h.2.2.2.2
theorem HeldP.next {w w' w2 : World} {x y u1 u2 t1 t2 : Value} {f g X Y : List Tm} {p n o v : Int} (h : HeldP w w' x y u1 u2 t1 t2 f g X Y p n o v) (hb : Below w'.heap.size w' w2) : HeldP w w2 x y u1 u2 t1 t2 f g X Y p n o v :=
  (h.fin.next hb).held

set_option maxRecDepth 100000 in
set_option maxHeartbeats 4000000 in
theorem polyOps_any (p n o v : Int) (hJ : JoK) (hI : ∀ w, ItoK (fun i => i < 100) w) (x y : Value) (f g : List Tm) (w : World) (pf : Pl w x f) (pg : Pl w y g) :
    Calls Tryd.prog 3 #[ringV p n o v, x, y] w fun e w' => e = .returned (.bool true) ∧ Below w.heap.size w w' := by
  have HP := hid pf
  have HQ := hid pg
  have HJ := hid hJ
  have HI := hid hI
  have HT := hid (tells p n o v)
  have HT7 := hid (tells 7 2 1 1)
  have HC2 := hid (cur_eq (p := p) (n := n) (o := o) (v := v) (fss := [f, g]) (by simp))
  have HC1 := hid (cur_eq (p := p) (n := n) (o := o) (v := v) (fss := [f]) (by simp))
  obtain ⟨a1, k1, rfl, _, _⟩ := pf
  obtain ⟨a2, k2, rfl, _, _⟩ := pg
  clear hJ hI
  go_enter Tryd.func3, Tryd.ntmps3
  go_wp2_with fail
  refine (polyAdd_any p n o v _ HT.out _ _ f g _ (HP.out.below below_one) (HQ.out.below below_one)).mono ?_
  rw [HC2.out, addE_is, addR_is]
  rintro e w1 ⟨u1, rfl, hu1, hb1⟩
  have hbb1 := hid (show Below w.heap.size w w1 from below_one.trans (hb1.mono (by simp)))
  have hbx := (BoxAt.new w p n o v 23).below hb1
  have HBX := hid hbx
  obtain ⟨c, c0, c1, c2, c3⟩ := hbx
  have HU1 := hid hu1
  obtain ⟨ua1, uc1, rfl, _, _⟩ := hu1
  clear hb1
  go_wp2_with fail
  refine (polyMul_any p n o v _ HT.out _ _ f g _ (HP.out.below hbb1.out) (HQ.out.below hbb1.out)).mono ?_
  rw [HC2.out, mulE_is, mulR_is]
  rintro e w2 ⟨u2, rfl, hu2, hb2⟩
  have hbb2 := hid (hbb1.out.trans (hb2.mono hbb1.out.size))
  have OPS := hid (OpsP.mk hbb2.out (HBX.out.below hb2) (HP.out.below hbb2.out) (HQ.out.below hbb2.out) (HU1.out.below hb2) hu2)
  obtain ⟨ua2, uc2, rfl, _, _⟩ := hu2
  clear c c0 c1 c2 c3 hb2 hbb1 hbb2 HU1 HBX
  obtain ⟨c, c0, c1, c2, c3⟩ := OPS.out.box
  go_wp2_with fail
  refine (checkPolys_any p n o v _ [f, g] _ (by simp) (pls2 (OPS.out.pf.below below_oneG) (OPS.out.pg.below below_oneG) (by simp) (by simp [go_sem]) (by simp [go_sem]))).mono ?_
  rintro e w3 ⟨rfl, hb3⟩
  have OPS := hid (OPS.out.next (below_oneG.trans (hb3.mono (by simp))))
  clear c c0 c1 c2 c3 hb3
  obtain ⟨c, c0, c1, c2, c3⟩ := OPS.out.box
  go_upto_if 34 with fail
  go_cut [11, 12, 13] (fun s11 s12 s13 wc => s11 = .int .i64 (errPolys p n o v [f, g]) ∧ OpsP w wc (.slice a1 f.length k1) (.slice a2 g.length k2) (.slice ua1 (isR (errPolys p n o v [f, g]) (colL p o (f ++ g))).length uc1) (.slice ua2 (isR (errPolys p n o v [f, g]) (colL p o (prodL p f g))).length uc2) f g p n o v ∧
    ∃ X Y : List Tm, Pl wc s12 X ∧ Pl wc s13 Y ∧ isE (errPolys p n o v [f, g]) (colL p o (f ++ g)) = isE (errPolys p n o v [f, g]) X ∧ isR (errPolys p n o v [f, g]) (colL p o (f ++ g)) = isR (errPolys p n o v [f, g]) X ∧ isE (errPolys p n o v [f, g]) (colL p o (prodL p f g)) = isE (errPolys p n o v [f, g]) Y ∧ isR (errPolys p n o v [f, g]) (colL p o (prodL p f g)) = isR (errPolys p n o v [f, g]) Y ∧ (errPolys p n o v [f, g] = 0 → Okw X ∧ Okw Y))
  case first =>
    cases hz : (errPolys p n o v [f, g] == 0)
    · have hz0 : errPolys p n o v [f, g] ≠ 0 := by simpa using hz
      have F1 : Hid (∀ ws, isE (errPolys p n o v [f, g]) ws = errPolys p n o v [f, g] ∧ isR (errPolys p n o v [f, g]) ws = []) := fun ws => by
        have e1 : isE (errPolys p n o v [f, g]) ws = errPolys p n o v [f, g] := by unfold isE; rw [if_pos hz0]
        exact ⟨e1, by unfold isR; rw [e1, if_neg hz0]⟩
      have HZ := hid hz0
      clear hz0
      go_wp2_with fail
      go_meet
      case rel => exact ⟨rfl, OPS.out, [], [], Pl.empty _, Pl.empty _, by rw [(F1.out _).1, (F1.out _).1], by rw [(F1.out _).2, (F1.out _).2], by rw [(F1.out _).1, (F1.out _).1], by rw [(F1.out _).2, (F1.out _).2], fun h => absurd h HZ.out⟩
    · have hz0 : errPolys p n o v [f, g] = 0 := by simpa using hz
      obtain ⟨hr, hall⟩ := errPolys_ok hz0
      obtain ⟨rf, hN0, hN3, hpr, hp, ho⟩ := right_of hr (hall f (by simp))
      obtain ⟨rg, _⟩ := right_of hr (hall g (by simp))
      have HR := hid (And.intro rf rg)
      have HPO := hid (And.intro hp (And.intro ho hpr))
      have OK1 : Hid (Okw (colL p o (f ++ g))) := okw_col hN0 hN3 (by have h1 := rf.len; have h2 := rg.len; rw [List.length_append]; omega) (fun t ht => (List.mem_append.1 ht).elim (tok_right rf t) (tok_right rg t))
      have OK2 : Hid (Okw (colL p o (prodL p f g))) := okw_col hN0 hN3 (by rw [prodL_len]; exact Nat.le_trans (Nat.mul_le_mul rf.len rg.len) (by decide)) (prodL_tok hp.1 rf.canon.len rg.canon.len rf.bd rg.bd)
      have KEEP : Hid (∀ W, Below w3.heap.size w3 W → (Hid (Below w3.heap.size w3 W) ∧ W.cell? ⟨w.heap.size, 0, none⟩ = some (.int .i64 p) ∧ W.cell? ⟨w.heap.size, 1, none⟩ = some (.int .i64 n) ∧ W.cell? ⟨w.heap.size, 2, none⟩ = some (.int .i64 o) ∧ W.cell? ⟨w.heap.size, 3, none⟩ = some (.int .i64 v))) :=
        fun W hb => ⟨hb, cell_keep c0 hb, cell_keep c1 hb, cell_keep c2 hb, cell_keep c3 hb⟩
      have HB0 : Hid (Below w3.heap.size w3 w3.drew) := (Below.refl _ _).drew
      have HZ := hid hz0
      clear hr hall rf rg hp ho hpr c c0 c1 c2 c3 hz0
      go_wp2_with fail
      go_region_held (fun W => Hid (Below w3.heap.size w3 W) ∧ W.cell? ⟨w.heap.size, 0, none⟩ = some (.int .i64 p) ∧ W.cell? ⟨w.heap.size, 1, none⟩ = some (.int .i64 n) ∧ W.cell? ⟨w.heap.size, 2, none⟩ = some (.int .i64 o) ∧ W.cell? ⟨w.heap.size, 3, none⟩ = some (.int .i64 v))
        (first | exact KEEP.out _ HB0.out | exact KEEP.out _ HB5.out | exact KEEP.out _ HB6.out)
        (first
          | (go_at_call 9; refine (refSum_any p n o v n.toNat _ _ f g _ HPO.out.1 HPO.out.2.1 hN0 hN3 (tok_right HR.out.1) (tok_right HR.out.2) ?_ ?_ ?_).mono ?_; (have h1 := HR.out.1.len; have h2 := HR.out.2.len; omega); exact OPS.out.pf.below HB0.out; exact OPS.out.pg.below HB0.out; rintro e w5 ⟨u5, rfl, hu5, hb5⟩; have HB5 := hid (show Below w3.heap.size w3 w5 from HB0.out.trans (hb5.mono HB0.out.size)); have HU5 := hid hu5; obtain ⟨ua5, uc5, rfl, _, _⟩ := hu5; clear hb5)
          | (go_at_call 10; refine (refProduct_any p n o v n.toNat _ _ f g _ HPO.out.1 HPO.out.2.1 hN0 hN3 HR.out.1.canon.len HR.out.2.canon.len ?_ ?_ HR.out.1.bd HR.out.2.bd HR.out.1.len HR.out.2.len ?_ ?_).mono ?_; exact (fun t ht => ⟨by have := HR.out.1.canon.coef t ht; omega, (HR.out.1.canon.coef t ht).2⟩); exact (fun t ht => ⟨by have := HR.out.2.canon.coef t ht; omega, (HR.out.2.canon.coef t ht).2⟩); exact OPS.out.pf.below HB5.out; exact OPS.out.pg.below HB5.out; rintro e w6 ⟨u6, rfl, hu6, hb6⟩; have HB6 := hid (show Below w3.heap.size w3 w6 from HB5.out.trans (hb6.mono HB5.out.size)); have HU6 := hid hu6; have HU56 := hid (HU5.out.below hb6); obtain ⟨ua6, uc6, rfl, _, _⟩ := hu6; clear hb6))
      go_wp2_with fail
      go_meet
      case rel => exact ⟨rfl, OPS.out.next HB6.out, _, _, HU56.out, HU6.out, rfl, rfl, rfl, rfl, fun _ => ⟨OK1.out, OK2.out⟩⟩
  case rest =>
  obtain ⟨rfl, hops, X, Y, hX, hY, hE1, hR1, hE2, hR2, hOk⟩ := hcut
  have FIN := hid (FinP.mk hops hX hY)
  have GG := hid (And.intro hE1 (And.intro hR1 (And.intro hE2 (And.intro hR2 hOk))))
  obtain ⟨ta1, tc1, rfl, _, _⟩ := hX
  obtain ⟨ta2, tc2, rfl, _, _⟩ := hY
  clear c c0 c1 c2 c3 hops hE1 hR1 hE2 hR2 hOk OPS
  obtain ⟨c, c0, c1, c2, c3⟩ := FIN.out.ops.box
  go_upto_region 7 with fail
  go_region_held (fun W => HeldP w W (.slice a1 f.length k1) (.slice a2 g.length k2) (.slice ua1 (isR (errPolys p n o v [f, g]) (colL p o (f ++ g))).length uc1) (.slice ua2 (isR (errPolys p n o v [f, g]) (colL p o (prodL p f g))).length uc2) (.slice ta1 X.length tc1) (.slice ta2 Y.length tc2) f g X Y p n o v)
    (first | exact HeldP.next (by assumption) hbn | exact HeldP.next (by assumption) below_one | exact (FIN.out.next (Below.refl _ _).drew).held)
    (first
      | (go_at_call 11; refine (polyBegun_any _ HT7.out HJ.out _ (HI.out _)).mono ?_; rintro e w9 ⟨rfl, hbn⟩)
      | (go_at_call 12; refine (polyCheck_any p n o v _ HT.out _ f _ ?_).mono ?_; exact (HeldP.fin (by assumption)).ops.pf; rw [HC1.out]; rintro e w9 ⟨rfl, hbn⟩)
      | (go_at_call 8; refine (checkPolys_any p n o v _ [f] _ (by simp) ?_).mono ?_; exact pls1 (x := Value.slice a1 f.length k1) (HeldP.fin (by assumption)).ops.pf (by first | (simp; done) | (have := hbn.size; simp at this; omega)) (by first | (simp [go_sem]; done) | (rw [hbn.cell (by simp)]; simp [go_sem])); rintro e w9 ⟨rfl, hbn⟩)
      | (go_at_call_of 13 (Value.slice ua1 (isR (errPolys p n o v [f, g]) (colL p o (f ++ g))).length uc1); rw [GG.out.1]; refine (polyIs_any _ _ X (errPolys p n o v [f, g]) _ (fun h => (GG.out.2.2.2.2 h).1) ?_ ?_).mono ?_; (rw [← GG.out.2.1]; exact (HeldP.fin (by assumption)).ops.s1); exact (HeldP.fin (by assumption)).l1; rintro e w9 ⟨rfl, hbn⟩)
      | (go_at_call_of 13 (Value.slice ua2 (isR (errPolys p n o v [f, g]) (colL p o (prodL p f g))).length uc2); rw [GG.out.2.2.1]; refine (polyIs_any _ _ Y (errPolys p n o v [f, g]) _ (fun h => (GG.out.2.2.2.2 h).2) ?_ ?_).mono ?_; (rw [← GG.out.2.2.2.1]; exact (HeldP.fin (by assumption)).ops.s2); exact (HeldP.fin (by assumption)).l2; rintro e w9 ⟨rfl, hbn⟩))
  all_goals
    have HF := hid (HeldP.fin (by assumption) : FinP w _ (.slice a1 f.length k1) (.slice a2 g.length k2) (.slice ua1 (isR (errPolys p n o v [f, g]) (colL p o (f ++ g))).length uc1) (.slice ua2 (isR (errPolys p n o v [f, g]) (colL p o (prodL p f g))).length uc2) (.slice ta1 X.length tc1) (.slice ta2 Y.length tc2) f g X Y p n o v)
    go_wp2
    go_ret
    exact ⟨rfl, HF.out.ops.below⟩
end Go.Proofs.YtilogbggilchaaaDoor
