/- polyIs; PolyOps, walked. -/
import Derived.Test.YtilogbggilchaaaDoorPX
import Derived.Test.YtilogbggilchaaaDoorTM
import Derived.Deep.DeepCutAuto
namespace Go.Proofs.YtilogbggilchaaaDoor
set_option linter.unusedSimpArgs false
set_option linter.unusedVariables false
open Go.RowKit
def isE (E : Int) (ws : List Tm) : Int := if E ≠ 0 then E else if greatB ws then 2 else 0
def isR (E : Int) (ws : List Tm) : List Tm := if isE E ws = 0 then ws else []
def Okw (ws : List Tm) : Prop := ws.length ≤ 8000000 ∧ ∀ t ∈ ws, 0 < t.2.length ∧ t.2.length ≤ 3 ∧ ∀ x ∈ t.2, 0 ≤ x ∧ x ≤ 400

set_option maxRecDepth 100000 in
set_option maxHeartbeats 1000000 in
theorem polyIs_any (x y : Value) (ws : List Tm) (E : Int) (w : World) (hk : E = 0 → Okw ws) (pf : Pl w x (isR E ws)) (pg : Pl w y ws) :
    Calls Tryd.prog 13 #[x, .int .i64 (isE E ws), .int .i64 E, y] w fun e w' => e = .returned (.bool true) ∧ Below w.heap.size w w' := by
  have HQ := hid pg
  cases hE : (E != 0)
  · have hE0 : E = 0 := by simpa using hE
    subst hE0
    obtain ⟨hlen, hall⟩ := hk rfl
    have HALL := hid hall
    have HL3 := hid (fun t ht => (hall t ht).2.1)
    clear hk hE hall
    cases hg : greatB ws
    · have he : isE 0 ws = 0 := by unfold isE; simp [hg]
      have hr : isR 0 ws = ws := by unfold isR; rw [if_pos he]
      rw [hr] at pf
      rw [he]
      have HP := hid pf
      obtain ⟨a, c, rfl, _, _⟩ := pf
      obtain ⟨a2, c2, rfl, _, _⟩ := pg
      clear he hr
      go_enter Tryd.func13, Tryd.ntmps13
      go_wp2_with (first
        | (go_at_call 33; refine (great_any _ ws _ hlen HALL.out HQ.out).mono ?_; rw [hg]; rintro e w1 ⟨rfl, rfl⟩)
        | (go_at_call 22; refine (samePoly_any _ _ ws ws _ hlen HL3.out HP.out HQ.out).mono ?_; rw [decide_eq_true rfl]; rintro e w1 ⟨rfl, hb1⟩; have HB1 := hid hb1; clear hb1))
      go_ret
      exact ⟨rfl, HB1.out⟩
    · have he : isE 0 ws = 2 := by unfold isE; simp [hg]
      have hr : isR 0 ws = [] := by unfold isR; rw [he, if_neg (by omega)]
      rw [hr] at pf
      rw [he]
      have HP := hid pf
      obtain ⟨a, c, rfl, _, _⟩ := pf
      obtain ⟨a2, c2, rfl, _, _⟩ := pg
      clear he hr
      go_enter Tryd.func13, Tryd.ntmps13
      go_wp2_with (first
        | (go_at_call 33; refine (great_any _ ws _ hlen HALL.out HQ.out).mono ?_; rw [hg]; rintro e w1 ⟨rfl, rfl⟩)
        | (go_at_call 22; refine (samePoly_any _ _ [] [] _ (by simp) (fun t ht => by simp at ht) HP.out (Pl.empty _)).mono ?_; rw [decide_eq_true rfl]; rintro e w1 ⟨rfl, hb1⟩; have HB1 := hid hb1; clear hb1))
      go_ret
      exact ⟨rfl, HB1.out⟩
  · have hE0 : E ≠ 0 := by simpa using hE
    have he : isE E ws = E := by unfold isE; rw [if_pos hE0]
    have hr : isR E ws = [] := by unfold isR; rw [he, if_neg hE0]
    have hE1 : (E == 0) = false := by simpa using hE0
    rw [hr] at pf
    rw [he]
    have HP := hid pf
    obtain ⟨a, c, rfl, _, _⟩ := pf
    obtain ⟨a2, c2, rfl, _, _⟩ := pg
    clear he hr hk hE0
    go_enter Tryd.func13, Tryd.ntmps13
    go_wp2_with (first
      | (go_at_call 22; refine (samePoly_any _ _ [] [] _ (by simp) (fun t ht => by simp at ht) HP.out (Pl.empty _)).mono ?_; rw [decide_eq_true rfl]; rintro e w1 ⟨rfl, hb1⟩; have HB1 := hid hb1; clear hb1))
    go_ret
    exact ⟨rfl, HB1.out⟩

theorem okw_col {p o : Int} {N : Nat} {l : List Tm} (h0 : 0 < N) (h3 : N ≤ 3) (hl : l.length ≤ 4000000) (h : ∀ t ∈ l, Tok p N t) : Okw (colL p o l) := by
  refine ⟨by have := col_len (p := p) (o := o) l; omega, fun t ht => ?_⟩
  obtain ⟨y, hy, e⟩ := col_mem ht
  have := h y hy
  rw [e, this.1]
  exact ⟨h0, h3, this.2.1⟩
structure OpsP (w w' : World) (x y u1 u2 : Value) (f g : List Tm) (p n o v : Int) : Prop where
  below : Below w.heap.size w w'
  box : BoxAt w' w.heap.size p n o v
  pf : Pl w' x f
  pg : Pl w' y g
  s1 : Pl w' u1 (isR (errPolys p n o v [f, g]) (colL p o (f ++ g)))
  s2 : Pl w' u2 (isR (errPolys p n o v [f, g]) (colL p o (prodL p f g)))
theorem OpsP.next {w w' w2 : World} {x y u1 u2 : Value} {f g : List Tm} {p n o v : Int} (h : OpsP w w' x y u1 u2 f g p n o v) (hb : Below w'.heap.size w' w2) : OpsP w w2 x y u1 u2 f g p n o v :=
  ⟨h.below.trans (hb.mono h.below.size), h.box.below hb, h.pf.below hb, h.pg.below hb, h.s1.below hb, h.s2.below hb⟩
structure FinP (w w' : World) (x y u1 u2 t1 t2 : Value) (f g X Y : List Tm) (p n o v : Int) : Prop where
  ops : OpsP w w' x y u1 u2 f g p n o v
  l1 : Pl w' t1 X
  l2 : Pl w' t2 Y
theorem FinP.next {w w' w2 : World} {x y u1 u2 t1 t2 : Value} {f g X Y : List Tm} {p n o v : Int} (h : FinP w w' x y u1 u2 t1 t2 f g X Y p n o v) (hb : Below w'.heap.size w' w2) : FinP w w2 x y u1 u2 t1 t2 f g X Y p n o v :=
  ⟨h.ops.next hb, h.l1.below hb, h.l2.below hb⟩
abbrev HeldP (w w' : World) (x y u1 u2 t1 t2 : Value) (f g X Y : List Tm) (p n o v : Int) : Prop :=
  w'.cell? ⟨w.heap.size, 0, none⟩ = some (.int .i64 p) ∧ w'.cell? ⟨w.heap.size, 1, none⟩ = some (.int .i64 n) ∧ w'.cell? ⟨w.heap.size, 2, none⟩ = some (.int .i64 o) ∧ w'.cell? ⟨w.heap.size, 3, none⟩ = some (.int .i64 v) ∧ Hid (FinP w w' x y u1 u2 t1 t2 f g X Y p n o v)
theorem FinP.held {w w' : World} {x y u1 u2 t1 t2 : Value} {f g X Y : List Tm} {p n o v : Int} (h : FinP w w' x y u1 u2 t1 t2 f g X Y p n o v) : HeldP w w' x y u1 u2 t1 t2 f g X Y p n o v :=
  ⟨h.ops.box.2.1, h.ops.box.2.2.1, h.ops.box.2.2.2.1, h.ops.box.2.2.2.2, h⟩
theorem HeldP.fin {w w' : World} {x y u1 u2 t1 t2 : Value} {f g X Y : List Tm} {p n o v : Int} (h : HeldP w w' x y u1 u2 t1 t2 f g X Y p n o v) : FinP w w' x y u1 u2 t1 t2 f g X Y p n o v := h.2.2.2.2
theorem HeldP.next {w w' w2 : World} {x y u1 u2 t1 t2 : Value} {f g X Y : List Tm} {p n o v : Int} (h : HeldP w w' x y u1 u2 t1 t2 f g X Y p n o v) (hb : Below w'.heap.size w' w2) : HeldP w w2 x y u1 u2 t1 t2 f g X Y p n o v :=
  (h.fin.next hb).held
end Go.Proofs.YtilogbggilchaaaDoor
