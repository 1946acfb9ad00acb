/- VectorOps: what its walk needs. -/
import Derived.Test.YtilogbggilchaaaYC
import Derived.Test.YtilogbggilchaaaYE
import Derived.Test.YtilogbggilchaaaWM
import Derived.Test.YtilogbggilchaaaWO
namespace Go.Proofs.Ytilogbggilchaaa
set_option linter.unusedSimpArgs false
set_option linter.unusedVariables false
open Go.RowKit
structure OpsV (w w' : World) (x y z s m : Value) (g1 : Nat) (c1 : Int) (e1v : Value) (e1 : List Int) (f : List Tm) (fss gss S M : List (List Tm)) (p n o v : Int) : Prop where
  below : Below w.heap.size w w'
  box : BoxAt w' w.heap.size p n o v
  pf : Pl w' x f
  pv : Vl w' y fss
  pw : Vl w' z gss
  s1 : Vl w' s S
  s2 : Vl w' m M
  t0 : w'.cell? ⟨g1, 0, none⟩ = some (.int .i64 c1)
  t1 : w'.cell? ⟨g1, 1, none⟩ = some e1v
  ts : Sl w' e1v e1
theorem OpsV.next {w w' w2 : World} {x y z s m : Value} {g1 : Nat} {c1 : Int} {e1v : Value} {e1 : List Int} {f : List Tm} {fss gss S M : List (List Tm)} {p n o v : Int} (h : OpsV w w' x y z s m g1 c1 e1v e1 f fss gss S M p n o v) (hb : Below w'.heap.size w' w2) : OpsV w w2 x y z s m g1 c1 e1v e1 f fss gss S M p n o v :=
  ⟨h.below.trans (hb.mono h.below.size), h.box.below hb, h.pf.below hb, h.pv.below hb, h.pw.below hb, h.s1.below hb, h.s2.below hb, cell_keep h.t0 hb, cell_keep h.t1 hb, h.ts.below hb⟩
abbrev HeldV (w w' : World) (x y z s m : Value) (g1 : Nat) (c1 : Int) (e1v : Value) (e1 : List Int) (f : List Tm) (fss gss S M : List (List Tm)) (p n o v : Int) : Prop :=
  w'.cell? ⟨w.heap.size, 0, none⟩ = some (.int .i64 p) ∧ w'.cell? ⟨w.heap.size, 1, none⟩ = some (.int .i64 n) ∧ w'.cell? ⟨w.heap.size, 2, none⟩ = some (.int .i64 o) ∧ w'.cell? ⟨w.heap.size, 3, none⟩ = some (.int .i64 v) ∧ Hid (OpsV w w' x y z s m g1 c1 e1v e1 f fss gss S M p n o v)
theorem OpsV.held {w w' : World} {x y z s m : Value} {g1 : Nat} {c1 : Int} {e1v : Value} {e1 : List Int} {f : List Tm} {fss gss S M : List (List Tm)} {p n o v : Int} (h : OpsV w w' x y z s m g1 c1 e1v e1 f fss gss S M p n o v) : HeldV w w' x y z s m g1 c1 e1v e1 f fss gss S M p n o v :=
  ⟨h.box.2.1, h.box.2.2.1, h.box.2.2.2.1, h.box.2.2.2.2, h⟩
theorem HeldV.ops {w w' : World} {x y z s m : Value} {g1 : Nat} {c1 : Int} {e1v : Value} {e1 : List Int} {f : List Tm} {fss gss S M : List (List Tm)} {p n o v : Int} (h : HeldV w w' x y z s m g1 c1 e1v e1 f fss gss S M p n o v) : OpsV w w' x y z s m g1 c1 e1v e1 f fss gss S M p n o v := h.2.2.2.2
theorem HeldV.next {w w' w2 : World} {x y z s m : Value} {g1 : Nat} {c1 : Int} {e1v : Value} {e1 : List Int} {f : List Tm} {fss gss S M : List (List Tm)} {p n o v : Int} (h : HeldV w w' x y z s m g1 c1 e1v e1 f fss gss S M p n o v) (hb : Below w'.heap.size w' w2) : HeldV w w2 x y z s m g1 c1 e1v e1 f fss gss S M p n o v := (h.ops.next hb).held
structure LdB (wb w' : World) (c : Int) (u : Value) : Prop where
  below : Below wb.heap.size wb w'
  own : w'.ownsRow wb.heap.size 34 2 (.slice (some ⟨wb.heap.size, 0, none⟩) 1 1) 1 [.int .i64 c, u]
theorem LdB.next {wb w' w2 : World} {c : Int} {u : Value} (h : LdB wb w' c u) (hb : Below w'.heap.size w' w2) : LdB wb w2 c u := ⟨h.below.trans (hb.mono h.below.size), ownBlock_lt h.own hb⟩
theorem LdB.lt {wb w' : World} {c : Int} {u : Value} (h : LdB wb w' c u) : wb.heap.size < w'.heap.size := (World.ownsRow.lt h.own wb.heap.size rfl).2
theorem LdB.cells {wb w' : World} {c : Int} {u : Value} (h : LdB wb w' c u) : w'.cell? ⟨wb.heap.size, 0, none⟩ = some (.int .i64 c) ∧ w'.cell? ⟨wb.heap.size, 1, none⟩ = some u ∧ w'.frozen? ⟨wb.heap.size, 0, none⟩ = false ∧ w'.frozen? ⟨wb.heap.size, 1, none⟩ = false :=
  ⟨h.own.cellAt 0 (by omega), h.own.cellAt 1 (by omega), h.own.frozenAt 0, h.own.frozenAt 1⟩
theorem LdB.put {wb w' : World} {c : Int} {u : Value} (h : LdB wb w' c u) (c2 : Int) (u2 : Value) : LdB wb ((w'.setCell ⟨wb.heap.size, 0, none⟩ (.int .i64 c2)).setCell ⟨wb.heap.size, 1, none⟩ u2) c2 u2 ∧ w'.grownBy ((w'.setCell ⟨wb.heap.size, 0, none⟩ (.int .i64 c2)).setCell ⟨wb.heap.size, 1, none⟩ u2) (some wb.heap.size) := by
  have s1 := h.own.stored 0 (.int .i64 c2)
  have s2 := s1.1.stored 1 u2
  have g := grown_trans s1.2 s2.2
  exact ⟨⟨h.below.trans (grown_below g (Nat.le_refl _) h.below.size), s2.1⟩, g⟩
structure FinV (w w' : World) (x y z s m t1 t2 : Value) (g1 g2 : Nat) (c1 : Int) (e1v e2v : Value) (e1 : List Int) (f : List Tm) (fss gss S M SX MX : List (List Tm)) (p n o v : Int) : Prop where
  ops : OpsV w w' x y z s m g1 c1 e1v e1 f fss gss S M p n o v
  k0 : w'.cell? ⟨g2, 0, none⟩ = some (.int .i64 c1)
  k1 : w'.cell? ⟨g2, 1, none⟩ = some e2v
  ls : Sl w' e2v e1
  l1 : Vl w' t1 SX
  l2 : Vl w' t2 MX
theorem FinV.next {w2 : World} {w w' : World} {x y z s m t1 t2 : Value} {g1 g2 : Nat} {c1 : Int} {e1v e2v : Value} {e1 : List Int} {f : List Tm} {fss gss S M SX MX : List (List Tm)} {p n o v : Int} (h : FinV w w' x y z s m t1 t2 g1 g2 c1 e1v e2v e1 f fss gss S M SX MX p n o v) (hb : Below w'.heap.size w' w2) : FinV w w2 x y z s m t1 t2 g1 g2 c1 e1v e2v e1 f fss gss S M SX MX p n o v :=
  ⟨h.ops.next hb, cell_keep h.k0 hb, cell_keep h.k1 hb, h.ls.below hb, h.l1.below hb, h.l2.below hb⟩
abbrev HeldF (w w' : World) (x y z s m t1 t2 : Value) (g1 g2 : Nat) (c1 : Int) (e1v e2v : Value) (e1 : List Int) (f : List Tm) (fss gss S M SX MX : List (List Tm)) (p n o v : Int) : Prop :=
  w'.cell? ⟨w.heap.size, 0, none⟩ = some (.int .i64 p) ∧ w'.cell? ⟨w.heap.size, 1, none⟩ = some (.int .i64 n) ∧ w'.cell? ⟨w.heap.size, 2, none⟩ = some (.int .i64 o) ∧ w'.cell? ⟨w.heap.size, 3, none⟩ = some (.int .i64 v) ∧ w'.cell? ⟨g1, 0, none⟩ = some (.int .i64 c1) ∧ w'.cell? ⟨g1, 1, none⟩ = some e1v ∧ w'.cell? ⟨g2, 0, none⟩ = some (.int .i64 c1) ∧ w'.cell? ⟨g2, 1, none⟩ = some e2v ∧ Hid (FinV w w' x y z s m t1 t2 g1 g2 c1 e1v e2v e1 f fss gss S M SX MX p n o v)
theorem FinV.held {w w' : World} {x y z s m t1 t2 : Value} {g1 g2 : Nat} {c1 : Int} {e1v e2v : Value} {e1 : List Int} {f : List Tm} {fss gss S M SX MX : List (List Tm)} {p n o v : Int} (h : FinV w w' x y z s m t1 t2 g1 g2 c1 e1v e2v e1 f fss gss S M SX MX p n o v) : HeldF w w' x y z s m t1 t2 g1 g2 c1 e1v e2v e1 f fss gss S M SX MX p n o v := ⟨h.ops.box.2.1, h.ops.box.2.2.1, h.ops.box.2.2.2.1, h.ops.box.2.2.2.2, h.ops.t0, h.ops.t1, h.k0, h.k1, h⟩
theorem HeldF.fin {w w' : World} {x y z s m t1 t2 : Value} {g1 g2 : Nat} {c1 : Int} {e1v e2v : Value} {e1 : List Int} {f : List Tm} {fss gss S M SX MX : List (List Tm)} {p n o v : Int} (h : HeldF w w' x y z s m t1 t2 g1 g2 c1 e1v e2v e1 f fss gss S M SX MX p n o v) : FinV w w' x y z s m t1 t2 g1 g2 c1 e1v e2v e1 f fss gss S M SX MX p n o v := h.2.2.2.2.2.2.2.2
theorem HeldF.next {w2 : World} {w w' : World} {x y z s m t1 t2 : Value} {g1 g2 : Nat} {c1 : Int} {e1v e2v : Value} {e1 : List Int} {f : List Tm} {fss gss S M SX MX : List (List Tm)} {p n o v : Int} (h : HeldF w w' x y z s m t1 t2 g1 g2 c1 e1v e2v e1 f fss gss S M SX MX p n o v) (hb : Below w'.heap.size w' w2) : HeldF w w2 x y z s m t1 t2 g1 g2 c1 e1v e2v e1 f fss gss S M SX MX p n o v := (h.fin.next hb).held
theorem sameInts_same (le : List Int) (x y : Value) (w : World) (hm : le.length ≤ 3) (h1 : Sl w x le) (h2 : Sl w y le) : Calls Try.prog 17 #[x, y] w fun e w' => e = .returned (.bool true) ∧ Below w.heap.size w w' :=
  (sameInts_any x y le le w hm h1 h2).mono fun e w' ⟨he, n, hw⟩ => ⟨by rw [he]; simp [sameB], by rw [hw]; exact below_drewN (Below.refl _ _) n⟩
theorem tokR {p o : Int} {N : Nat} {f : List Tm} (h : Right p o N f) : ∀ t ∈ f, Tok p N t := fun t ht => ⟨h.canon.len t ht, h.bd.bd t ht, by have := h.canon.coef t ht; omega, (h.canon.coef t ht).2⟩
theorem okp_col {p o : Int} {N : Nat} {l : List Tm} (h0 : 0 < N) (h3 : N ≤ 3) (hl : l.length ≤ 4000000) (h : ∀ t ∈ l, Tok p N t) : OkP (colL p o l) := by
  refine ⟨by have := col_len (p := p) (o := o) l; omega, fun t ht => ?_⟩
  obtain ⟨y, hy, e⟩ := col_mem ht
  have := h y hy
  rw [e, this.1]
  exact ⟨h0, h3, this.2.1⟩
theorem sum_good {p n o v : Int} {fss gss : List (List Tm)} (h : errAlike p n o v [fss, gss] = 0) : (2 ≤ p ∧ p ≤ 101) ∧ (o = 1 ∨ o = 2) ∧ 0 < n.toNat ∧ n.toNat ≤ 3 ∧ fss.length = gss.length ∧ fss.length ≤ 1000 ∧ (∀ f ∈ fss, Sm p n.toNat f) ∧ (∀ f ∈ gss, Sm p n.toNat f) ∧ (∀ f ∈ fss, ∀ t ∈ f, 0 < t.2.length) ∧ (∀ f ∈ gss, ∀ t ∈ f, 0 < t.2.length) ∧ (sums p o fss gss).length ≤ 1000 ∧ ∀ f ∈ sums p o fss gss, OkP f := by
  obtain ⟨hR, hall⟩ := alike_ok h
  obtain ⟨h1, _, h3⟩ := hall fss (by simp)
  obtain ⟨_, k2, k3⟩ := hall gss (by simp)
  obtain ⟨hpr, hn1, hn2, ho, _⟩ := ring_ok hR
  have e : fss.length = gss.length := by rw [k2]; rfl
  have rf : ∀ f ∈ fss, Right p o n.toNat f := fun f hf => (right_of hR (h3 f hf)).1
  have rg : ∀ f ∈ gss, Right p o n.toNat f := fun f hf => (right_of hR (k3 f hf)).1
  have hN0 : 0 < n.toNat := by omega
  have hN3 : n.toNat ≤ 3 := by omega
  refine ⟨errP_bd hpr, ho, hN0, hN3, e, by omega, fun f hf => ⟨tokR (rf f hf), by have := (rf f hf).len; omega⟩, fun f hf => ⟨tokR (rg f hf), by have := (rg f hf).len; omega⟩, fun f hf t ht => by rw [(rf f hf).canon.len t ht]; exact hN0, fun f hf t ht => by rw [(rg f hf).canon.len t ht]; exact hN0, by rw [sums_len e]; omega, fun f hf => ?_⟩
  obtain ⟨k, hk, rfl⟩ := List.getElem_of_mem hf
  have hk2 : k < fss.length := by rw [sums_len e] at hk; exact hk
  have e2 : (sums p o fss gss)[k] = colL p o (fss.getD k [] ++ gss.getD k []) := by
    rw [← sums_at e hk2, List.getD_eq_getElem?_getD, List.getElem?_eq_getElem hk]; rfl
  rw [e2]
  have r1 := rf _ (getD_memL fss k hk2)
  have r2 := rg _ (getD_memL gss k (by omega))
  exact okp_col hN0 hN3 (by have a1 := r1.len; have a2 := r2.len; rw [List.length_append]; omega) (fun t ht => (List.mem_append.1 ht).elim (tokR r1 t) (tokR r2 t))
theorem lead_good {p n o v : Int} {fss : List (List Tm)} (h : errAlike p n o v [fss] = 0) : (2 ≤ p ∧ p ≤ 101) ∧ (o = 1 ∨ o = 2) ∧ (v = 1 ∨ v = 2) ∧ 0 < n.toNat ∧ n.toNat ≤ 3 ∧ fss.length ≤ 1000 ∧ ∀ f ∈ fss, Right p o n.toNat f := by
  obtain ⟨hR, hall⟩ := alike_ok h
  obtain ⟨h1, _, h3⟩ := hall fss (by simp)
  obtain ⟨hpr, hn1, hn2, ho, hv⟩ := ring_ok hR
  exact ⟨errP_bd hpr, ho, hv, by omega, by omega, by omega, fun f hf => (right_of hR (h3 f hf)).1⟩
theorem prod_good {p n o v : Int} {f : List Tm} {fss : List (List Tm)} (hf : errPolys p n o v [f] = 0) (h : errAlike p n o v [fss] = 0) : Right p o n.toNat f ∧ (prods p o f fss).length ≤ 1000 ∧ ∀ g ∈ prods p o f fss, OkP g := by
  obtain ⟨hp, ho, hv, hN0, hN3, h40, hr⟩ := lead_good h
  have hR := (errPolys_ok hf).1
  have rf := (right_of hR ((errPolys_ok hf).2 f (by simp))).1
  refine ⟨rf, by unfold prods; rw [List.length_map]; exact h40, fun g hg => ?_⟩
  unfold prods at hg
  obtain ⟨q, hq, rfl⟩ := List.mem_map.1 hg
  have rq := hr q hq
  exact okp_col hN0 hN3 (by rw [prodL_len]; exact Nat.le_trans (Nat.mul_le_mul rf.len rq.len) (by decide)) (prodL_tok hp.1 rf.canon.len rq.canon.len rf.bd rq.bd)
theorem vectorIs_if (E : Int) (S0 : List (List Tm)) (hk : E = 0 → S0.length ≤ 1000 ∧ ∀ f ∈ S0, OkP f) (W : World) (a b : Value) (h1 : Vl W a (visR E S0)) (h2 : Vl W b (if E = 0 then S0 else [])) :
    Calls Try.prog 16 #[a, .int .i64 (visE E S0), .int .i64 E, b] W fun e w' => e = .returned (.bool true) ∧ Below W.heap.size W w' := by
  by_cases h : E = 0
  · rw [if_pos h] at h2
    exact vectorIs_any a b S0 E W hk h1 h2
  · rw [if_neg h] at h2
    have e1 : ∀ S, visE E S = E := fun S => by unfold visE; rw [if_pos h]
    have e2 : ∀ S, visR E S = [] := fun S => by unfold visR; rw [e1, if_neg h]
    have := vectorIs_any a b [] E W (fun h3 => absurd h3 h) (by rw [e2]; rw [e2] at h1; exact h1) h2
    rw [e1] at this ⊢
    exact this
theorem lead_parts (o v Z : Int) (fss : List (List Tm)) : (Z = 0 → ldC (leadS Z (leadF o v fss fss.length)) = ldC (leadF o v fss fss.length) ∧ ldE (leadS Z (leadF o v fss fss.length)) = ldE (leadF o v fss fss.length) ∧
      ((plc (leadF o v fss fss.length) < 0 ∧ ldP (leadS Z (leadF o v fss fss.length)) = 0 ∧ leadE Z (leadF o v fss fss.length) = 5) ∨ (0 ≤ plc (leadF o v fss fss.length) ∧ ldP (leadS Z (leadF o v fss fss.length)) = plc (leadF o v fss fss.length) ∧ leadE Z (leadF o v fss fss.length) = 0))) ∧
    (Z ≠ 0 → ldC (leadS Z (leadF o v fss fss.length)) = 0 ∧ ldE (leadS Z (leadF o v fss fss.length)) = [] ∧ ldP (leadS Z (leadF o v fss fss.length)) = 0 ∧ leadE Z (leadF o v fss fss.length) = Z) := by
  generalize leadF o v fss fss.length = L
  refine ⟨fun h => ?_, fun h => ?_⟩
  · subst h
    have e : leadS 0 L = L := by unfold leadS; rw [if_pos rfl]
    rw [e]
    refine ⟨rfl, rfl, ?_⟩
    cases L with
    | none => exact Or.inl ⟨by decide, rfl, rfl⟩
    | some q =>
      obtain ⟨j, u⟩ := q
      exact Or.inr ⟨by rw [plc_some]; omega, by rw [plc_some]; rfl, rfl⟩
  · have e : leadS Z L = none := by unfold leadS; rw [if_neg h]
    rw [e]
    exact ⟨rfl, rfl, rfl, by unfold leadE; rw [if_pos h]⟩
theorem lead_len3 {p n o v : Int} {fss : List (List Tm)} : (ldE (leadS (errAlike p n o v [fss]) (leadF o v fss fss.length))).length ≤ 3 := by
  by_cases h : errAlike p n o v [fss] = 0
  · obtain ⟨hp, ho, hv, hN0, hN3, h40, hr⟩ := lead_good h
    have e : ∀ L, leadS (errAlike p n o v [fss]) L = L := fun L => by unfold leadS; rw [if_pos h]
    rw [e]
    cases hL : leadF o v fss fss.length with
    | none => exact Nat.zero_le _
    | some q =>
      obtain ⟨j, u⟩ := q
      obtain ⟨h1, us, h2⟩ := leadF_at hL
      have r := hr _ (getD_memL fss j h1)
      rw [h2] at r
      show u.2.length ≤ 3
      rw [r.canon.len u (by simp)]; exact hN3
  · have e : ∀ L, leadS (errAlike p n o v [fss]) L = none := fun L => by unfold leadS; rw [if_neg h]
    rw [e]; exact Nat.zero_le _
end Go.Proofs.Ytilogbggilchaaa
