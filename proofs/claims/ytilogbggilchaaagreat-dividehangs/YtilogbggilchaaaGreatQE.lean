/- Quotients, and what is left, in memory. -/
import Derived.Test.YtilogbggilchaaaGreatQC
import Derived.Test.YtilogbggilchaaaGreatWH
namespace Go.Proofs.YtilogbggilchaaaGreat
set_option linter.unusedSimpArgs false
set_option linter.unusedVariables false
open Go.RowKit
def upd {α : Type} (f : Bool → α) (s : Bool) (x : α) : Bool → α := fun s' => if s' = s then x else f s'
theorem upd_same {α : Type} (f : Bool → α) (s : Bool) (x : α) : upd f s x s = x := by simp [upd]
theorem upd_ne {α : Type} (f : Bool → α) {s s' : Bool} (x : α) (h : s' ≠ s) : upd f s x s' = f s' := by simp [upd, h]
structure QW (B N : Nat) (w : World) (rv : Bool → Value) (us : Bool → List Value) (tss : Bool → List (List TV)) : Prop where
  len : ∀ s, (us s).length = (tss s).length
  own : ∀ s, w.ownsRow B 54 1 (rv s) (tss s).length (us s)
  kind : ∀ s g, (rv s).ownBlock = some g → SlK w g
  pol : ∀ s i, i < (tss s).length → PolW B N w ((us s).getD i nilV) ((tss s).getD i [])
  rap : ∀ g, (rv true).ownBlock = some g → (rv false).ownBlock ≠ some g
  sap : ∀ s i s' j, i < (tss s).length → j < (tss s').length → ¬ (s = s' ∧ i = j) → ∀ g, ((us s).getD i nilV).ownBlock = some g → ((us s').getD j nilV).ownBlock ≠ some g
  lens : ∀ s i, ∀ t ∈ (tss s).getD i [], t.2.2.length = N
theorem QW.rne {B N : Nat} {w : World} {rv : Bool → Value} {us : Bool → List Value} {tss : Bool → List (List TV)} (h : QW B N w rv us tss) {s s' : Bool} (hs : s ≠ s') : ∀ g, (rv s).ownBlock = some g → (rv s').ownBlock ≠ some g := by
  intro g hg e
  cases s <;> cases s'
  · exact hs rfl
  · exact h.rap g e hg
  · exact h.rap g hg e
  · exact hs rfl
theorem QW.frm {B N : Nat} {S : Nat → Prop} {w w' : World} {rv : Bool → Value} {us : Bool → List Value} {tss : Bool → List (List TV)} (h : QW B N w rv us tss) (hf : Frm S w w') (hp : ∀ g, S g → NTy w 54 g) (ht : ∀ g, S g → NTy w 57 g) (hi : ∀ g, S g → NTy w 3 g) : QW B N w' rv us tss := by
  have hrow : ∀ s g, (rv s).ownBlock = some g → ¬ S g := fun s g hg hs => by
    obtain ⟨cur, e⟩ := own_ty (h.own s) hg
    exact hp g hs cur e
  refine ⟨h.len, fun s => hf.own (h.own s) (hrow s), fun s g hg => hf.kdb (h.kind s g hg) (World.ownsRow.lt (h.own s) g hg).2 (hrow s g hg), fun s i hl => (h.pol s i hl).frm hf (fun g hg hs => ?_) hi, h.rap, h.sap, h.lens⟩
  obtain ⟨cur, e⟩ := own_ty (h.pol s i hl).own hg
  exact ht g hs cur e
theorem QW.next {B N : Nat} {w w' : World} {rv : Bool → Value} {us : Bool → List Value} {tss : Bool → List (List TV)} (h : QW B N w rv us tss) (hb : Below w.heap.size w w') : QW B N w' rv us tss :=
  h.frm (S := fun _ => False) (Frm.of_below hb) (fun _ h => h.elim) (fun _ h => h.elim) fun _ h => h.elim
theorem QW.grow {B N : Nat} {w w' : World} {rv : Bool → Value} {us : Bool → List Value} {tss : Bool → List (List TV)} (h : QW B N w rv us tss) {s : Bool} {fb b i n rc : Nat} {f0 f : Bool} {t : Ft} {ev v : Value} (hi : i < (tss s).length) (hv : rv s = .slice (some ⟨b, 0, none⟩) n rc) (hn : n = (tss s).length) (hx : (exs N t).length = N)
    (hfb : w.ownsRow B 4 1 (.slice (some ⟨fb, 0, none⟩) 1 1) 1 [.bool f0]) (hg : GrW B N w w' fb b i n rc (us s) ((tss s).getD i []) f t ev v) :
    QW B N w' rv (upd us s ((us s).set i v)) (upd tss s ((tss s).set i ((tss s).getD i [] ++ [(t.c, ev, exs N t)]))) := by
  subst hn
  have hbs : (rv s).ownBlock = some b := by rw [hv]; rfl
  have hb := h.own s
  have hS : ∀ g, (g = b ∨ ((us s).getD i nilV).ownBlock = some g ∨ g = fb) → NTy w 3 g := fun g hgS => by
    rcases hgS with rfl | e | rfl
    · exact own_nty hb hbs (by decide)
    · exact own_nty (h.pol s i hi).own e (by decide)
    · exact own_nty hfb rfl (by decide)
  have hrow : ∀ s', s' ≠ s → ∀ g, (rv s').ownBlock = some g → ¬ (g = b ∨ ((us s).getD i nilV).ownBlock = some g ∨ g = fb) := fun s' hs' g hg2 hgS => by
    obtain ⟨cur, e⟩ := own_ty (h.own s') hg2
    rcases hgS with rfl | e2 | rfl
    · exact h.rne hs' g hg2 hbs
    · exact own_nty (h.pol s i hi).own e2 (by decide) cur e
    · exact own_nty hfb rfl (by decide) cur e
  have hpol : ∀ s' j, j < (tss s').length → ¬ (s = s' ∧ i = j) → PolW B N w' ((us s').getD j nilV) ((tss s').getD j []) := fun s' j hj hne =>
    (h.pol s' j hj).frm hg.frm (fun g hg2 hgS => by
      obtain ⟨cur, e⟩ := own_ty (h.pol s' j hj).own hg2
      rcases hgS with rfl | e2 | rfl
      · exact own_nty hb hbs (by decide) cur e
      · exact h.sap s i s' j hi hj hne g e2 hg2
      · exact own_nty hfb rfl (by decide) cur e) hS
  have hlt : ∀ s' j, j < (tss s').length → ∀ g, ((us s').getD j nilV).ownBlock = some g → g < w.heap.size := fun s' j hj g hg2 => (World.ownsRow.lt (h.pol s' j hj).own g hg2).2
  have hul : ∀ s' j, (upd us s ((us s).set i v) s').getD j nilV = if s' = s ∧ i = j ∧ j < (us s).length then v else (us s').getD j nilV := fun s' j => by
    by_cases e : s' = s
    · subst e; rw [upd_same, getD_set]
      by_cases e2 : i = j ∧ j < (us s').length
      · rw [if_pos e2, if_pos ⟨rfl, e2⟩]
      · rw [if_neg e2, if_neg fun h => e2 h.2]
    · rw [upd_ne _ _ e, if_neg fun h => e h.1]
  have htl : ∀ s' j, (upd tss s ((tss s).set i ((tss s).getD i [] ++ [(t.c, ev, exs N t)])) s').getD j [] = if s' = s ∧ i = j ∧ j < (tss s).length then (tss s).getD i [] ++ [(t.c, ev, exs N t)] else (tss s').getD j [] := fun s' j => by
    by_cases e : s' = s
    · subst e; rw [upd_same, getD_set]
      by_cases e2 : i = j ∧ j < (tss s').length
      · rw [if_pos e2, if_pos ⟨rfl, e2⟩]
      · rw [if_neg e2, if_neg fun h => e2 h.2]
    · rw [upd_ne _ _ e, if_neg fun h => e h.1]
  have hlen : ∀ s', (upd tss s ((tss s).set i ((tss s).getD i [] ++ [(t.c, ev, exs N t)])) s').length = (tss s').length := fun s' => by
    by_cases e : s' = s
    · subst e; rw [upd_same, List.length_set]
    · rw [upd_ne _ _ e]
  refine ⟨fun s' => ?_, fun s' => ?_, fun s' g hg2 => ?_, fun s' j hj => ?_, h.rap, fun s1 i1 s2 j2 h1 h2 hne g e1 => ?_, fun s' j x hx2 => ?_⟩
  · rw [hlen]
    by_cases e : s' = s
    · subst e; rw [upd_same, List.length_set]; exact h.len s'
    · rw [upd_ne _ _ e]; exact h.len s'
  · rw [hlen]
    by_cases e : s' = s
    · subst e; rw [upd_same, hv]; exact hg.row
    · rw [upd_ne _ _ e]; exact hg.frm.own (h.own s') (hrow s' e)
  · by_cases e : s' = s
    · subst e
      rw [hbs] at hg2
      simp only [Option.some.injEq] at hg2
      subst hg2; exact hg.kind
    · exact hg.frm.kdb (h.kind s' g hg2) (World.ownsRow.lt (h.own s') g hg2).2 (hrow s' e g hg2)
  · rw [hlen] at hj
    rw [hul, htl, h.len]
    by_cases e : s' = s ∧ i = j ∧ j < (tss s).length
    · rw [if_pos e, if_pos e]; exact hg.pol
    · rw [if_neg e, if_neg e]
      exact hpol s' j hj fun h4 => e ⟨h4.1.symm, h4.2, by rw [h4.1]; exact hj⟩
  · rw [hlen] at h1 h2
    rw [hul, h.len] at e1 ⊢
    by_cases ea : s1 = s ∧ i = i1 ∧ i1 < (tss s).length
    · rw [if_pos ea] at e1
      have eb : ¬ (s2 = s ∧ i = j2 ∧ j2 < (tss s).length) := fun h4 => hne ⟨ea.1.trans h4.1.symm, ea.2.1.symm.trans h4.2.1⟩
      rw [if_neg eb]
      rcases hg.loc with hl | ⟨g2, hl, hge⟩
      · rw [hl] at e1
        exact h.sap s i s2 j2 hi h2 (fun h4 => hne ⟨ea.1.trans h4.1, ea.2.1.symm.trans h4.2⟩) g e1
      · rw [hl] at e1
        simp only [Option.some.injEq] at e1
        intro e2
        have := hlt s2 j2 h2 g e2
        omega
    · rw [if_neg ea] at e1
      by_cases eb : s2 = s ∧ i = j2 ∧ j2 < (tss s).length
      · rw [if_pos eb]
        rcases hg.loc with hl | ⟨g2, hl, hge⟩
        · rw [hl]
          have := h.sap s1 i1 s2 j2 h1 h2 hne g e1
          rw [eb.1, ← eb.2.1] at this; exact this
        · rw [hl]
          intro e2
          simp only [Option.some.injEq] at e2
          have := hlt s1 i1 h1 g e1
          omega
      · rw [if_neg eb]
        exact h.sap s1 i1 s2 j2 h1 h2 hne g e1
  · rw [htl] at hx2
    split at hx2
    · rcases List.mem_append.1 hx2 with hx2 | hx2
      · exact h.lens s i x hx2
      · rw [List.mem_singleton] at hx2; subst hx2; exact hx
    · exact h.lens s' j x hx2
theorem QW.vl {B N : Nat} {w : World} {rv : Bool → Value} {us : Bool → List Value} {tss : Bool → List (List TV)} (h : QW B N w rv us tss) (s : Bool) : Vl w (rv s) ((tss s).map (List.map tm)) := by
  have hp : PRow B w (rv s) (us s) ((tss s).map (List.map tm)) := by
    refine ⟨by rw [List.length_map]; exact h.len s, by rw [List.length_map]; exact h.own s, h.kind s, fun i hi => ?_⟩
    rw [List.length_map] at hi
    have e : ((tss s).map (List.map tm)).getD i [] = ((tss s).getD i []).map tm := by simp [List.getD_eq_getElem?_getD, hi]
    rw [e]
    exact (h.pol s i hi).pl (h.lens s i)
  exact hp.vl
def growV (rb fb : Nat) : Value := .func (.func 19) #[] #[.pointer (some ⟨rb, 0, none⟩), .pointer (some ⟨fb, 0, none⟩)]
structure EnW (n0 N : Nat) (w : World) (rb qb lb fb gb : Nat) (rv : Bool → Value) (us : Bool → List Value) (tss : Bool → List (List TV)) (f : Bool) : Prop where
  q : w.ownsRow n0 24 1 (.slice (some ⟨qb, 0, none⟩) 1 1) 1 [rv true]
  l : w.ownsRow n0 25 1 (.slice (some ⟨lb, 0, none⟩) 1 1) 1 [rv false]
  fit : w.ownsRow n0 4 1 (.slice (some ⟨fb, 0, none⟩) 1 1) 1 [.bool f]
  g : w.ownsRow n0 60 1 (.slice (some ⟨gb, 0, none⟩) 1 1) 1 [growV rb fb]
  qw : QW n0 N w rv us tss
def NQ (w : World) (k : Nat) : Prop := NTy w 24 k ∧ NTy w 25 k ∧ NTy w 4 k ∧ NTy w 60 k ∧ NTy w 54 k ∧ NTy w 57 k ∧ NTy w 3 k
def GS (n0 : Nat) (w : World) (k : Nat) : Prop := n0 ≤ k ∧ KdB NoU w k ∧ NTy w 109 k ∧ NTy w 64 k ∧ NTy w 52 k
theorem own_frmT {S : Nat → Prop} {w w' : World} (hf : Frm S w w') {B : Nat} {T : TypeId} {s : Nat} {v : Value} {n : Nat} {xs : List Value} (h : w.ownsRow B T s v n xs) (hS : ∀ g, S g → NTy w T g) : w'.ownsRow B T s v n xs :=
  hf.own h fun g hg hs => by
    obtain ⟨cur, e⟩ := own_ty h hg
    exact hS g hs cur e
theorem EnW.frm {n0 N : Nat} {S : Nat → Prop} {w w' : World} {rb qb lb fb gb : Nat} {rv : Bool → Value} {us : Bool → List Value} {tss : Bool → List (List TV)} {f : Bool} (h : EnW n0 N w rb qb lb fb gb rv us tss f) (hf : Frm S w w') (hS : ∀ g, S g → NQ w g) : EnW n0 N w' rb qb lb fb gb rv us tss f :=
  ⟨own_frmT hf h.q fun g hg => (hS g hg).1, own_frmT hf h.l fun g hg => (hS g hg).2.1, own_frmT hf h.fit fun g hg => (hS g hg).2.2.1, own_frmT hf h.g fun g hg => (hS g hg).2.2.2.1, h.qw.frm hf (fun g hg => (hS g hg).2.2.2.2.1) (fun g hg => (hS g hg).2.2.2.2.2.1) fun g hg => (hS g hg).2.2.2.2.2.2⟩
theorem EnW.next {n0 N : Nat} {w w' : World} {rb qb lb fb gb : Nat} {rv : Bool → Value} {us : Bool → List Value} {tss : Bool → List (List TV)} {f : Bool} (h : EnW n0 N w rb qb lb fb gb rv us tss f) (hb : Below w.heap.size w w') : EnW n0 N w' rb qb lb fb gb rv us tss f :=
  h.frm (S := fun _ => False) (Frm.of_below hb) fun _ h => h.elim
theorem EnW.grow {n0 N : Nat} {w w' : World} {rb qb lb fb gb : Nat} {rv : Bool → Value} {us : Bool → List Value} {tss : Bool → List (List TV)} {f f2 : Bool} (h : EnW n0 N w rb qb lb fb gb rv us tss f) {s : Bool} {b i n rc : Nat} {t : Ft} {ev v : Value} (hi : i < (tss s).length) (hv : rv s = .slice (some ⟨b, 0, none⟩) n rc) (hn : n = (tss s).length) (hx : (exs N t).length = N)
    (hg : GrW n0 N w w' fb b i n rc (us s) ((tss s).getD i []) f2 t ev v) :
    EnW n0 N w' rb qb lb fb gb rv (upd us s ((us s).set i v)) (upd tss s ((tss s).set i ((tss s).getD i [] ++ [(t.c, ev, exs N t)]))) f2 ∧ Frm (GS n0 w) w w' := by
  have hb := h.qw.own s
  have hbs : (rv s).ownBlock = some b := by rw [hv]; rfl
  have hty : ∀ {T : TypeId} {g : Nat}, T ≠ 54 → T ≠ 57 → T ≠ 4 → (g = b ∨ ((us s).getD i nilV).ownBlock = some g ∨ g = fb) → NTy w T g := fun {T g} h1 h2 h3 hgS => by
    rcases hgS with rfl | e | rfl
    · exact own_nty hb hbs (fun e => h1 e.symm)
    · exact own_nty (h.qw.pol s i hi).own e (fun e => h2 e.symm)
    · exact own_nty h.fit rfl (fun e => h3 e.symm)
  refine ⟨⟨own_frmT hg.frm h.q fun g hgS => hty (by decide) (by decide) (by decide) hgS, own_frmT hg.frm h.l fun g hgS => hty (by decide) (by decide) (by decide) hgS, hg.fit, own_frmT hg.frm h.g fun g hgS => hty (by decide) (by decide) (by decide) hgS, h.qw.grow hi hv hn hx h.fit hg⟩, hg.frm.wide fun k hk hkS => ⟨?_, ?_, hty (by decide) (by decide) (by decide) hkS, hty (by decide) (by decide) (by decide) hkS, hty (by decide) (by decide) (by decide) hkS⟩⟩
  · rcases hkS with rfl | e | rfl
    · exact (World.ownsRow.lt hb _ hbs).1
    · exact (World.ownsRow.lt (h.qw.pol s i hi).own k e).1
    · exact (World.ownsRow.lt h.fit _ rfl).1
  · rcases hkS with rfl | e | rfl
    · exact slk_nou (h.qw.kind s _ hbs)
    · exact (h.qw.pol s i hi).kind k e
    · intro j u hu x e
      rcases h.fit.2 with ⟨h4, _⟩ | ⟨g2, cap, cur, h4, _, hh, hn1, _, hcs, ht⟩
      · simp at h4
      · simp only [Value.slice.injEq, Option.some.injEq, Addr.mk.injEq, true_and, and_true] at h4
        obtain ⟨rfl, rfl⟩ := h4
        rw [cell_of_row w _ j cur 4 (0, 0) hh] at hu
        have hj : j < cur.size := by
          apply Nat.lt_of_not_le; intro hle
          rw [Array.getElem?_eq_none hle] at hu; cases hu
        have h0 : j = 0 := by omega
        subst h0
        have : cur.toList = [.bool f] := by
          rw [← ht, List.take_of_length_le (by simp; omega)]
        have h5 : cur[0]? = some (.bool f) := by rw [← Array.getElem?_toList, this]; rfl
        rw [h5] at hu
        simp only [Option.some.injEq] at hu
        rw [← hu] at e; cases e

set_option maxRecDepth 100000 in
theorem find_any (p : Int) (B db : Nat) (v : Value) (ds : List De) (t : Ft) (w : World) (hc : w.cell? ⟨db, 0, none⟩ = some v) (hd : DvsW p B w v ds) (hn : ds.length ≤ 1000) :
    Calls Tryz.prog 25 #[ftV t, .pointer (some ⟨db, 0, none⟩)] w fun e w' => e = .returned (ptrD v (fI t ds)) ∧ Below w.heap.size w w' := by
  obtain ⟨w1, hw1⟩ : ∃ w1, w1 = w.alloc (.cells #[.int .i64 t.k, .int .u16 t.a, .int .u16 t.b, .int .u16 t.d, .int .u16 t.z, .int .u8 t.pl, .int .u8 t.c] 52) := ⟨_, rfl⟩
  have HB1 : Hid (Below w.heap.size w w1) := by rw [hw1]; exact belowNew
  have HX1 : Hid (Bx w.heap.size w1 w.heap.size t) := by rw [hw1]; exact box7 (Nat.le_refl _) t
  have HFI := hid (first_any p B v ds t w1 (hd.next HB1.out) hn)
  obtain ⟨y0, y1, y2, y3, y4, y5, y6⟩ := HX1.out.at
  simp only [Nat.zero_add] at y0 y1 y2 y3 y4 y5 y6
  have z1 := cell_keep hc HB1.out
  obtain ⟨va, vc, rfl⟩ := own_sl hd.own
  clear hd hc
  unfold ftV at HFI ⊢
  go_enter Tryz.func25, Tryz.ntmps25
  go_upto_region 1 with fail
  rw [← hw1]
  clear hw1
  go_wp2_with (go_at_call 26; refine HFI.out.mono ?_; rintro e w9 ⟨rfl, hb9⟩; have HB9 := hid hb9; clear hb9)
  go_ret
  exact ⟨rfl, HB1.out.trans (HB9.out.mono HB1.out.size)⟩

def gro (tss : Bool → List (List TV)) (s : Bool) (i : Nat) (t : Ft) (ev : Value) (N : Nat) : Bool → List (List TV) := upd tss s ((tss s).set i ((tss s).getD i [] ++ [(t.c, ev, exs N t)]))
theorem growCl_any (n0 N rb qb lb fb gb b i n rc : Nat) (p o ov : Int) (rv : Bool → Value) (us : Bool → List Value) (tss : Bool → List (List TV)) (f : Bool) (s : Bool) (t : Ft) (w : World) (h0 : 0 < N) (h3 : N ≤ 3) (hbd : ∀ x ∈ exs N t, 0 ≤ x ∧ x ≤ 40000) (hc : 0 ≤ t.c ∧ t.c ≤ 255) (hB : n0 ≤ w.heap.size) (hr : BoxAt w rb p N o ov)
    (he : EnW n0 N w rb qb lb fb gb rv us tss f) (hv : rv s = .slice (some ⟨b, 0, none⟩) n rc) (hi : i < (tss s).length) (hn : ((tss s).getD i []).length ≤ 2000) :
    Calls Tryz.prog 19 #[.pointer (some ⟨b, i, none⟩), ftV t, .pointer (some ⟨rb, 0, none⟩), .pointer (some ⟨fb, 0, none⟩)] w fun e w' => e = .returned (.bool (okG ((tss s).getD i []).length (exs N t))) ∧ ∃ us2 ev, EnW n0 N w' rb qb lb fb gb rv us2 (gro tss s i t ev N) (okG ((tss s).getD i []).length (exs N t)) ∧ Frm (GS n0 w) w w' := by
  have hown := he.qw.own s
  have hnn : n = (tss s).length := by
    obtain ⟨a, c, e⟩ := own_sl hown
    rw [hv] at e; simp only [Value.slice.injEq] at e; exact e.2.1
  have hx : (exs N t).length = N := by unfold exs; rw [List.length_take]; simp; omega
  subst hnn
  rw [hv] at hown
  refine (grow_any n0 N rb fb b i _ rc p o ov (us s) ((tss s).getD i []) f t w h0 h3 hbd hc hB hr he.fit hown (he.qw.kind s b (by rw [hv]; rfl)) hi (he.qw.pol s i hi) hn).mono ?_
  rintro e w' ⟨rfl, ev, v, hg⟩
  have h := he.grow hi hv rfl hx hg
  exact ⟨rfl, _, ev, h.1, h.2⟩
def errDiv (p n o v rank : Int) (u : List (List Tm)) (vss : List (List (List Tm))) : Int := if errVecs p n o v rank vss ≠ 0 then errVecs p n o v rank vss else errVecs p n o v rank [u]

set_option maxRecDepth 100000 in
set_option maxHeartbeats 1000000 in
theorem divCheck_any (p n o v rank : Int) (x lv : Value) (u : List (List Tm)) (vss : List (List (List Tm))) (w : World) (hu : Vl w x u) (hl : Wl w lv vss) :
    Calls Tryz.prog 16 #[ringV p n o v, .int .i64 rank, x, lv] w fun e w' => e = .returned (.int .i64 (errDiv p n o v rank u vss)) ∧ Below w.heap.size w w' := by
  obtain ⟨w1, hw1⟩ : ∃ w1, w1 = w.alloc (.cells #[.int .i64 p, .int .i64 n, .int .i64 o, .int .i64 v] 23) := ⟨_, rfl⟩
  have HB1 : Hid (Below w.heap.size w w1) := by rw [hw1]; exact belowNew
  have HX1 : Hid (BoxAt w1 w.heap.size p n o v) := by rw [hw1]; exact BoxAt.new w p n o v _
  have HU := hid hu
  have HC1 := hid (vecCheck_any p n o v rank lv vss w1 (hl.below HB1.out))
  obtain ⟨xa, xc, rfl, _⟩ := hu
  obtain ⟨_, r0, r1, r2, r3⟩ := HX1.out
  have HC2 : Hid (∀ W, Below w1.heap.size w1 W → Calls Tryz.prog 47 #[ringV p n o v, .int .i64 rank, .slice (some ⟨W.heap.size, 0, none⟩) 1 1] (W.alloc (.cells #[.slice xa u.length xc] 25)) fun e w' => e = .returned (.int .i64 (errVecs p n o v rank [u])) ∧ Below (W.alloc (.cells #[.slice xa u.length xc] 25)).heap.size (W.alloc (.cells #[.slice xa u.length xc] 25)) w') := fun W hb => by
    refine vecCheck_any p n o v rank _ [u] _ ⟨_, 1, rfl, fun _ => ⟨W.heap.size, 0, rfl, by simp, fun i hi => ?_⟩⟩
    have e : i = 0 := by simp at hi; omega
    subst e
    refine ⟨.slice xa u.length xc, ?_, ((HU.out.below HB1.out).below hb).below belowNew⟩
    rw [cell_of_row _ W.heap.size _ _ 25 (0, 0) (heap_alloc_new W _)]
    simp
  unfold ringV at HC1 HC2 ⊢
  clear hl
  by_cases h1 : errVecs p n o v rank vss = 0
  · have HE : Hid (errDiv p n o v rank u vss = errVecs p n o v rank [u]) := by show _ = _; unfold errDiv; rw [if_neg (by simpa using h1)]
    rw [HE.out]
    rw [h1] at HC1
    clear h1
    go_enter Tryz.func16, Tryz.ntmps16
    go_upto_region 1 with fail
    rw [← hw1]
    clear hw1
    go_upto_region 4 with (go_at_call 47; refine HC1.out.mono ?_; rintro e w2 ⟨rfl, hb2⟩; have HB2 := hid hb2; have s0 := cell_keep r0 hb2; have s1 := cell_keep r1 hb2; have s2 := cell_keep r2 hb2; have s3 := cell_keep r3 hb2; clear hb2)
    go_wp2_with (go_at_call 47; refine (HC2.out _ HB2.out).mono ?_; rintro e w3 ⟨rfl, hb3⟩; have HB3 := hid hb3; clear hb3)
    go_ret
    exact ⟨rfl, (HB1.out.trans (HB2.out.mono HB1.out.size)).trans ((belowNew.trans (HB3.out.mono belowNew.size)).mono (HB1.out.trans (HB2.out.mono HB1.out.size)).size)⟩
  · have HE : Hid (errDiv p n o v rank u vss = errVecs p n o v rank vss) := by show _ = _; unfold errDiv; rw [if_pos h1]
    rw [HE.out]
    generalize errVecs p n o v rank vss = E at HC1 h1
    go_enter Tryz.func16, Tryz.ntmps16
    go_upto_region 1 with fail
    rw [← hw1]
    clear hw1
    go_wp2_with (go_at_call 47; refine HC1.out.mono ?_; rintro e w2 ⟨rfl, hb2⟩; have HB2 := hid hb2; clear hb2)
    go_ret
    exact ⟨rfl, HB1.out.trans (HB2.out.mono HB1.out.size)⟩
end Go.Proofs.YtilogbggilchaaaGreat
