/- The division of a sum, walked. -/
import Derived.Test.YtilogbggilchaaaGreatQI
import Derived.Test.YtilogbggilchaaaGreatQN
import Derived.Test.YtilogbggilchaaaGreatQD
import Derived.Test.YtilogbggilchaaaGreatWK
namespace Go.Proofs.YtilogbggilchaaaGreat
set_option linter.unusedSimpArgs false
set_option linter.unusedVariables false
open Go.RowKit
def kyOf : Option Value → Nat
  | some (.int _ k) => (k + 1).toNat
  | _ => 0
def msD (v m : Value) (w : World) : Nat :=
  match v, m with
  | .pointer (some a), .bool true => kyOf (w.cell? ⟨a.block, 0, none⟩)
  | _, _ => 0
structure DCx (p o ov : Int) (N R : Nat) (lss : List (List (List Tm))) (n0 : Nat) (w0 : World) (ob rb db : Nat) (sv dv : Value) (ds : List De) (fls : List (List Ft)) : Prop where
  rc : RCx p o ov N R
  lok : LOk p o N R lss
  oc : OrC w0 ob p o ov N R sv
  ring : BoxAt w0 rb p N o ov
  db : w0.cell? ⟨db, 0, none⟩ = some dv
  dvs : DvsW p 0 w0 dv ds
  made : ds.map dvr = mkD 0 fls
  len : fls.length = lss.length
  flr : ∀ i, i < lss.length → FlR p o ov N R 200 (lss.getD i []) (fls.getD i [])
  size : w0.heap.size = n0
  ll : lss.length ≤ 60
structure DiW (p o ov : Int) (N R : Nat) (lss : List (List (List Tm))) (n0 : Nat) (w0 wr : World) (rb qb lb fb gb sb ob : Nat) (rv : Bool → Value) (s0 s : DS) (rows : List (List Ft)) (tss : Bool → List (List TV)) (f : Bool) : Prop where
  below : Below n0 w0 wr
  en : ∃ us, EnW n0 N wr rb qb lb fb gb rv us tss f
  sum : ∃ rw us, SumW n0 wr sb ob rw us rows
  len : rows.length ≤ 65
  qs : QS tss s
  dv : Dv p o ov lss s0 s
theorem DiW.next {p o ov : Int} {N R : Nat} {lss : List (List (List Tm))} {n0 : Nat} {w0 wr w' : World} {rb qb lb fb gb sb ob : Nat} {rv : Bool → Value} {s0 s : DS} {rows : List (List Ft)} {tss : Bool → List (List TV)} {f : Bool} (h : DiW p o ov N R lss n0 w0 wr rb qb lb fb gb sb ob rv s0 s rows tss f) (hn : n0 ≤ wr.heap.size) (hb : Below wr.heap.size wr w') : DiW p o ov N R lss n0 w0 w' rb qb lb fb gb sb ob rv s0 s rows tss f := by
  obtain ⟨us, he⟩ := h.en
  obtain ⟨rw, us2, hs⟩ := h.sum
  exact ⟨h.below.trans (hb.mono hn), ⟨us, he.next hb⟩, ⟨rw, us2, hs.next hb⟩, h.len, h.qs, h.dv⟩
theorem sum_nq {B : Nat} {w : World} {sb ob : Nat} {rw : Value} {us : List Value} {rows : List (List Ft)} (h : SumW B w sb ob rw us rows) : ∀ g, SFp sb rw g → NQ w g := by
  intro g hg
  have key : ∀ {T : TypeId}, 109 ≠ T → 64 ≠ T → NTy w T g := fun {T} h1 h2 => by
    rcases hg with rfl | e
    · exact own_nty h.box rfl h1
    · exact own_nty h.rws.own e h2
  exact ⟨key (by decide) (by decide), key (by decide) (by decide), key (by decide) (by decide), key (by decide) (by decide), key (by decide) (by decide), key (by decide) (by decide), key (by decide) (by decide)⟩
theorem SumW.gs {B n0 : Nat} {w w' : World} {sb ob : Nat} {rw : Value} {us : List Value} {rows : List (List Ft)} (h : SumW B w sb ob rw us rows) (hf : Frm (GS n0 w) w w') : SumW B w' sb ob rw us rows := by
  have hne : ¬ GS n0 w sb := fun hg => by
    obtain ⟨cur, e⟩ := own_ty h.box (g := sb) rfl
    exact hg.2.2.1 cur e
  refine ⟨hf.own h.box fun g hg hs => ?_, hf.kdb h.kind h.lt.2 hne, h.rws.frm hf (fun g hg => hg.2.1) fun g hg hs => ?_⟩
  · simp only [Value.ownBlock, Option.some.injEq] at hg; subst hg; exact hne hs
  · obtain ⟨cur, e⟩ := own_ty h.rws.own hg
    exact hs.2.2.2.1 cur e
theorem bx_gs {B n0 : Nat} {w w' : World} {g : Nat} {t : Ft} (h : Bx B w g t) (hf : Frm (GS n0 w) w w') : Bx B w' g t := own_frmT hf h fun k hk => hk.2.2.2.2
theorem bx_sfp {B B2 : Nat} {w w' : World} {g sb ob : Nat} {t : Ft} {rw : Value} {us : List Value} {rows : List (List Ft)} (h : Bx B w g t) (hs : SumW B2 w sb ob rw us rows) (hf : Frm (SFp sb rw) w w') : Bx B w' g t := own_frmT hf h fun k hk => by
  rcases hk with rfl | e
  · exact own_nty hs.box rfl (by decide)
  · exact own_nty hs.rws.own e (by decide)
theorem gs_below {n0 : Nat} {w w' : World} (hf : Frm (GS n0 w) w w') (hn : n0 ≤ w.heap.size) : Below n0 w w' := hf.to_below hn fun _ h => h.1
theorem DiW.nx {p o ov : Int} {N R : Nat} {lss : List (List (List Tm))} {n0 : Nat} {w0 wr w' : World} {rb qb lb fb gb sb ob : Nat} {rv : Bool → Value} {s0 s : DS} {rows rows2 : List (List Ft)} {tss : Bool → List (List TV)} {f : Bool} {rw : Value} {us : List Value} {L : Nat} (h : DiW p o ov N R lss n0 w0 wr rb qb lb fb gb sb ob rv s0 s rows tss f) (hn : n0 ≤ wr.heap.size) (hs : SumW n0 wr sb ob rw us rows) (ht : TkW n0 L wr w' sb ob rw rows2) (hl : rows2.length = rows.length) : DiW p o ov N R lss n0 w0 w' rb qb lb fb gb sb ob rv s0 s rows2 tss f := by
  obtain ⟨us1, he⟩ := h.en
  obtain ⟨us2, hs2, _⟩ := ht.sum
  have hf : Frm (SFp sb rw) wr w' := ht.frm.wide fun x _ e => Or.inr e
  exact ⟨h.below.trans (hf.to_below hn fun x hx => by
    rcases hx with rfl | e
    · exact hs.lt.1
    · exact (World.ownsRow.lt hs.rws.own x e).1), ⟨us1, he.frm hf (sum_nq hs)⟩, ⟨rw, us2, hs2⟩, by rw [hl]; exact h.len, h.qs, h.dv⟩
theorem fI_none {t : Ft} {ds : List De} (h : fI t ds = none) : fD t (ds.map dvr) = none := by
  unfold fI at h
  unfold fD
  rw [List.findIdx?_eq_none_iff] at h
  rw [List.find?_eq_none]
  intro d hd
  obtain ⟨e, he, rfl⟩ := List.mem_map.1 hd
  have := h e he
  simp only [dvr]
  rw [this]; simp
theorem fI_some {t : Ft} : ∀ {ds : List De} {k : Nat}, fI t ds = some k → ∃ h : k < ds.length, fD t (ds.map dvr) = some (dvr ds[k])
  | [], k, h => by simp [fI] at h
  | d :: ds, k, h => by
    unfold fI at h
    rw [List.findIdx?_cons] at h
    simp only [List.map_cons, fD, List.find?_cons]
    by_cases hi : intoF d.2.1 t = true
    · rw [hi, if_pos rfl] at h
      simp only [Option.some.injEq] at h
      subst h
      refine ⟨by simp, ?_⟩
      simp only [dvr, hi]
      rfl
    · have hf : intoF d.2.1 t = false := by simpa using hi
      rw [hf] at h
      simp only [Bool.false_eq_true, if_false, Option.map_eq_some_iff] at h
      obtain ⟨j, hj, rfl⟩ := h
      obtain ⟨h2, h3⟩ := fI_some (t := t) (ds := ds) (k := j) hj
      refine ⟨by simpa using h2, ?_⟩
      simp only [dvr, hf]
      unfold fD at h3
      rw [List.getElem_cons_succ]
      exact h3
theorem DiW.gs {p o ov : Int} {N R : Nat} {lss : List (List (List Tm))} {n0 : Nat} {w0 wr w' : World} {rb qb lb fb gb sb ob : Nat} {rv : Bool → Value} {s0 s s2 : DS} {rows : List (List Ft)} {tss tss2 : Bool → List (List TV)} {f f2 : Bool} (h : DiW p o ov N R lss n0 w0 wr rb qb lb fb gb sb ob rv s0 s rows tss f) (hn : n0 ≤ wr.heap.size) {us : Bool → List Value} (he : EnW n0 N w' rb qb lb fb gb rv us tss2 f2) (hf : Frm (GS n0 wr) wr w') (hs : dstep p o ov lss s = some s2) (hq : QS tss2 s2) : DiW p o ov N R lss n0 w0 w' rb qb lb fb gb sb ob rv s0 s2 rows tss2 f2 := by
  obtain ⟨rw, us2, h2⟩ := h.sum
  exact ⟨h.below.trans (gs_below hf hn), ⟨us, he⟩, ⟨rw, us2, h2.gs hf⟩, h.len, hq, h.dv.step hs⟩
theorem DiW.put {p o ov : Int} {N R : Nat} {lss : List (List (List Tm))} {n0 : Nat} {w0 wr w' : World} {rb qb lb fb gb sb ob g L : Nat} {rv : Bool → Value} {s0 s : DS} {rows : List (List Ft)} {tss : Bool → List (List TV)} {f : Bool} {t : Ft} {rw : Value} {us : List Value} (h : DiW p o ov N R lss n0 w0 wr rb qb lb fb gb sb ob rv s0 s rows tss f) (hn : n0 ≤ wr.heap.size) (hs : SumW n0 wr sb ob rw us rows) (hl : LocR L us rows) (hL : L ≤ g) (hb : Bx n0 wr g t) (hg : wr.grownBy w' (some g)) : DiW p o ov N R lss n0 w0 w' rb qb lb fb gb sb ob rv s0 s rows tss f := by
  obtain ⟨us1, he⟩ := h.en
  have hge := (World.ownsRow.lt hb g rfl).1
  have hty : ∀ {T : TypeId}, 52 ≠ T → NTy wr T g := fun {T} hT => own_nty hb rfl hT
  have hf : Frm (fun k => k = g) wr w' := Frm.of_grown hg fun x e => by simpa using e.symm
  have hsb : sb ≠ g := fun e => by
    subst e
    obtain ⟨cur, e2⟩ := own_ty hs.box (g := sb) rfl
    exact hty (by decide) cur e2
  have hrv : rw.ownBlock ≠ some g := fun e => by
    obtain ⟨cur, e2⟩ := own_ty hs.rws.own e
    exact hty (by decide) cur e2
  exact ⟨h.below.trans (grown_below hg hge hn), ⟨us1, he.frm hf fun k e => by subst e; exact ⟨hty (by decide), hty (by decide), hty (by decide), hty (by decide), hty (by decide), hty (by decide), hty (by decide)⟩⟩, ⟨rw, us, hs.far hg hl hL hsb hrv⟩, h.len, h.qs, h.dv⟩
theorem pv_lt {p o ov : Int} {N R : Nat} (hx : RCx p o ov N R) {lss : List (List (List Tm))} (hl : LOk p o N R lss) {s s2 : DS} {t t2 : Ft} {rows rows2 : List (List Ft)} (hi : DInv p o ov N R lss s) (hs : dstep p o ov lss s = some s2) (h1 : PV p o ov N R (some t) rows s) (h2 : PV p o ov N R (some t2) rows2 s2) : t2.k < t.k ∧ 0 ≤ t2.k := by
  obtain ⟨hi2, j, u, hld, hk⟩ := dinv_step hx hl hi hs
  obtain ⟨a1, a2, _⟩ := h1.some t rfl
  obtain ⟨b1, b2, _⟩ := h2.some t2 rfl
  rw [a1] at hld
  simp only [Option.some.injEq, Prod.mk.injEq] at hld
  obtain ⟨rfl, rfl⟩ := hld
  have hD : ∀ i, i < R → Dg ov i ≤ 16000 := fun i hi => by have := (Dg_bd (ov := ov) hx.r i hi).2; omega
  obtain ⟨hm, hj, _, _⟩ := lead_cv hx hi2.vok hi2.vl hD b1
  have h3 := hk _ _ hm
  simp only at h3
  have e1 := a2.k
  have e2 := b2.k
  rw [← Int.toNat_of_nonneg a2.pl0] at e1
  rw [← Int.toNat_of_nonneg b2.pl0] at e2
  rw [← e1, ← e2] at h3
  refine ⟨h3, ?_⟩
  rw [e2]
  have := addK_bd hx.o hx.n0 hx.n3 (b2.exq hx.n0 hx.n3 (by omega)).1
  have hR := hx.r
  unfold keyL stK; split <;> omega
theorem nextR_any (p o ov : Int) (N R : Nat) (lss : List (List (List Tm))) (n0 L : Nat) (w0 : World) (ob rb qb lb fb gb sb : Nat) (sv : Value) (rv : Bool → Value) (s0 s : DS) (rows : List (List Ft)) (tss : Bool → List (List TV)) (rw : Value) (us : List Value) (W : World) (hx : RCx p o ov N R) (hoc : OrC W ob p o ov N R sv) (hnW : n0 ≤ W.heap.size) (hL : L ≤ W.heap.size) (hs : SumW n0 W sb ob rw us rows) (hl : LocR L us rows)
    (hdi : DiW p o ov N R lss n0 w0 W rb qb lb fb gb sb ob rv s0 s rows tss true) (hin : DInv p o ov N R lss s) (hro : Rok p (Gd o ov N R 400) rows) (hre : Rep p o ov R rows s.v) :
    Calls Tryz.prog 61 #[.pointer (some ⟨sb, 0, none⟩)] W fun e w' => ∃ r, e = .returned (.tuple #[ftV (grF r), .bool r.isSome]) ∧ ∃ rows2 us2, PV p o ov N R r rows2 s ∧ DiW p o ov N R lss n0 w0 w' rb qb lb fb gb sb ob rv s0 s rows2 tss true ∧ n0 ≤ w'.heap.size ∧ Frm (SFp sb rw) W w' ∧ SumW n0 w' sb ob rw us2 rows2 ∧ LocR L us2 rows2 := by
  have hp := errP_bd hx.pr
  refine (next_at n0 L sb ob p _ _ _ sv rw us rows W hs hL hl hoc.ord hp (by have := hdi.len; omega) hro.co hro.dn).mono ?_
  rintro e w' ⟨r, rfl, rows2, q1, q2⟩
  obtain ⟨a1, a2⟩ := nx_pv hx hin hro hre q1
  obtain ⟨us2, b1, b2⟩ := q2.sum
  exact ⟨r, rfl, rows2, us2, a1, hdi.nx hnW hs q2 a2, Nat.le_trans hnW q2.frm.size, q2.frm.wide fun x _ e => Or.inr e, b1, b2⟩
theorem exs_sub {N : Nat} {t L bt : Ft} (h0 : 0 < N) (h3 : N ≤ 3) (ha : bt.a = t.a - L.a) (hb : bt.b = t.b - L.b) (hd : bt.d = t.d - L.d) : exs N bt = zipI (· - ·) (exs N t) (exs N L) := by
  have hN : N = 1 ∨ N = 2 ∨ N = 3 := by omega
  rcases hN with rfl | rfl | rfl <;> simp [exs, zipI, ha, hb, hd]
theorem more_add {o : Int} {N : Nat} {bt : Ft} (h0 : 0 < N) (h3 : N ≤ 3) : bt.a * WtN o N N 0 + bt.b * WtN o N N 1 + bt.d * WtN o N N 2 = addK o (exs N bt) := by
  have hN : N = 1 ∨ N = 2 ∨ N = 3 := by omega
  rcases hN with rfl | rfl | rfl <;> simp [exs, addK, WtN, WtK]
theorem DivB.belowN {w w' : World} {n b off : Nat} {t : Ft} {rv : Value} {num inv : Int} (h : DivB w b off t rv num inv) (hb : Below n w w') (hlt : b < n) : DivB w' b off t rv num inv := by
  have hc : ∀ j, w'.cell? ⟨b, j, none⟩ = w.cell? ⟨b, j, none⟩ := fun j => World.cell?_of_block (hb.block b hlt)
  exact ⟨Nat.lt_of_lt_of_le h.lt hb.size, fun j u hj => by rw [hc]; exact h.cs j u hj, by rw [hc]; exact h.c7, by rw [hc]; exact h.c8, by rw [hc]; exact h.c9⟩
theorem DiW.added {p o ov : Int} {N R : Nat} {lss : List (List (List Tm))} {n0 : Nat} {w0 wr w8 w9 : World} {rb qb lb fb gb sb ob : Nat} {rv : Bool → Value} {s0 s : DS} {rows rows9 : List (List Ft)} {tss : Bool → List (List TV)} {f : Bool} {rw rw9 : Value} {us us9 : List Value} (h : DiW p o ov N R lss n0 w0 wr rb qb lb fb gb sb ob rv s0 s rows tss f) (hn : n0 ≤ wr.heap.size) (hs : SumW n0 wr sb ob rw us rows) (hb : Below wr.heap.size wr w8) (hf : Frm (SFp sb rw) w8 w9) (h9 : SumW n0 w9 sb ob rw9 us9 rows9) (hl : rows9.length ≤ 65) : DiW p o ov N R lss n0 w0 w9 rb qb lb fb gb sb ob rv s0 s rows9 tss f := by
  have h8 := h.next hn hb
  have hs8 := hs.next hb
  obtain ⟨us1, he⟩ := h8.en
  exact ⟨h8.below.trans (hf.to_below (Nat.le_trans hn hb.size) fun x hx => by
    rcases hx with rfl | e
    · exact hs8.lt.1
    · exact (World.ownsRow.lt hs8.rws.own x e).1), ⟨us1, he.frm hf (sum_nq hs8)⟩, ⟨rw9, us9, h9⟩, hl, h.qs, h.dv⟩
def nrmB (o ov : Int) (lss : List (List (List Tm))) (v : List (List Tm)) : Bool := (List.range v.length).all fun i => (v.getD i []).all fun t => (dvI o ov lss i t.2).isNone
theorem errR_fine {p o ov : Int} {N : Nat} (h : errR p N o ov = 0) : errP p = 0 ∧ 0 < N ∧ N ≤ 3 ∧ (o = 1 ∨ o = 2) ∧ (ov = 1 ∨ ov = 2) := by
  by_cases h1 : errP p = 0
  · have e1 : (errP p != 0) = false := by simp [h1]
    by_cases h2 : (N : Int) < 1 ∨ 3 < (N : Int)
    · rw [errR_n e1 h2] at h; omega
    · by_cases h3 : (o ≠ 1 ∧ o ≠ 2) ∨ (ov ≠ 1 ∧ ov ≠ 2)
      · rw [errR_k e1 h2 h3] at h; omega
      · exact ⟨h1, by omega, by omega, by omega, by omega⟩
  · have e1 : (errP p != 0) = true := by simp [h1]
    rw [errR_p e1] at h; exact absurd h h1
theorem errDiv_ok {p o ov rank : Int} {N : Nat} {u : List (List Tm)} {vss : List (List (List Tm))} (h : errDiv p N o ov rank u vss = 0) : ∃ R : Nat, rank = R ∧ RCx p o ov N R ∧ LOk p o N R vss ∧ (∀ g ∈ vss, ∀ f ∈ g, Right p o N f) ∧ vss.length ≤ 60 ∧ u.length = R ∧ (∀ f ∈ u, Right p o N f) ∧ 1 ≤ R := by
  unfold errDiv at h
  by_cases h1 : errVecs p N o ov rank vss = 0
  · rw [if_neg (by simpa using h1)] at h
    obtain ⟨a1, a2, a3, a4⟩ := errVecs_ok h1
    obtain ⟨_, _, _, b4⟩ := errVecs_ok h
    obtain ⟨c1, c2⟩ := b4 u (by simp)
    obtain ⟨r1, r2, r3, r4, r5⟩ := errR_fine a1
    refine ⟨rank.toNat, by omega, ⟨r1, r4, r5, r2, r3, by omega⟩, ⟨fun g hg => by have := (a4 g hg).1; omega, fun g hg => right_vok fun f hf => errOne_ok ((a4 g hg).2 f hf)⟩, fun g hg f hf => errOne_ok ((a4 g hg).2 f hf), a3, by omega, fun f hf => errOne_ok (c2 f hf), by omega⟩
  · rw [if_pos h1] at h; exact absurd h h1

theorem nrm_any {p o ov : Int} {N R : Nat} (hx : RCx p o ov N R) {lss : List (List (List Tm))} {v : List (List Tm)} {ds : List De} {fls : List (List Ft)} {fs : List Ft} (hr : ∀ f ∈ v, Right p o N f) (hl : v.length = R) (hm : ds.map dvr = mkD 0 fls) (hfl : fls.length = lss.length) (hflr : ∀ i, i < lss.length → FlR p o ov N R 200 (lss.getD i []) (fls.getD i [])) (hp : fs.Perm (flV o ov N v R)) : (!(fs.any fun t => (fI t ds).isSome)) = nrmB o ov lss v := by
  have hv := right_vok hr
  have key : ∀ i t, i < R → t ∈ v.getD i [] → (fI (ftN o ov N i t) ds).isSome = !(dvI o ov lss i t.2).isNone := fun i t hi ht => by
    obtain ⟨g1, g2, _, g4, _⟩ := ftN_ok (o := o) (ov := ov) (R := R) (Q := 200) hx.n0 hx.n3 ((hv.canon i).len t ht) (hv.nn i t ht) (hv.deg i t ht) hi
    have h := fD_dvI (p := p) (o := o) (ov := ov) (R := R) hx.n0 hx.n3 g1 lss fls 0 hfl.symm hflr
    have hpl : (ftN o ov N i t).pl.toNat = i := by rw [g4]; simp
    rw [hpl, g2] at h
    cases hfi : fI (ftN o ov N i t) ds with
    | none =>
      rw [← hm, fI_none hfi] at h
      simp only at h
      rw [h]; rfl
    | some k =>
      obtain ⟨hk, hfd⟩ := fI_some hfi
      rw [← hm, hfd] at h
      obtain ⟨j, _, h2, _⟩ := h
      rw [h2]; rfl
  rw [Bool.eq_iff_iff]
  unfold nrmB
  simp only [Bool.not_eq_true', List.any_eq_false, List.all_eq_true, List.mem_range, Option.isNone_iff_eq_none, Bool.not_eq_true]
  constructor
  · intro h i hi t ht
    have h1 := h (ftN o ov N i t) (hp.mem_iff.2 (mem_flV (by omega) ht))
    rw [key i t (by omega) ht] at h1
    simpa using h1
  · intro h x hx2
    obtain ⟨i, t, hi, ht, rfl⟩ := flV_mem (hp.mem_iff.1 hx2)
    rw [key i t hi ht, h i (by omega) t ht]; rfl
theorem orderVecP_any (ob : Nat) (p o ov : Int) (N R : Nat) (sv x : Value) (v : List (List Tm)) (w : World) (hx : RCx p o ov N R) (hoc : OrC w ob p o ov N R sv) (hl : v.length = R) (hr : ∀ f ∈ v, Right p o N f) (hv : Vl w x v) :
    Calls Tryz.prog 23 #[.pointer (some ⟨ob, 0, none⟩), .int .i64 0, x] w fun e w' => ∃ u, e = .returned u ∧ ∃ fs, Fv w' u fs ∧ FlR p o ov N R 200 v fs ∧ fs.Perm (flV o ov N v R) ∧ Below w.heap.size w w' := by
  have hp := errP_bd hx.pr
  have hls : (stL ov R).length = R := by simp [stL]
  have hR := hx.r
  refine (orderVector_any ob p _ _ _ sv x (stL ov R) v N w hoc.ord hoc.sl (by omega) (by omega) (stL_bd hx.r) (wtN_bd o N 0) (wtN_bd o N 1) (wtN_bd o N 2) hx.n0 hx.n3 (fun f hf => ⟨(hr f hf).len, fun t ht => ⟨(hr f hf).canon.len t ht, fun y hy => ?_, ?_⟩⟩) hv).mono ?_
  · have := (hr f hf).bd t ht y hy; omega
  · have := (hr f hf).canon.coef t ht; omega
  · rintro e w' ⟨u, fs, rfl, h1, h2, h3, h4, h5⟩
    rw [hl, allF_flV R (Nat.le_refl _)] at h2
    exact ⟨u, rfl, fs, h1, flr_of hx (right_vok hr) hl h2 h3, h2, h4⟩
theorem newOrd_any (p o ov : Int) (N R : Nat) (w : World) (hx : RCx p o ov N R) :
    Calls Tryz.prog 17 #[ringV p N o ov, .int .i64 R, .int .i64 0] w fun e w' => ∃ ob, e = .returned (.pointer (some ⟨ob, 0, none⟩)) ∧ ∃ sv, OrC w' ob p o ov N R sv ∧ Below w.heap.size w w' := by
  refine (newOrder_any p o ov N R w (errP_bd hx.pr) hx.o hx.ov hx.n3 (by have := hx.r; omega)).mono ?_
  rintro e w' ⟨ob, sv, rfl, h1, h2, h3⟩
  exact ⟨ob, rfl, sv, ⟨h1, h2⟩, h3⟩
theorem SumW.mono {B B' : Nat} {w : World} {sb ob : Nat} {rw : Value} {us : List Value} {rows : List (List Ft)} (h : SumW B' w sb ob rw us rows) (hb : B ≤ B') : SumW B w sb ob rw us rows :=
  ⟨own_mono h.box hb, h.kind, ⟨h.rws.len, own_mono h.rws.own hb, h.rws.kind, h.rws.fvs⟩⟩
theorem DvsW.mono {p : Int} {B B' : Nat} {w : World} {v : Value} {ds : List De} (h : DvsW p B' w v ds) (hb : B ≤ B') : DvsW p B w v ds := ⟨own_mono h.own hb, h.fvs, h.apart⟩
theorem qw_start {n0 N : Nat} {w : World} {a b L R : Nat} (hab : a ≠ b) (ha : w.ownsRow n0 54 1 (.slice (some ⟨a, 0, none⟩) L L) L (List.replicate L (.slice none 0 0))) (hb : w.ownsRow n0 54 1 (.slice (some ⟨b, 0, none⟩) R R) R (List.replicate R (.slice none 0 0)))
    (ka : SlK w a) (kb : SlK w b) : QW n0 N w (fun s => if s then .slice (some ⟨a, 0, none⟩) L L else .slice (some ⟨b, 0, none⟩) R R) (fun s => List.replicate (if s then L else R) (.slice none 0 0)) (fun s => List.replicate (if s then L else R) []) := by
  have hu : ∀ (n i : Nat), (List.replicate n (Value.slice none 0 0)).getD i nilV = .slice none 0 0 := fun n i => by
    rw [List.getD_eq_getElem?_getD]
    by_cases h : i < n
    · simp [h]
    · simp [h, nilV]
  have ht : ∀ (n i : Nat), (List.replicate n ([] : List TV)).getD i [] = [] := fun n i => by
    rw [List.getD_eq_getElem?_getD]
    by_cases h : i < n
    · simp [h]
    · simp [h]
  refine ⟨fun s => by simp, fun s => ?_, fun s g hg => ?_, fun s i hi => ?_, fun g hg e => ?_, fun s i s' j _ _ _ g hg => ?_, fun s i t h => ?_⟩
  · cases s
    · simpa using hb
    · simpa using ha
  · cases s
    · simp only [Value.ownBlock, Bool.false_eq_true, if_false, Option.some.injEq] at hg; subst hg; exact kb
    · simp only [Value.ownBlock, if_true, Option.some.injEq] at hg; subst hg; exact ka
  · rw [hu, ht]; exact PolW.nil _ _ _
  · simp only [Value.ownBlock, if_true, Bool.false_eq_true, if_false, Option.some.injEq] at hg e
    exact hab (hg.trans e.symm)
  · rw [hu] at hg; simp [Value.ownBlock] at hg
  · rw [ht] at h; simp at h
theorem dinv_start {p o ov : Int} {N R : Nat} {lss : List (List (List Tm))} {v : List (List Tm)} (hov : ov = 1 ∨ ov = 2) (hl : v.length = R) (hr : ∀ f ∈ v, Right p o N f) : DInv p o ov N R lss ⟨v, List.replicate lss.length [], List.replicate R []⟩ := by
  have h0 : ∀ (n i : Nat), (List.replicate n ([] : List Tm)).getD i [] = [] := fun n i => by
    rw [List.getD_eq_getElem?_getD]
    by_cases h : i < n
    · simp [h]
    · simp [h]
  have hv := right_vok hr
  have he := (emptyRight p o N).canon
  refine ⟨hl, by simp, by simp, ⟨hv.canon, hv.nn, fun i t ht => ?_⟩, ⟨fun i => by rw [h0]; exact he, fun i t ht => by rw [h0] at ht; simp at ht, fun i t ht => by rw [h0] at ht; simp at ht⟩, fun i => ⟨by rw [h0]; exact he, fun t ht => by rw [h0] at ht; simp at ht, fun t ht => by rw [h0] at ht; simp at ht⟩, fun i u hu => by rw [h0] at hu; simp at hu, fun i u hu => by rw [h0] at hu; simp at hu⟩
  have h1 : sumI t.2 ≤ 200 := hv.deg i t ht
  unfold Dg
  split <;> omega
theorem four0 (w : World) (A B C D : Obj) : ((((w.alloc A).alloc B).alloc C).alloc D).drew.heap[w.heap.size]? = some A := by
  show ((((w.alloc A).alloc B).alloc C).alloc D).heap[w.heap.size]? = some A
  rw [Below.heap_alloc _ _ _ (by simp; omega), Below.heap_alloc _ _ _ (by simp; omega), Below.heap_alloc _ _ _ (by simp), heap_alloc_new]
theorem four1 (w : World) (A B C D : Obj) : ((((w.alloc A).alloc B).alloc C).alloc D).drew.heap[w.heap.size + 1]? = some B := by
  show ((((w.alloc A).alloc B).alloc C).alloc D).heap[w.heap.size + 1]? = some B
  rw [Below.heap_alloc _ _ _ (by simp), Below.heap_alloc _ _ _ (by simp)]
  have h := heap_alloc_new (w.alloc A) B
  simpa using h
theorem four2 (w : World) (A B C D : Obj) : ((((w.alloc A).alloc B).alloc C).alloc D).drew.heap[w.heap.size + 1 + 1]? = some C := by
  show ((((w.alloc A).alloc B).alloc C).alloc D).heap[w.heap.size + 1 + 1]? = some C
  rw [Below.heap_alloc _ _ _ (by simp)]
  have h := heap_alloc_new ((w.alloc A).alloc B) C
  simpa using h
theorem four3 (w : World) (A B C D : Obj) : ((((w.alloc A).alloc B).alloc C).alloc D).drew.heap[w.heap.size + 1 + 1 + 1]? = some D := by
  show ((((w.alloc A).alloc B).alloc C).alloc D).heap[w.heap.size + 1 + 1 + 1]? = some D
  have h := heap_alloc_new (((w.alloc A).alloc B).alloc C) D
  simpa using h
theorem fourB (w : World) (A B C D : Obj) : Below w.heap.size w ((((w.alloc A).alloc B).alloc C).alloc D).drew := (below_three.alloc (by simp; omega) _).drew
structure MkW (w wx : World) (MQ ML : Array Value) (L R qa la qb lb : Nat) : Prop where
  q : wx.heap[qb]? = some (.cells #[.slice (some ⟨qa, 0, none⟩) L L] 24)
  l : wx.heap[lb]? = some (.cells #[.slice (some ⟨la, 0, none⟩) R R] 25)
  mq : wx.heap[qa]? = some (.cells MQ 54)
  ml : wx.heap[la]? = some (.cells ML 54)
  below : Below w.heap.size w wx
  ge : w.heap.size ≤ qa ∧ w.heap.size ≤ la ∧ w.heap.size ≤ qb ∧ w.heap.size ≤ lb ∧ qa ≠ la
theorem mk_of {w wx : World} {MQ ML : Array Value} {L R qa la qb lb : Nat} {s14 s15 : Value} (h1 : s14 = .pointer (some ⟨qb, 0, none⟩)) (h2 : s15 = .pointer (some ⟨lb, 0, none⟩)) (hq : wx.heap[qb]? = some (.cells #[.slice (some ⟨qa, 0, none⟩) L L] 24)) (hl : wx.heap[lb]? = some (.cells #[.slice (some ⟨la, 0, none⟩) R R] 25)) (hmq : wx.heap[qa]? = some (.cells MQ 54)) (hml : wx.heap[la]? = some (.cells ML 54)) (hb : Below w.heap.size w wx) (hge : w.heap.size ≤ qa ∧ w.heap.size ≤ la ∧ w.heap.size ≤ qb ∧ w.heap.size ≤ lb ∧ qa ≠ la) :
    ∃ qa la qb lb : Nat, s14 = .pointer (some ⟨qb, 0, none⟩) ∧ s15 = .pointer (some ⟨lb, 0, none⟩) ∧ MkW w wx MQ ML L R qa la qb lb := ⟨qa, la, qb, lb, h1, h2, hq, hl, hmq, hml, hb, hge⟩
set_option maxRecDepth 100000 in
set_option maxHeartbeats 2000000 in
theorem normal_err (p n o v rank : Int) (x lv : Value) (u : List (List Tm)) (vss : List (List (List Tm))) (w : World) (hu : Vl w x u) (hl : Wl w lv vss) (he : errDiv p n o v rank u vss ≠ 0) :
    Calls Tryz.prog 6 #[ringV p n o v, .int .i64 rank, x, lv] w fun e w' => e = .returned (.tuple #[.bool false, .int .i64 (errDiv p n o v rank u vss)]) ∧ Below w.heap.size w w' := by
  obtain ⟨w1, hw1⟩ : ∃ w1, w1 = w.alloc (.cells #[.int .i64 p, .int .i64 n, .int .i64 o, .int .i64 v] 23) := ⟨_, rfl⟩
  have HB1 : Hid (Below w.heap.size w w1) := by rw [hw1]; exact belowNew
  have HX1 : Hid (BoxAt w1 w.heap.size p n o v) := by rw [hw1]; exact BoxAt.new w p n o v _
  have HC1 := hid (divCheck_any p n o v rank x lv u vss w1 (hu.below HB1.out) (hl.below HB1.out))
  obtain ⟨_, r0, r1, r2, r3⟩ := HX1.out
  generalize errDiv p n o v rank u vss = E at HC1 he ⊢
  have hE : (E != 0) = true := by simpa using he
  obtain ⟨xa, xc, rfl, _⟩ := hu
  obtain ⟨la, lc, rfl, _⟩ := hl
  unfold ringV at HC1 ⊢
  go_enter Tryz.func6, Tryz.ntmps6
  go_upto_region 1 with fail
  rw [← hw1]
  clear hw1
  go_wp2_with (go_at_call 16; refine HC1.out.mono ?_; rintro e w2 ⟨rfl, hb2⟩; have HB2 := hid hb2; clear hb2)
  go_ret2
  exact ⟨rfl, HB1.out.trans (HB2.out.mono HB1.out.size)⟩

set_option maxRecDepth 100000 in
set_option maxHeartbeats 2000000 in
theorem normal_ok (p o v rank : Int) (N : Nat) (x lv : Value) (u : List (List Tm)) (vss : List (List (List Tm))) (w : World) (hu : Vl w x u) (hl : Wl w lv vss) (he : errDiv p N o v rank u vss = 0) :
    Calls Tryz.prog 6 #[ringV p N o v, .int .i64 rank, x, lv] w fun e w' => e = .returned (.tuple #[.bool (nrmB o v vss u), .int .i64 0]) ∧ Below w.heap.size w w' := by
  obtain ⟨R, hR, hx, hlo, hrl, hll, hul, hur, _⟩ := errDiv_ok he
  subst hR
  obtain ⟨w1, hw1⟩ : ∃ w1, w1 = w.alloc (.cells #[.int .i64 p, .int .i64 N, .int .i64 o, .int .i64 v] 23) := ⟨_, rfl⟩
  have HB1 : Hid (Below w.heap.size w w1) := by rw [hw1]; exact belowNew
  have HX1 : Hid (BoxAt w1 w.heap.size p N o v) := by rw [hw1]; exact BoxAt.new w p N o v _
  have HC1 := hid (divCheck_any p N o v R x lv u vss w1 (hu.below HB1.out) (hl.below HB1.out))
  rw [he] at HC1
  obtain ⟨_, r0, r1, r2, r3⟩ := HX1.out
  have HU := hid hu
  have HL := hid hl
  have HX := hid hx
  have HLO := hid hlo
  have HRL := hid hrl
  have HUR := hid hur
  have HUL := hid hul
  have HLL := hid hll
  have HNO := hid (fun (W : World) => newOrd_any p o v N R W hx)
  have HDO : Hid (∀ W ob sv, Below w.heap.size w W → OrC W ob p o v N R sv → Calls Tryz.prog 18 #[.pointer (some ⟨ob, 0, none⟩), lv] W fun e w' => ∃ d, e = .returned d ∧ ∃ ds fls, DoW p o v N R vss W w' vss.length d ds fls) := fun W ob sv hb hoc => divisorsOf_any ob p o v N R sv lv vss W HX.out hoc HLL.out HLO.out.len HRL.out (HL.out.below hb)
  have HOV : Hid (∀ W ob sv, Below w.heap.size w W → OrC W ob p o v N R sv → Calls Tryz.prog 23 #[.pointer (some ⟨ob, 0, none⟩), .int .i64 0, x] W fun e w' => ∃ y, e = .returned y ∧ ∃ fs, Fv w' y fs ∧ FlR p o v N R 200 u fs ∧ fs.Perm (flV o v N u R) ∧ Below W.heap.size W w') := fun W ob sv hb hoc => orderVecP_any ob p o v N R sv x u W HX.out hoc HUL.out HUR.out (HU.out.below hb)
  have HLEN : Hid (∀ fs : List Ft, FlR p o v N R 200 u fs → fs.length ≤ 100000000000) := fun fs h => gd_len (o := o) (ov := v) (N := N) HX.out.r fs h.dn fun t ht => by
    have h1 := h.gd t ht
    exact ⟨h1.k, h1.a, h1.b, h1.d, by have := h1.deg; omega, h1.z, h1.pl0, h1.pl, h1.n1, h1.n2⟩
  obtain ⟨xa, xc, rfl, _⟩ := hu
  obtain ⟨la, lc, rfl, _⟩ := hl
  unfold ringV at HC1 HNO ⊢
  clear he hx hlo hrl hur hul hll
  go_enter Tryz.func6, Tryz.ntmps6
  go_upto_region 1 with fail
  rw [← hw1]
  clear hw1
  go_upto_region 5 with (first
    | (go_at_call 16; refine HC1.out.mono ?_; rintro e w2 ⟨rfl, hb2⟩; have HB2 := hid (HB1.out.trans (hb2.mono HB1.out.size)); have s0 := cell_keep r0 hb2; have s1 := cell_keep r1 hb2; have s2 := cell_keep r2 hb2; have s3 := cell_keep r3 hb2; clear hb2)
    | (go_at_call 17; refine (HNO.out _).mono ?_; rintro e w3 ⟨ob, rfl, sv, q1, q2⟩; have HOC := hid q1; have HB3 := hid (HB2.out.trans (q2.mono HB2.out.size)); clear q1 q2))
  go_upto_region 6 with (go_at_call 18; refine (HDO.out _ _ _ HB3.out HOC.out).mono ?_; rintro e w4 ⟨dd, rfl, ds, fls, q1⟩; have HD4 := hid q1; clear q1; obtain ⟨da, dc, hdd⟩ := own_sl HD4.out.dvs.own; subst hdd)
  have HDL := hid HD4.out.dlen
  obtain ⟨w5, hw5⟩ : ∃ w5, w5 = w4.alloc (.cells #[.slice da ds.length dc] 45) := ⟨_, rfl⟩
  have H5 : Hid (Below w4.heap.size w4 w5 ∧ w5.cell? ⟨w4.heap.size, 0, none⟩ = some (.slice da ds.length dc)) := by
    show _ ∧ _
    rw [hw5]
    refine ⟨belowNew, ?_⟩
    rw [cell_of_row _ w4.heap.size _ _ 45 (0, 0) (heap_alloc_new w4 _)]
    simp
  rw [← hw5]
  clear hw5
  have HB4 : Hid (Below w.heap.size w w4) := HB3.out.trans (HD4.out.below.mono HB3.out.size)
  have HB5 : Hid (Below w.heap.size w w5) := HB4.out.trans (H5.out.1.mono HB4.out.size)
  have HOC5 := hid ((HOC.out.below HD4.out.below).below H5.out.1)
  have HD5 := hid (HD4.out.dvs.next H5.out.1)
  have HOV5 := hid (HOV.out w5 ob sv HB5.out HOC5.out)
  have HCF : Hid (∀ W y fs, Below w5.heap.size w5 W → Fv W y fs → FlR p o v N R 200 u fs → Calls Tryz.prog 29 #[y, .func (.func 30) #[] #[.pointer (some ⟨w4.heap.size, 0, none⟩)]] W fun e w' => e = .returned (.bool (fs.any fun t => (fI t ds).isSome)) ∧ Below W.heap.size W w') := fun W y fs hb hf hr => containsFn_any p _ w4.heap.size _ y ds fs W (cell_keep H5.out.2 hb) (HD5.out.next hb) (by have := HDL.out; have := HLL.out; omega) hf (HLEN.out fs hr)
  have HMK := hid (And.intro HD4.out.made (And.intro HD4.out.len HD4.out.flr))
  go_wp2_with (first
    | (go_at_call 23; refine HOV5.out.mono ?_; rintro e w6 ⟨y6, rfl, fs6, q1, q2, q3, q4⟩; have HF6 := hid q1; have HR6 := hid q2; have HP6 := hid q3; have HB6 := hid q4; clear q1 q2 q3 q4)
    | (go_at_call 29; refine (HCF.out _ _ _ HB6.out HF6.out HR6.out).mono ?_; rintro e w7 ⟨rfl, hb7⟩; have HB7 := hid hb7; clear hb7))
  have HNR := hid (nrm_any (ds := ds) HX.out HUR.out HUL.out HMK.out.1 HMK.out.2.1 HMK.out.2.2 HP6.out)
  go_ret2
  refine ⟨?_, HB5.out.trans ((HB6.out.trans (HB7.out.mono HB6.out.size)).mono HB5.out.size)⟩
  rw [← HNR.out]; rfl
set_option maxRecDepth 100000 in
set_option maxHeartbeats 2000000 in
theorem divide_err (p n o v rank : Int) (x lv : Value) (u : List (List Tm)) (vss : List (List (List Tm))) (w : World) (hu : Vl w x u) (hl : Wl w lv vss) (he : errDiv p n o v rank u vss ≠ 0) :
    Calls Tryz.prog 5 #[ringV p n o v, .int .i64 rank, x, lv] w fun e w' => e = .returned (.tuple #[.slice none 0 0, .slice none 0 0, .int .i64 (errDiv p n o v rank u vss)]) ∧ Below w.heap.size w w' := by
  obtain ⟨w1, hw1⟩ : ∃ w1, w1 = w.alloc (.cells #[.int .i64 p, .int .i64 n, .int .i64 o, .int .i64 v] 23) := ⟨_, rfl⟩
  have HB1 : Hid (Below w.heap.size w w1) := by rw [hw1]; exact belowNew
  have HX1 : Hid (BoxAt w1 w.heap.size p n o v) := by rw [hw1]; exact BoxAt.new w p n o v _
  have HC1 := hid (divCheck_any p n o v rank x lv u vss w1 (hu.below HB1.out) (hl.below HB1.out))
  obtain ⟨_, r0, r1, r2, r3⟩ := HX1.out
  generalize errDiv p n o v rank u vss = E at HC1 he ⊢
  have hE : (E != 0) = true := by simpa using he
  obtain ⟨xa, xc, rfl, _⟩ := hu
  obtain ⟨la, lc, rfl, _⟩ := hl
  unfold ringV at HC1 ⊢
  go_enter Tryz.func5, Tryz.ntmps5
  go_upto_region 1 with fail
  rw [← hw1]
  clear hw1
  go_wp2_with (go_at_call 16; refine HC1.out.mono ?_; rintro e w2 ⟨rfl, hb2⟩; have HB2 := hid hb2; clear hb2)
  go_ret3
  exact ⟨rfl, HB1.out.trans (HB2.out.mono HB1.out.size)⟩
end Go.Proofs.YtilogbggilchaaaGreat
