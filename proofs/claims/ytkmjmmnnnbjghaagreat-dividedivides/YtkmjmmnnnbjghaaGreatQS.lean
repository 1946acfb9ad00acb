/- Normal. -/
import Derived.Test.YtkmjmmnnnbjghaaGreatQK
import Derived.Test.YtkmjmmnnnbjghaaGreatWM
namespace Go.Proofs.YtkmjmmnnnbjghaaGreat
set_option linter.unusedSimpArgs false
set_option linter.unusedVariables false
open Go.RowKit

/-- Does no divisor go into a term? -/
def nrmB (o ov : Int) (lss : List (List (List Tm))) (v : List (List Tm)) : Bool := (List.range v.length).all fun i => (v.getD i []).all fun t => (dvI o ov lss i t.2).isNone
theorem errR_fine {p o ov : Int} {N : Nat} (h : errR p N o ov = 0) : errP p = 0 ∧ 0 < N ∧ N ≤ 3 ∧ (o = 1 ∨ o = 2) ∧ (ov = 1 ∨ ov = 2) := by
  by_cases h1 : errP p = 0
  · have e1 : (errP p != 0) = false := by simp [h1]
    by_cases h2 : (N : Int) < 1 ∨ 3 < (N : Int)
    · rw [errR_n e1 h2] at h; omega
    · by_cases h3 : (o ≠ 1 ∧ o ≠ 2) ∨ (ov ≠ 1 ∧ ov ≠ 2)
      · rw [errR_k e1 h2 h3] at h; omega
      · exact ⟨h1, by omega, by omega, by omega, by omega⟩
  · have e1 : (errP p != 0) = true := by simp [h1]
    rw [errR_p e1] at h; exact absurd h h1
/-- What is right with what is handed in. -/
theorem errDiv_ok {p o ov rank : Int} {N : Nat} {u : List (List Tm)} {vss : List (List (List Tm))} (h : errDiv p N o ov rank u vss = 0) : ∃ R : Nat, rank = R ∧ RCx p o ov N R ∧ LOk p o N R vss ∧ (∀ g ∈ vss, ∀ f ∈ g, Right p o N f) ∧ vss.length ≤ 60 ∧ u.length = R ∧ (∀ f ∈ u, Right p o N f) ∧ 1 ≤ R := by
  unfold errDiv at h
  by_cases h1 : errVecs p N o ov rank vss = 0
  · rw [if_neg (by simpa using h1)] at h
    obtain ⟨a1, a2, a3, a4⟩ := errVecs_ok h1
    obtain ⟨_, _, _, b4⟩ := errVecs_ok h
    obtain ⟨c1, c2⟩ := b4 u (by simp)
    obtain ⟨r1, r2, r3, r4, r5⟩ := errR_fine a1
    refine ⟨rank.toNat, by omega, ⟨r1, r4, r5, r2, r3, by omega⟩, ⟨fun g hg => by have := (a4 g hg).1; omega, fun g hg => right_vok fun f hf => errOne_ok ((a4 g hg).2 f hf)⟩, fun g hg f hf => errOne_ok ((a4 g hg).2 f hf), a3, by omega, fun f hf => errOne_ok (c2 f hf), by omega⟩
  · rw [if_pos h1] at h; exact absurd h h1

/-- Normal, of a vector that is flat. -/
theorem nrm_any {p o ov : Int} {N R : Nat} (hx : RCx p o ov N R) {lss : List (List (List Tm))} {v : List (List Tm)} {ds : List De} {fls : List (List Ft)} {fs : List Ft} (hr : ∀ f ∈ v, Right p o N f) (hl : v.length = R) (hm : ds.map dvr = mkD 0 fls) (hfl : fls.length = lss.length) (hflr : ∀ i, i < lss.length → FlR p o ov N R 200 (lss.getD i []) (fls.getD i [])) (hp : fs.Perm (flV o ov N v R)) : (!(fs.any fun t => (fI t ds).isSome)) = nrmB o ov lss v := by
  have hv := right_vok hr
  have key : ∀ i t, i < R → t ∈ v.getD i [] → (fI (ftN o ov N i t) ds).isSome = !(dvI o ov lss i t.2).isNone := fun i t hi ht => by
    obtain ⟨g1, g2, _, g4, _⟩ := ftN_ok (o := o) (ov := ov) (R := R) (Q := 200) hx.n0 hx.n3 ((hv.canon i).len t ht) (hv.nn i t ht) (hv.deg i t ht) hi
    have h := fD_dvI (p := p) (o := o) (ov := ov) (R := R) hx.n0 hx.n3 g1 lss fls 0 hfl.symm hflr
    have hpl : (ftN o ov N i t).pl.toNat = i := by rw [g4]; simp
    rw [hpl, g2] at h
    cases hfi : fI (ftN o ov N i t) ds with
    | none =>
      rw [← hm, fI_none hfi] at h
      simp only at h
      rw [h]; rfl
    | some k =>
      obtain ⟨hk, hfd⟩ := fI_some hfi
      rw [← hm, hfd] at h
      obtain ⟨j, _, h2, _⟩ := h
      rw [h2]; rfl
  rw [Bool.eq_iff_iff]
  unfold nrmB
  simp only [Bool.not_eq_true', List.any_eq_false, List.all_eq_true, List.mem_range, Option.isNone_iff_eq_none, Bool.not_eq_true]
  constructor
  · intro h i hi t ht
    have h1 := h (ftN o ov N i t) (hp.mem_iff.2 (mem_flV (by omega) ht))
    rw [key i t (by omega) ht] at h1
    simpa using h1
  · intro h x hx2
    obtain ⟨i, t, hi, ht, rfl⟩ := flV_mem (hp.mem_iff.1 hx2)
    rw [key i t hi ht, h i (by omega) t ht]; rfl
/-- A vector that is right, flat, with its terms. -/
theorem orderVecP_any (ob : Nat) (p o ov : Int) (N R : Nat) (sv x : Value) (v : List (List Tm)) (w : World) (hx : RCx p o ov N R) (hoc : OrC w ob p o ov N R sv) (hl : v.length = R) (hr : ∀ f ∈ v, Right p o N f) (hv : Vl w x v) :
    Calls Tryz.prog 23 #[.pointer (some ⟨ob, 0, none⟩), .int .i64 0, x] w fun e w' => ∃ u, e = .returned u ∧ ∃ fs, Fv w' u fs ∧ FlR p o ov N R 200 v fs ∧ fs.Perm (flV o ov N v R) ∧ Below w.heap.size w w' := by
  have hp := errP_bd hx.pr
  have hls : (stL ov R).length = R := by simp [stL]
  have hR := hx.r
  refine (orderVector_any ob p _ _ _ sv x (stL ov R) v N w hoc.ord hoc.sl (by omega) (by omega) (stL_bd hx.r) (wtN_bd o N 0) (wtN_bd o N 1) (wtN_bd o N 2) hx.n0 hx.n3 (fun f hf => ⟨(hr f hf).len, fun t ht => ⟨(hr f hf).canon.len t ht, fun y hy => ?_, ?_⟩⟩) hv).mono ?_
  · have := (hr f hf).bd t ht y hy; omega
  · have := (hr f hf).canon.coef t ht; omega
  · rintro e w' ⟨u, fs, rfl, h1, h2, h3, h4, h5⟩
    rw [hl, allF_flV R (Nat.le_refl _)] at h2
    exact ⟨u, rfl, fs, h1, flr_of hx (right_vok hr) hl h2 h3, h2, h4⟩
/-- NewOrder, as it is wanted. -/
theorem newOrd_any (p o ov : Int) (N R : Nat) (w : World) (hx : RCx p o ov N R) :
    Calls Tryz.prog 17 #[ringV p N o ov, .int .i64 R, .int .i64 0] w fun e w' => ∃ ob, e = .returned (.pointer (some ⟨ob, 0, none⟩)) ∧ ∃ sv, OrC w' ob p o ov N R sv ∧ Below w.heap.size w w' := by
  refine (newOrder_any p o ov N R w (errP_bd hx.pr) hx.o hx.ov hx.n3 (by have := hx.r; omega)).mono ?_
  rintro e w' ⟨ob, sv, rfl, h1, h2, h3⟩
  exact ⟨ob, rfl, sv, ⟨h1, h2⟩, h3⟩

end Go.Proofs.YtkmjmmnnnbjghaaGreat

/- Divide: what stands at its beginning. -/
namespace Go.Proofs.YtkmjmmnnnbjghaaGreat
set_option linter.unusedSimpArgs false
set_option linter.unusedVariables false
open Go.RowKit

theorem SumW.mono {B B' : Nat} {w : World} {sb ob : Nat} {rw : Value} {us : List Value} {rows : List (List Ft)} (h : SumW B' w sb ob rw us rows) (hb : B ≤ B') : SumW B w sb ob rw us rows :=
  ⟨own_mono h.box hb, h.kind, ⟨h.rws.len, own_mono h.rws.own hb, h.rws.kind, h.rws.fvs⟩⟩
theorem DvsW.mono {p : Int} {B B' : Nat} {w : World} {v : Value} {ds : List De} (h : DvsW p B' w v ds) (hb : B ≤ B') : DvsW p B w v ds := ⟨own_mono h.own hb, h.fvs, h.apart⟩
/-- The rows as they are made: nothing in them. -/
theorem qw_start {n0 N : Nat} {w : World} {a b L R : Nat} (hab : a ≠ b) (ha : w.ownsRow n0 54 1 (.slice (some ⟨a, 0, none⟩) L L) L (List.replicate L (.slice none 0 0))) (hb : w.ownsRow n0 54 1 (.slice (some ⟨b, 0, none⟩) R R) R (List.replicate R (.slice none 0 0)))
    (ka : SlK w a) (kb : SlK w b) : QW n0 N w (fun s => if s then .slice (some ⟨a, 0, none⟩) L L else .slice (some ⟨b, 0, none⟩) R R) (fun s => List.replicate (if s then L else R) (.slice none 0 0)) (fun s => List.replicate (if s then L else R) []) := by
  have hu : ∀ (n i : Nat), (List.replicate n (Value.slice none 0 0)).getD i nilV = .slice none 0 0 := fun n i => by
    rw [List.getD_eq_getElem?_getD]
    by_cases h : i < n
    · simp [h]
    · simp [h, nilV]
  have ht : ∀ (n i : Nat), (List.replicate n ([] : List TV)).getD i [] = [] := fun n i => by
    rw [List.getD_eq_getElem?_getD]
    by_cases h : i < n
    · simp [h]
    · simp [h]
  refine ⟨fun s => by simp, fun s => ?_, fun s g hg => ?_, fun s i hi => ?_, fun g hg e => ?_, fun s i s' j _ _ _ g hg => ?_, fun s i t h => ?_⟩
  · cases s
    · simpa using hb
    · simpa using ha
  · cases s
    · simp only [Value.ownBlock, Bool.false_eq_true, if_false, Option.some.injEq] at hg; subst hg; exact kb
    · simp only [Value.ownBlock, if_true, Option.some.injEq] at hg; subst hg; exact ka
  · rw [hu, ht]; exact PolW.nil _ _ _
  · simp only [Value.ownBlock, if_true, Bool.false_eq_true, if_false, Option.some.injEq] at hg e
    exact hab (hg.trans e.symm)
  · rw [hu] at hg; simp [Value.ownBlock] at hg
  · rw [ht] at h; simp at h
/-- Where the reference's division begins. -/
theorem dinv_start {p o ov : Int} {N R : Nat} {lss : List (List (List Tm))} {v : List (List Tm)} (hov : ov = 1 ∨ ov = 2) (hl : v.length = R) (hr : ∀ f ∈ v, Right p o N f) : DInv p o ov N R lss ⟨v, List.replicate lss.length [], List.replicate R []⟩ := by
  have h0 : ∀ (n i : Nat), (List.replicate n ([] : List Tm)).getD i [] = [] := fun n i => by
    rw [List.getD_eq_getElem?_getD]
    by_cases h : i < n
    · simp [h]
    · simp [h]
  have hv := right_vok hr
  have he := (emptyRight p o N).canon
  refine ⟨hl, by simp, by simp, ⟨hv.canon, hv.nn, fun i t ht => ?_⟩, ⟨fun i => by rw [h0]; exact he, fun i t ht => by rw [h0] at ht; simp at ht, fun i t ht => by rw [h0] at ht; simp at ht⟩, fun i => ⟨by rw [h0]; exact he, fun t ht => by rw [h0] at ht; simp at ht, fun t ht => by rw [h0] at ht; simp at ht⟩, fun i u hu => by rw [h0] at hu; simp at hu, fun i u hu => by rw [h0] at hu; simp at hu⟩
  have h1 : sumI t.2 ≤ 200 := hv.deg i t ht
  unfold Dg
  split <;> omega

end Go.Proofs.YtkmjmmnnnbjghaaGreat
