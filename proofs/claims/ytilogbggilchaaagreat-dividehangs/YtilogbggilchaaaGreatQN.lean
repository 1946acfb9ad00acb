/- Normal: its closure, IndexFunc and ContainsFunc. -/
import Derived.Test.YtilogbggilchaaaGreatQE
import Derived.Test.YtilogbggilchaaaGreatQI
import Derived.Test.YtilogbggilchaaaGreatWO
namespace Go.Proofs.YtilogbggilchaaaGreat
set_option linter.unusedSimpArgs false
set_option linter.unusedVariables false
open Go.RowKit
set_option maxRecDepth 100000 in
set_option maxHeartbeats 1000000 in
theorem normCl_any (p : Int) (B db : Nat) (v : Value) (ds : List De) (t : Ft) (w : World) (hc : w.cell? ⟨db, 0, none⟩ = some v) (hd : DvsW p B w v ds) (hn : ds.length ≤ 1000) :
    Calls Tryz.prog 30 #[ftV t, .pointer (some ⟨db, 0, none⟩)] w fun e w' => e = .returned (.bool (fI t ds).isSome) ∧ Below w.heap.size w w' := by
  obtain ⟨w1, hw1⟩ : ∃ w1, w1 = w.alloc (.cells #[.int .i64 t.k, .int .u16 t.a, .int .u16 t.b, .int .u16 t.d, .int .u16 t.z, .int .u8 t.pl, .int .u8 t.c] 52) := ⟨_, rfl⟩
  have HB1 : Hid (Below w.heap.size w w1) := by rw [hw1]; exact belowNew
  have HX1 : Hid (Bx w.heap.size w1 w.heap.size t) := by rw [hw1]; exact box7 (Nat.le_refl _) t
  have HFI := hid (first_any p B v ds t w1 (hd.next HB1.out) hn)
  obtain ⟨y0, y1, y2, y3, y4, y5, y6⟩ := HX1.out.at
  simp only [Nat.zero_add] at y0 y1 y2 y3 y4 y5 y6
  have z1 := cell_keep hc HB1.out
  obtain ⟨va, vc, rfl⟩ := own_sl hd.own
  clear hd hc
  unfold ftV at HFI ⊢
  cases hf : fI t ds with
  | none =>
    rw [hf] at HFI
    simp only [ptrD, Option.map_none] at HFI
    clear hf
    go_enter Tryz.func30, Tryz.ntmps30
    go_upto_region 1 with fail
    rw [← hw1]
    clear hw1
    go_wp2_with (go_at_call 26; refine HFI.out.mono ?_; rintro e w9 ⟨rfl, hb9⟩; have HB9 := hid hb9; clear hb9)
    go_ret
    exact ⟨rfl, HB1.out.trans (HB9.out.mono HB1.out.size)⟩
  | some k =>
    rw [hf] at HFI
    simp only [ptrD, Option.map_some] at HFI
    clear hf
    go_enter Tryz.func30, Tryz.ntmps30
    go_upto_region 1 with fail
    rw [← hw1]
    clear hw1
    go_wp2_with (go_at_call 26; refine HFI.out.mono ?_; rintro e w9 ⟨rfl, hb9⟩; have HB9 := hid hb9; clear hb9)
    go_ret
    exact ⟨rfl, HB1.out.trans (HB9.out.mono HB1.out.size)⟩
def ixD (ds : List De) (fs : List Ft) : Int := match fs.findIdx? (fun t => (fI t ds).isSome) with
  | none => -1
  | some k => k

set_option maxRecDepth 100000 in
set_option maxHeartbeats 1000000 in
theorem indexFn_any (p : Int) (B db : Nat) (v x : Value) (ds : List De) (fs : List Ft) (w : World) (hc : w.cell? ⟨db, 0, none⟩ = some v) (hd : DvsW p B w v ds) (hn : ds.length ≤ 1000) (hf : Fv w x fs) (hfl : fs.length ≤ 100000000000) :
    Calls Tryz.prog 67 #[x, .func (.func 30) #[] #[.pointer (some ⟨db, 0, none⟩)]] w fun e w' => e = .returned (.int .i64 (ixD ds fs)) ∧ Below w.heap.size w w' := by
  have HCL : Hid (∀ W t, Below w.heap.size w W → Calls Tryz.prog 30 #[ftV t, .pointer (some ⟨db, 0, none⟩)] W fun e w' => e = .returned (.bool (fI t ds).isSome) ∧ Below W.heap.size W w') := fun W t hb => normCl_any p B db v ds t W (cell_keep hc hb) (hd.next hb) hn
  have HF := hid hf
  obtain ⟨xa, xc, rfl, _, _⟩ := hf
  clear hd hc
  go_enter Tryz.func67, Tryz.ntmps67
  go_wp2_with fail
  go_loopw [8] (fun i wr => ∃ m : Nat, m ≤ fs.length ∧ i = .int .i64 m ∧ (∀ j (h : j < fs.length), j < m → (fI fs[j] ds).isSome = false) ∧ Below w.heap.size w wr) (fun i _ => fs.length - (intOf i).toNat)
  case atStart => exact ⟨0, Nat.zero_le _, rfl, fun j _ h => by omega, Below.refl _ _⟩
  case round =>
    obtain ⟨m, hm, rfl, hno, hbr⟩ := hrel
    have HNO := hid hno
    have HBR := hid hbr
    clear hno hbr
    by_cases hm2 : m < fs.length
    · obtain ⟨b, off, rfl, hlt, _, hft⟩ := (HF.out.below HBR.out).at m hm2
      have e : fs.getD m noF = fs[m] := by simp [List.getD_eq_getElem?_getD, hm2]
      rw [e] at hft
      obtain ⟨f0, f1, f2, f3, f4, f5, f6⟩ := hft
      have HC := hid (HCL.out wr fs[m] HBR.out)
      have HFI : Hid ((fI fs[m] ds).isSome = true → ixD ds fs = m) := fun h => by
        unfold ixD
        have : fs.findIdx? (fun t => (fI t ds).isSome) = some m := by
          rw [List.findIdx?_eq_some_iff_getElem]
          exact ⟨hm2, h, fun j hj => by have := HNO.out j (by omega) hj; simp [this]⟩
        rw [this]
      have HNX : Hid ((fI fs[m] ds).isSome = false → ∀ j (h : j < fs.length), j < m + 1 → (fI fs[j] ds).isSome = false) := fun h j hj hjm => by
        rcases Nat.lt_succ_iff_lt_or_eq.1 hjm with h2 | rfl
        · exact HNO.out j hj h2
        · exact h
      unfold ftV at HC
      clear e
      generalize (fI fs[m] ds).isSome = bb at HC HFI HNX
      generalize fs[m] = t at HC f0 f1 f2 f3 f4 f5 f6
      cases bb with
      | true =>
        have HE := hid (HFI.out rfl)
        go_wp2_with (go_at_call 30; refine HC.out.mono ?_; rintro e w9 ⟨rfl, hb9⟩; have HB9 := hid hb9; clear hb9)
        go_ret
        exact ⟨by rw [HE.out]; rfl, HBR.out.trans (HB9.out.mono HBR.out.size)⟩
      | false =>
        have HN2 := hid (HNX.out rfl)
        clear HNX
        go_wp2_with (go_at_call 30; refine HC.out.mono ?_; rintro e w9 ⟨rfl, hb9⟩; have HB9 := hid hb9; clear hb9)
        go_roundw
        case rel => exact ⟨m + 1, by omega, by go_num, HN2.out, HBR.out.trans (HB9.out.mono HBR.out.size)⟩
        case measure => simp [intOf]; omega
    · have e : m = fs.length := by omega
      subst e
      have HE : Hid (ixD ds fs = -1) := by
        show _ = _
        unfold ixD
        have : fs.findIdx? (fun t => (fI t ds).isSome) = none := by
          rw [List.findIdx?_eq_none_iff]
          intro t ht
          obtain ⟨j, hj, rfl⟩ := List.getElem_of_mem ht
          exact HNO.out j hj hj
        rw [this]
      go_wp2
      go_ret
      exact ⟨by rw [HE.out]; rfl, HBR.out⟩

set_option maxRecDepth 100000 in
set_option maxHeartbeats 1000000 in
theorem containsFn_any (p : Int) (B db : Nat) (v x : Value) (ds : List De) (fs : List Ft) (w : World) (hc : w.cell? ⟨db, 0, none⟩ = some v) (hd : DvsW p B w v ds) (hn : ds.length ≤ 1000) (hf : Fv w x fs) (hfl : fs.length ≤ 100000000000) :
    Calls Tryz.prog 29 #[x, .func (.func 30) #[] #[.pointer (some ⟨db, 0, none⟩)]] w fun e w' => e = .returned (.bool (fs.any fun t => (fI t ds).isSome)) ∧ Below w.heap.size w w' := by
  have HIX := hid (indexFn_any p B db v x ds fs w hc hd hn hf hfl)
  have HAN : Hid (decide (0 ≤ ixD ds fs) = fs.any fun t => (fI t ds).isSome) := by
    show _ = _
    unfold ixD
    cases h : fs.findIdx? (fun t => (fI t ds).isSome) with
    | none =>
      rw [List.findIdx?_eq_none_iff] at h
      have : (fs.any fun t => (fI t ds).isSome) = false := by
        rw [List.any_eq_false]
        intro t ht
        have := h t ht
        simp [this]
      rw [this]; rfl
    | some k =>
      rw [List.findIdx?_eq_some_iff_getElem] at h
      obtain ⟨hk, h1, _⟩ := h
      have : (fs.any fun t => (fI t ds).isSome) = true := List.any_eq_true.2 ⟨fs[k], List.getElem_mem hk, h1⟩
      rw [this]; simp
  obtain ⟨xa, xc, rfl, _, _⟩ := hf
  clear hd hc
  generalize ixD ds fs = ix at HIX HAN
  go_enter Tryz.func29, Tryz.ntmps29
  go_wp2_with (go_at_call 67; refine HIX.out.mono ?_; rintro e w9 ⟨rfl, hb9⟩; have HB9 := hid hb9; clear hb9)
  go_ret
  exact ⟨by rw [← HAN.out]; rfl, HB9.out⟩
def nrmB (o ov : Int) (lss : List (List (List Tm))) (v : List (List Tm)) : Bool := (List.range v.length).all fun i => (v.getD i []).all fun t => (dvI o ov lss i t.2).isNone
theorem errR_fine {p o ov : Int} {N : Nat} (h : errR p N o ov = 0) : errP p = 0 ∧ 0 < N ∧ N ≤ 3 ∧ (o = 1 ∨ o = 2) ∧ (ov = 1 ∨ ov = 2) := by
  by_cases h1 : errP p = 0
  · have e1 : (errP p != 0) = false := by simp [h1]
    by_cases h2 : (N : Int) < 1 ∨ 3 < (N : Int)
    · rw [errR_n e1 h2] at h; omega
    · by_cases h3 : (o ≠ 1 ∧ o ≠ 2) ∨ (ov ≠ 1 ∧ ov ≠ 2)
      · rw [errR_k e1 h2 h3] at h; omega
      · exact ⟨h1, by omega, by omega, by omega, by omega⟩
  · have e1 : (errP p != 0) = true := by simp [h1]
    rw [errR_p e1] at h; exact absurd h h1
theorem errDiv_ok {p o ov rank : Int} {N : Nat} {u : List (List Tm)} {vss : List (List (List Tm))} (h : errDiv p N o ov rank u vss = 0) : ∃ R : Nat, rank = R ∧ RCx p o ov N R ∧ LOk p o N R vss ∧ (∀ g ∈ vss, ∀ f ∈ g, Right p o N f) ∧ vss.length ≤ 60 ∧ u.length = R ∧ (∀ f ∈ u, Right p o N f) ∧ 1 ≤ R := by
  unfold errDiv at h
  by_cases h1 : errVecs p N o ov rank vss = 0
  · rw [if_neg (by simpa using h1)] at h
    obtain ⟨a1, a2, a3, a4⟩ := errVecs_ok h1
    obtain ⟨_, _, _, b4⟩ := errVecs_ok h
    obtain ⟨c1, c2⟩ := b4 u (by simp)
    obtain ⟨r1, r2, r3, r4, r5⟩ := errR_fine a1
    refine ⟨rank.toNat, by omega, ⟨r1, r4, r5, r2, r3, by omega⟩, ⟨fun g hg => by have := (a4 g hg).1; omega, fun g hg => right_vok fun f hf => errOne_ok ((a4 g hg).2 f hf)⟩, fun g hg f hf => errOne_ok ((a4 g hg).2 f hf), a3, by omega, fun f hf => errOne_ok (c2 f hf), by omega⟩
  · rw [if_pos h1] at h; exact absurd h h1

theorem nrm_any {p o ov : Int} {N R : Nat} (hx : RCx p o ov N R) {lss : List (List (List Tm))} {v : List (List Tm)} {ds : List De} {fls : List (List Ft)} {fs : List Ft} (hr : ∀ f ∈ v, Right p o N f) (hl : v.length = R) (hm : ds.map dvr = mkD 0 fls) (hfl : fls.length = lss.length) (hflr : ∀ i, i < lss.length → FlR p o ov N R 200 (lss.getD i []) (fls.getD i [])) (hp : fs.Perm (flV o ov N v R)) : (!(fs.any fun t => (fI t ds).isSome)) = nrmB o ov lss v := by
  have hv := right_vok hr
  have key : ∀ i t, i < R → t ∈ v.getD i [] → (fI (ftN o ov N i t) ds).isSome = !(dvI o ov lss i t.2).isNone := fun i t hi ht => by
    obtain ⟨g1, g2, _, g4, _⟩ := ftN_ok (o := o) (ov := ov) (R := R) (Q := 200) hx.n0 hx.n3 ((hv.canon i).len t ht) (hv.nn i t ht) (hv.deg i t ht) hi
    have h := fD_dvI (p := p) (o := o) (ov := ov) (R := R) hx.n0 hx.n3 g1 lss fls 0 hfl.symm hflr
    have hpl : (ftN o ov N i t).pl.toNat = i := by rw [g4]; simp
    rw [hpl, g2] at h
    cases hfi : fI (ftN o ov N i t) ds with
    | none =>
      rw [← hm, fI_none hfi] at h
      simp only at h
      rw [h]; rfl
    | some k =>
      obtain ⟨hk, hfd⟩ := fI_some hfi
      rw [← hm, hfd] at h
      obtain ⟨j, _, h2, _⟩ := h
      rw [h2]; rfl
  rw [Bool.eq_iff_iff]
  unfold nrmB
  simp only [Bool.not_eq_true', List.any_eq_false, List.all_eq_true, List.mem_range, Option.isNone_iff_eq_none, Bool.not_eq_true]
  constructor
  · intro h i hi t ht
    have h1 := h (ftN o ov N i t) (hp.mem_iff.2 (mem_flV (by omega) ht))
    rw [key i t (by omega) ht] at h1
    simpa using h1
  · intro h x hx2
    obtain ⟨i, t, hi, ht, rfl⟩ := flV_mem (hp.mem_iff.1 hx2)
    rw [key i t hi ht, h i (by omega) t ht]; rfl
theorem orderVecP_any (ob : Nat) (p o ov : Int) (N R : Nat) (sv x : Value) (v : List (List Tm)) (w : World) (hx : RCx p o ov N R) (hoc : OrC w ob p o ov N R sv) (hl : v.length = R) (hr : ∀ f ∈ v, Right p o N f) (hv : Vl w x v) :
    Calls Tryz.prog 23 #[.pointer (some ⟨ob, 0, none⟩), .int .i64 0, x] w fun e w' => ∃ u, e = .returned u ∧ ∃ fs, Fv w' u fs ∧ FlR p o ov N R 200 v fs ∧ fs.Perm (flV o ov N v R) ∧ Below w.heap.size w w' := by
  have hp := errP_bd hx.pr
  have hls : (stL ov R).length = R := by simp [stL]
  have hR := hx.r
  refine (orderVector_any ob p _ _ _ sv x (stL ov R) v N w hoc.ord hoc.sl (by omega) (by omega) (stL_bd hx.r) (wtN_bd o N 0) (wtN_bd o N 1) (wtN_bd o N 2) hx.n0 hx.n3 (fun f hf => ⟨(hr f hf).len, fun t ht => ⟨(hr f hf).canon.len t ht, fun y hy => ?_, ?_⟩⟩) hv).mono ?_
  · have := (hr f hf).bd t ht y hy; omega
  · have := (hr f hf).canon.coef t ht; omega
  · rintro e w' ⟨u, fs, rfl, h1, h2, h3, h4, h5⟩
    rw [hl, allF_flV R (Nat.le_refl _)] at h2
    exact ⟨u, rfl, fs, h1, flr_of hx (right_vok hr) hl h2 h3, h2, h4⟩
theorem newOrd_any (p o ov : Int) (N R : Nat) (w : World) (hx : RCx p o ov N R) :
    Calls Tryz.prog 17 #[ringV p N o ov, .int .i64 R, .int .i64 0] w fun e w' => ∃ ob, e = .returned (.pointer (some ⟨ob, 0, none⟩)) ∧ ∃ sv, OrC w' ob p o ov N R sv ∧ Below w.heap.size w w' := by
  refine (newOrder_any p o ov N R w (errP_bd hx.pr) hx.o hx.ov hx.n3 (by have := hx.r; omega)).mono ?_
  rintro e w' ⟨ob, sv, rfl, h1, h2, h3⟩
  exact ⟨ob, rfl, sv, ⟨h1, h2⟩, h3⟩
theorem SumW.mono {B B' : Nat} {w : World} {sb ob : Nat} {rw : Value} {us : List Value} {rows : List (List Ft)} (h : SumW B' w sb ob rw us rows) (hb : B ≤ B') : SumW B w sb ob rw us rows :=
  ⟨own_mono h.box hb, h.kind, ⟨h.rws.len, own_mono h.rws.own hb, h.rws.kind, h.rws.fvs⟩⟩
theorem DvsW.mono {p : Int} {B B' : Nat} {w : World} {v : Value} {ds : List De} (h : DvsW p B' w v ds) (hb : B ≤ B') : DvsW p B w v ds := ⟨own_mono h.own hb, h.fvs, h.apart⟩
theorem qw_start {n0 N : Nat} {w : World} {a b L R : Nat} (hab : a ≠ b) (ha : w.ownsRow n0 54 1 (.slice (some ⟨a, 0, none⟩) L L) L (List.replicate L (.slice none 0 0))) (hb : w.ownsRow n0 54 1 (.slice (some ⟨b, 0, none⟩) R R) R (List.replicate R (.slice none 0 0)))
    (ka : SlK w a) (kb : SlK w b) : QW n0 N w (fun s => if s then .slice (some ⟨a, 0, none⟩) L L else .slice (some ⟨b, 0, none⟩) R R) (fun s => List.replicate (if s then L else R) (.slice none 0 0)) (fun s => List.replicate (if s then L else R) []) := by
  have hu : ∀ (n i : Nat), (List.replicate n (Value.slice none 0 0)).getD i nilV = .slice none 0 0 := fun n i => by
    rw [List.getD_eq_getElem?_getD]
    by_cases h : i < n
    · simp [h]
    · simp [h, nilV]
  have ht : ∀ (n i : Nat), (List.replicate n ([] : List TV)).getD i [] = [] := fun n i => by
    rw [List.getD_eq_getElem?_getD]
    by_cases h : i < n
    · simp [h]
    · simp [h]
  refine ⟨fun s => by simp, fun s => ?_, fun s g hg => ?_, fun s i hi => ?_, fun g hg e => ?_, fun s i s' j _ _ _ g hg => ?_, fun s i t h => ?_⟩
  · cases s
    · simpa using hb
    · simpa using ha
  · cases s
    · simp only [Value.ownBlock, Bool.false_eq_true, if_false, Option.some.injEq] at hg; subst hg; exact kb
    · simp only [Value.ownBlock, if_true, Option.some.injEq] at hg; subst hg; exact ka
  · rw [hu, ht]; exact PolW.nil _ _ _
  · simp only [Value.ownBlock, if_true, Bool.false_eq_true, if_false, Option.some.injEq] at hg e
    exact hab (hg.trans e.symm)
  · rw [hu] at hg; simp [Value.ownBlock] at hg
  · rw [ht] at h; simp at h
theorem dinv_start {p o ov : Int} {N R : Nat} {lss : List (List (List Tm))} {v : List (List Tm)} (hov : ov = 1 ∨ ov = 2) (hl : v.length = R) (hr : ∀ f ∈ v, Right p o N f) : DInv p o ov N R lss ⟨v, List.replicate lss.length [], List.replicate R []⟩ := by
  have h0 : ∀ (n i : Nat), (List.replicate n ([] : List Tm)).getD i [] = [] := fun n i => by
    rw [List.getD_eq_getElem?_getD]
    by_cases h : i < n
    · simp [h]
    · simp [h]
  have hv := right_vok hr
  have he := (emptyRight p o N).canon
  refine ⟨hl, by simp, by simp, ⟨hv.canon, hv.nn, fun i t ht => ?_⟩, ⟨fun i => by rw [h0]; exact he, fun i t ht => by rw [h0] at ht; simp at ht, fun i t ht => by rw [h0] at ht; simp at ht⟩, fun i => ⟨by rw [h0]; exact he, fun t ht => by rw [h0] at ht; simp at ht, fun t ht => by rw [h0] at ht; simp at ht⟩, fun i u hu => by rw [h0] at hu; simp at hu, fun i u hu => by rw [h0] at hu; simp at hu⟩
  have h1 : sumI t.2 ≤ 200 := hv.deg i t ht
  unfold Dg
  split <;> omega
theorem four0 (w : World) (A B C D : Obj) : ((((w.alloc A).alloc B).alloc C).alloc D).drew.heap[w.heap.size]? = some A := by
  show ((((w.alloc A).alloc B).alloc C).alloc D).heap[w.heap.size]? = some A
  rw [Below.heap_alloc _ _ _ (by simp; omega), Below.heap_alloc _ _ _ (by simp; omega), Below.heap_alloc _ _ _ (by simp), heap_alloc_new]
theorem four1 (w : World) (A B C D : Obj) : ((((w.alloc A).alloc B).alloc C).alloc D).drew.heap[w.heap.size + 1]? = some B := by
  show ((((w.alloc A).alloc B).alloc C).alloc D).heap[w.heap.size + 1]? = some B
  rw [Below.heap_alloc _ _ _ (by simp), Below.heap_alloc _ _ _ (by simp)]
  have h := heap_alloc_new (w.alloc A) B
  simpa using h
theorem four2 (w : World) (A B C D : Obj) : ((((w.alloc A).alloc B).alloc C).alloc D).drew.heap[w.heap.size + 1 + 1]? = some C := by
  show ((((w.alloc A).alloc B).alloc C).alloc D).heap[w.heap.size + 1 + 1]? = some C
  rw [Below.heap_alloc _ _ _ (by simp)]
  have h := heap_alloc_new ((w.alloc A).alloc B) C
  simpa using h
theorem four3 (w : World) (A B C D : Obj) : ((((w.alloc A).alloc B).alloc C).alloc D).drew.heap[w.heap.size + 1 + 1 + 1]? = some D := by
  show ((((w.alloc A).alloc B).alloc C).alloc D).heap[w.heap.size + 1 + 1 + 1]? = some D
  have h := heap_alloc_new (((w.alloc A).alloc B).alloc C) D
  simpa using h
theorem fourB (w : World) (A B C D : Obj) : Below w.heap.size w ((((w.alloc A).alloc B).alloc C).alloc D).drew := (below_three.alloc (by simp; omega) _).drew
structure MkW (w wx : World) (MQ ML : Array Value) (L R qa la qb lb : Nat) : Prop where
  q : wx.heap[qb]? = some (.cells #[.slice (some ⟨qa, 0, none⟩) L L] 24)
  l : wx.heap[lb]? = some (.cells #[.slice (some ⟨la, 0, none⟩) R R] 25)
  mq : wx.heap[qa]? = some (.cells MQ 54)
  ml : wx.heap[la]? = some (.cells ML 54)
  below : Below w.heap.size w wx
  ge : w.heap.size ≤ qa ∧ w.heap.size ≤ la ∧ w.heap.size ≤ qb ∧ w.heap.size ≤ lb ∧ qa ≠ la
theorem mk_of {w wx : World} {MQ ML : Array Value} {L R qa la qb lb : Nat} {s14 s15 : Value} (h1 : s14 = .pointer (some ⟨qb, 0, none⟩)) (h2 : s15 = .pointer (some ⟨lb, 0, none⟩)) (hq : wx.heap[qb]? = some (.cells #[.slice (some ⟨qa, 0, none⟩) L L] 24)) (hl : wx.heap[lb]? = some (.cells #[.slice (some ⟨la, 0, none⟩) R R] 25)) (hmq : wx.heap[qa]? = some (.cells MQ 54)) (hml : wx.heap[la]? = some (.cells ML 54)) (hb : Below w.heap.size w wx) (hge : w.heap.size ≤ qa ∧ w.heap.size ≤ la ∧ w.heap.size ≤ qb ∧ w.heap.size ≤ lb ∧ qa ≠ la) :
    ∃ qa la qb lb : Nat, s14 = .pointer (some ⟨qb, 0, none⟩) ∧ s15 = .pointer (some ⟨lb, 0, none⟩) ∧ MkW w wx MQ ML L R qa la qb lb := ⟨qa, la, qb, lb, h1, h2, hq, hl, hmq, hml, hb, hge⟩
set_option maxRecDepth 100000 in
set_option maxHeartbeats 2000000 in
theorem normal_ok (p o v rank : Int) (N : Nat) (x lv : Value) (u : List (List Tm)) (vss : List (List (List Tm))) (w : World) (hu : Vl w x u) (hl : Wl w lv vss) (he : errDiv p N o v rank u vss = 0) :
    Calls Tryz.prog 6 #[ringV p N o v, .int .i64 rank, x, lv] w fun e w' => e = .returned (.tuple #[.bool (nrmB o v vss u), .int .i64 0]) ∧ Below w.heap.size w w' := by
  obtain ⟨R, hR, hx, hlo, hrl, hll, hul, hur, _⟩ := errDiv_ok he
  subst hR
  obtain ⟨w1, hw1⟩ : ∃ w1, w1 = w.alloc (.cells #[.int .i64 p, .int .i64 N, .int .i64 o, .int .i64 v] 23) := ⟨_, rfl⟩
  have HB1 : Hid (Below w.heap.size w w1) := by rw [hw1]; exact belowNew
  have HX1 : Hid (BoxAt w1 w.heap.size p N o v) := by rw [hw1]; exact BoxAt.new w p N o v _
  have HC1 := hid (divCheck_any p N o v R x lv u vss w1 (hu.below HB1.out) (hl.below HB1.out))
  rw [he] at HC1
  obtain ⟨_, r0, r1, r2, r3⟩ := HX1.out
  have HU := hid hu
  have HL := hid hl
  have HX := hid hx
  have HLO := hid hlo
  have HRL := hid hrl
  have HUR := hid hur
  have HUL := hid hul
  have HLL := hid hll
  have HNO := hid (fun (W : World) => newOrd_any p o v N R W hx)
  have HDO : Hid (∀ W ob sv, Below w.heap.size w W → OrC W ob p o v N R sv → Calls Tryz.prog 18 #[.pointer (some ⟨ob, 0, none⟩), lv] W fun e w' => ∃ d, e = .returned d ∧ ∃ ds fls, DoW p o v N R vss W w' vss.length d ds fls) := fun W ob sv hb hoc => divisorsOf_any ob p o v N R sv lv vss W HX.out hoc HLL.out HLO.out.len HRL.out (HL.out.below hb)
  have HOV : Hid (∀ W ob sv, Below w.heap.size w W → OrC W ob p o v N R sv → Calls Tryz.prog 23 #[.pointer (some ⟨ob, 0, none⟩), .int .i64 0, x] W fun e w' => ∃ y, e = .returned y ∧ ∃ fs, Fv w' y fs ∧ FlR p o v N R 200 u fs ∧ fs.Perm (flV o v N u R) ∧ Below W.heap.size W w') := fun W ob sv hb hoc => orderVecP_any ob p o v N R sv x u W HX.out hoc HUL.out HUR.out (HU.out.below hb)
  have HLEN : Hid (∀ fs : List Ft, FlR p o v N R 200 u fs → fs.length ≤ 100000000000) := fun fs h => gd_len (o := o) (ov := v) (N := N) HX.out.r fs h.dn fun t ht => by
    have h1 := h.gd t ht
    exact ⟨h1.k, h1.a, h1.b, h1.d, by have := h1.deg; omega, h1.z, h1.pl0, h1.pl, h1.n1, h1.n2⟩
  obtain ⟨xa, xc, rfl, _⟩ := hu
  obtain ⟨la, lc, rfl, _⟩ := hl
  unfold ringV at HC1 HNO ⊢
  clear he hx hlo hrl hur hul hll
  go_enter Tryz.func6, Tryz.ntmps6
  go_upto_region 1 with fail
  rw [← hw1]
  clear hw1
  go_upto_region 5 with (first
    | (go_at_call 16; refine HC1.out.mono ?_; rintro e w2 ⟨rfl, hb2⟩; have HB2 := hid (HB1.out.trans (hb2.mono HB1.out.size)); have s0 := cell_keep r0 hb2; have s1 := cell_keep r1 hb2; have s2 := cell_keep r2 hb2; have s3 := cell_keep r3 hb2; clear hb2)
    | (go_at_call 17; refine (HNO.out _).mono ?_; rintro e w3 ⟨ob, rfl, sv, q1, q2⟩; have HOC := hid q1; have HB3 := hid (HB2.out.trans (q2.mono HB2.out.size)); clear q1 q2))
  go_upto_region 6 with (go_at_call 18; refine (HDO.out _ _ _ HB3.out HOC.out).mono ?_; rintro e w4 ⟨dd, rfl, ds, fls, q1⟩; have HD4 := hid q1; clear q1; obtain ⟨da, dc, hdd⟩ := own_sl HD4.out.dvs.own; subst hdd)
  have HDL := hid HD4.out.dlen
  obtain ⟨w5, hw5⟩ : ∃ w5, w5 = w4.alloc (.cells #[.slice da ds.length dc] 45) := ⟨_, rfl⟩
  have H5 : Hid (Below w4.heap.size w4 w5 ∧ w5.cell? ⟨w4.heap.size, 0, none⟩ = some (.slice da ds.length dc)) := by
    show _ ∧ _
    rw [hw5]
    refine ⟨belowNew, ?_⟩
    rw [cell_of_row _ w4.heap.size _ _ 45 (0, 0) (heap_alloc_new w4 _)]
    simp
  rw [← hw5]
  clear hw5
  have HB4 : Hid (Below w.heap.size w w4) := HB3.out.trans (HD4.out.below.mono HB3.out.size)
  have HB5 : Hid (Below w.heap.size w w5) := HB4.out.trans (H5.out.1.mono HB4.out.size)
  have HOC5 := hid ((HOC.out.below HD4.out.below).below H5.out.1)
  have HD5 := hid (HD4.out.dvs.next H5.out.1)
  have HOV5 := hid (HOV.out w5 ob sv HB5.out HOC5.out)
  have HCF : Hid (∀ W y fs, Below w5.heap.size w5 W → Fv W y fs → FlR p o v N R 200 u fs → Calls Tryz.prog 29 #[y, .func (.func 30) #[] #[.pointer (some ⟨w4.heap.size, 0, none⟩)]] W fun e w' => e = .returned (.bool (fs.any fun t => (fI t ds).isSome)) ∧ Below W.heap.size W w') := fun W y fs hb hf hr => containsFn_any p _ w4.heap.size _ y ds fs W (cell_keep H5.out.2 hb) (HD5.out.next hb) (by have := HDL.out; have := HLL.out; omega) hf (HLEN.out fs hr)
  have HMK := hid (And.intro HD4.out.made (And.intro HD4.out.len HD4.out.flr))
  go_wp2_with (first
    | (go_at_call 23; refine HOV5.out.mono ?_; rintro e w6 ⟨y6, rfl, fs6, q1, q2, q3, q4⟩; have HF6 := hid q1; have HR6 := hid q2; have HP6 := hid q3; have HB6 := hid q4; clear q1 q2 q3 q4)
    | (go_at_call 29; refine (HCF.out _ _ _ HB6.out HF6.out HR6.out).mono ?_; rintro e w7 ⟨rfl, hb7⟩; have HB7 := hid hb7; clear hb7))
  have HNR := hid (nrm_any (ds := ds) HX.out HUR.out HUL.out HMK.out.1 HMK.out.2.1 HMK.out.2.2 HP6.out)
  go_ret2
  refine ⟨?_, HB5.out.trans ((HB6.out.trans (HB7.out.mono HB6.out.size)).mono HB5.out.size)⟩
  rw [← HNR.out]; rfl
set_option maxRecDepth 100000 in
set_option maxHeartbeats 2000000 in
theorem divide_err (p n o v rank : Int) (x lv : Value) (u : List (List Tm)) (vss : List (List (List Tm))) (w : World) (hu : Vl w x u) (hl : Wl w lv vss) (he : errDiv p n o v rank u vss ≠ 0) :
    Calls Tryz.prog 5 #[ringV p n o v, .int .i64 rank, x, lv] w fun e w' => e = .returned (.tuple #[.slice none 0 0, .slice none 0 0, .int .i64 (errDiv p n o v rank u vss)]) ∧ Below w.heap.size w w' := by
  obtain ⟨w1, hw1⟩ : ∃ w1, w1 = w.alloc (.cells #[.int .i64 p, .int .i64 n, .int .i64 o, .int .i64 v] 23) := ⟨_, rfl⟩
  have HB1 : Hid (Below w.heap.size w w1) := by rw [hw1]; exact belowNew
  have HX1 : Hid (BoxAt w1 w.heap.size p n o v) := by rw [hw1]; exact BoxAt.new w p n o v _
  have HC1 := hid (divCheck_any p n o v rank x lv u vss w1 (hu.below HB1.out) (hl.below HB1.out))
  obtain ⟨_, r0, r1, r2, r3⟩ := HX1.out
  generalize errDiv p n o v rank u vss = E at HC1 he ⊢
  have hE : (E != 0) = true := by simpa using he
  obtain ⟨xa, xc, rfl, _⟩ := hu
  obtain ⟨la, lc, rfl, _⟩ := hl
  unfold ringV at HC1 ⊢
  go_enter Tryz.func5, Tryz.ntmps5
  go_upto_region 1 with fail
  rw [← hw1]
  clear hw1
  go_wp2_with (go_at_call 16; refine HC1.out.mono ?_; rintro e w2 ⟨rfl, hb2⟩; have HB2 := hid hb2; clear hb2)
  go_ret3
  exact ⟨rfl, HB1.out.trans (HB2.out.mono HB1.out.size)⟩
end Go.Proofs.YtilogbggilchaaaGreat
