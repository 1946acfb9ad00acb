/- poly.Of. -/
import Derived.Test.YtilogbggilchaaaDoorTM
import Derived.Test.YtilogbggilchaaaDoorFK
namespace Go.Proofs.YtilogbggilchaaaDoor
set_option linter.unusedSimpArgs false
set_option linter.unusedVariables false
open Go.RowKit
theorem Tryd.infoPoly : (Tryd.prog.info? 25).map (fun i => (i.zero, i.size, i.bytes)) = some (some (.slice none 0 0), 1, 24) := by kernel_rfl

def errOf (p n o v : Int) (ts : List Tm) : Int := errTs p n o v ts.length (fun k => errTm 0 p n (ts.getD k noT))
theorem firstN_zero {E : Nat → Int} : ∀ (m k : Nat), firstN E m k = 0 → ∀ j, k ≤ j → j < k + m → E j = 0
  | 0, k, _, j, h1, h2 => by omega
  | m + 1, k, h, j, h1, h2 => by
    have hu : firstN E (m + 1) k = if E k ≠ 0 then E k else firstN E m (k + 1) := rfl
    rw [hu] at h
    by_cases hz : E k = 0
    · rw [if_neg (by simpa using hz)] at h
      rcases Nat.eq_or_lt_of_le h1 with rfl | hlt
      · exact hz
      · exact firstN_zero m (k + 1) h j (by omega) (by omega)
    · rw [if_pos hz] at h; exact absurd h hz
theorem errTm_ok {p n : Int} {t : Tm} (h : errTm 0 p n t = 0) : (0 ≤ t.1 ∧ t.1 < p) ∧ errM n t.2 = 0 := by
  unfold errTm at h
  split at h
  · omega
  · rename_i hc
    exact ⟨by omega, h⟩
theorem errOf_ok {p n o v : Int} {ts : List Tm} (h : errOf p n o v ts = 0) : errR p n o v = 0 ∧ ts.length ≤ 2000 ∧ ∀ t ∈ ts, (0 ≤ t.1 ∧ t.1 < p) ∧ errM n t.2 = 0 := by
  unfold errOf errTs at h
  by_cases hr : errR p n o v = 0
  · rw [if_neg (by simpa using hr)] at h
    by_cases hl : 2000 < ts.length
    · rw [if_pos hl] at h; omega
    · rw [if_neg hl] at h
      refine ⟨hr, by omega, fun t ht => ?_⟩
      obtain ⟨j, hj, rfl⟩ := List.getElem_of_mem ht
      have := firstN_zero _ _ h j (by omega) (by omega)
      rw [List.getD_eq_getElem?_getD, List.getElem?_eq_getElem hj] at this
      exact errTm_ok this
  · rw [if_pos hr] at h; exact absurd h hr
theorem of_right {p n o v : Int} {ts : List Tm} (h : errOf p n o v ts = 0) : (∀ t ∈ ts, Tok p n.toNat t) ∧ (∀ t ∈ ts, sumI t.2 ≤ 200) ∧ ts.length ≤ 2000 ∧ 0 < n.toNat ∧ n.toNat ≤ 3 ∧ (2 ≤ p ∧ p ≤ 101) ∧ (o = 1 ∨ o = 2) := by
  obtain ⟨hr, hl, hall⟩ := errOf_ok h
  obtain ⟨h1, h2, h3, h4, _⟩ := ring_ok hr
  refine ⟨fun t ht => ?_, fun t ht => (errM_ok (hall t ht).2).2.2, hl, by omega, by omega, errP_bd h1, h4⟩
  have hm := errM_ok (hall t ht).2
  exact ⟨by have := hm.1; omega, fun x hx => by have := hm.2.1 x hx; omega, (hall t ht).1⟩
def nzT (ts : List Tm) : List Tm := ts.filter fun t => t.1 != 0
theorem nzT_snoc (ts : List Tm) (t : Tm) : nzT (ts ++ [t]) = if t.1 = 0 then nzT ts else nzT ts ++ [t] := by
  unfold nzT
  rw [List.filter_append]
  by_cases h : t.1 = 0
  · rw [if_pos h]; simp [h]
  · rw [if_neg h]; simp [h]
theorem lin_nzT (φ : List Int → Int) : ∀ ts : List Tm, lin φ (nzT ts) = lin φ ts
  | [] => rfl
  | t :: ts => by
    have ih := lin_nzT φ ts
    unfold nzT at ih ⊢
    by_cases h : t.1 = 0
    · rw [List.filter_cons_of_neg (by simp [h]), ih]; simp [lin, h]
    · rw [List.filter_cons_of_pos (by simp [h])]; simp only [lin]; rw [ih]
theorem col_nzT {p o : Int} {N : Nat} {ts : List Tm} (hp : 2 ≤ p) (h : ∀ t ∈ ts, Tok p N t) : colL p o (nzT ts) = colL p o ts := by
  have hm : ∀ t ∈ nzT ts, t ∈ ts := fun t ht => (List.mem_filter.1 ht).1
  refine col_of_canon hp (n := N) (fun t ht => (h t ht).1) (fun t ht => (h t ht).2.2) (col_canon hp (fun t ht => (h t (hm t ht)).1) (fun t ht => (h t (hm t ht)).2.2)) (fun φ => ?_)
  have := same_col p o (nzT ts) φ
  rwa [lin_nzT] at this
theorem of_great {p n o v : Int} {ts : List Tm} (h : errOf p n o v ts = 0) : greatB (colL p o ts) = false := by
  obtain ⟨_, h2, h3, _⟩ := of_right h
  rw [great_small (fun x hx => by
    obtain ⟨y, hy, e⟩ := col_mem hx
    rw [e]; exact h2 y hy)]
  have := col_len (p := p) (o := o) ts
  exact decide_eq_false (by omega)

structure Sing (w1 w : World) (sv : Value) (qs : List (TV × Value)) : Prop where
  own : w.ownsRow w1.heap.size 25 1 sv qs.length (qs.map Prod.snd)
  rows : ∀ q ∈ qs, w.ownsRow w1.heap.size 55 2 q.2 1 (flat [q.1])
  es : ∀ q ∈ qs, Sl w1 q.1.2.1 q.1.2.2
  below : Below w1.heap.size w1 w
theorem Sing.next {w1 w w' : World} {sv : Value} {qs : List (TV × Value)} (h : Sing w1 w sv qs) (hb : Below w.heap.size w w') : Sing w1 w' sv qs :=
  ⟨ownBlock_lt h.own hb, fun q hq => ownBlock_lt (h.rows q hq) hb, h.es, h.below.trans (hb.mono h.below.size)⟩
theorem Sing.snoc {w1 W W2 : World} {sv sv2 : Value} {qs : List (TV × Value)} {q : TV × Value} (h : Sing w1 W sv qs) (hq : W.ownsRow w1.heap.size 55 2 q.2 1 (flat [q.1])) (he : Sl w1 q.1.2.1 q.1.2.2)
    (h2 : W2.ownsRow w1.heap.size 25 1 sv2 (qs.length + 1) (qs.map Prod.snd ++ [q.2])) (g2 : W.grownBy W2 sv.ownBlock) : Sing w1 W2 sv2 (qs ++ [q]) := by
  have hT : (55 : TypeId) ≠ 25 := by decide
  refine ⟨by rw [List.length_append, List.map_append]; exact h2, fun r hr => ?_, fun r hr => ?_, own_grown h.own h.below g2 (Nat.le_refl _)⟩
  · rcases List.mem_append.1 hr with hr | hr
    · exact (h.rows r hr).kept g2 (own_neT hT (h.rows r hr) h.own)
    · rw [List.mem_singleton] at hr; subst hr
      exact hq.kept g2 (own_neT hT hq h.own)
  · rcases List.mem_append.1 hr with hr | hr
    · exact h.es r hr
    · rw [List.mem_singleton] at hr; subst hr; exact he
theorem Sing.vl {w1 w : World} {sv : Value} {qs : List (TV × Value)} (h : Sing w1 w sv qs) : Vl w sv (qs.map fun q => [tm q.1]) := by
  obtain ⟨a, c, rfl⟩ := own_sl h.own
  refine ⟨a, c, by rw [List.length_map], fun hp => ?_⟩
  rw [List.length_map] at hp
  obtain ⟨g, rfl, _, hlt, _⟩ := own_at1 h.own 0 hp
  refine ⟨g, 0, rfl, hlt, fun i hi => ?_⟩
  rw [List.length_map] at hi
  obtain ⟨g2, hg2, _, _, hc⟩ := own_at1 h.own i hi
  simp only [Option.some.injEq, Addr.mk.injEq, and_true] at hg2
  subst hg2
  have e : (qs.map fun q => [tm q.1]).getD i [] = [tm qs[i].1] := by simp [List.getD_eq_getElem?_getD, hi]
  rw [e]
  refine ⟨qs[i].2, by rw [Nat.zero_add, hc]; simp [hi], ?_⟩
  have hm : qs[i] ∈ qs := List.getElem_mem hi
  exact own_pl (ts := [qs[i].1]) (h.rows _ hm) (fun t ht => by
    rw [List.mem_singleton] at ht; subst ht
    exact (h.es _ hm).below h.below)
theorem flat_single : ∀ qs : List (TV × Value), (qs.map fun q => [tm q.1]).flatten = qs.map fun q => tm q.1
  | [] => rfl
  | q :: qs => by
    have ih := flat_single qs
    rw [List.map_cons, List.flatten_cons, ih, List.map_cons]; rfl
theorem made_term {w : World} {B : Nat} (hB : B ≤ w.heap.size) (c : Int) (ev : Value) : (w.alloc (.cells #[.int .i64 c, ev] 55)).ownsRow B 55 2 (.slice (some ⟨w.heap.size, 0, none⟩) 1 1) 1 [.int .i64 c, ev] :=
  ⟨by simp, .inr ⟨w.heap.size, 1, _, rfl, hB, heap_alloc_new w _, Nat.le_refl _, by decide, by simp, by simp⟩⟩

theorem one_sliceO (a : Option Addr) (n k : Nat) : ∀ u ∈ [Value.slice a n k], u.oneCell' = true := by
  intro u hu; simp at hu; subst hu; rfl

def ofR (p n o v : Int) (ts : List Tm) : List Tm := if errOf p n o v ts = 0 then colL p o ts else []

set_option maxRecDepth 100000 in
set_option maxHeartbeats 2000000 in
theorem polyOf_any (p n o v : Int) (x : Value) (ts : List Tm) (w : World) (pf : Pl w x ts) :
    Calls Tryd.prog 14 #[ringV p n o v, x] w fun e w' => ∃ u, e = .returned (.tuple #[u, .int .i64 (errOf p n o v ts)]) ∧ Pl w' u (ofR p n o v ts) ∧ Below w.heap.size w w' := by
  have HP := hid pf
  obtain ⟨a, c, rfl, _, hfc⟩ := pf
  have HFC := hid hfc
  clear hfc
  obtain ⟨w2, hw2⟩ : ∃ w2, w2 = (w.alloc (.cells #[.int .i64 p, .int .i64 n, .int .i64 o, .int .i64 v] 23)).alloc (.cells #[.slice a ts.length c] 24) := ⟨_, rfl⟩
  have hb2 : Below w.heap.size w w2 := by rw [hw2]; exact below_two
  have hbx : BoxAt w2 w.heap.size p n o v := by rw [hw2]; exact (BoxAt.new w p n o v _).below below_oneG
  have hcf : w2.cell? ⟨w.heap.size + 1, 0, none⟩ = some (.slice a ts.length c) := by rw [hw2]; simp [go_sem]
  have HCT := hid (checkTermsO_any p n o v _ ts w.heap.size (w.heap.size + 1) (fun k => errTm 0 p n (ts.getD k noT)) w2 (HP.out.below hb2) (fun hr hl i w' hi hj hb => ofFn_any p n o v i w.heap.size (w.heap.size + 1) _ ts w' hr hi (hbx.below hb) (cell_keep hcf hb) ((HP.out.below hb2).below hb)))
  have HB2 := hid hb2
  have HBX := hid hbx
  have HCF := hid hcf
  clear hb2 hbx hcf
  have HUE : Hid (errTs p n o v ts.length (fun k => errTm 0 p n (ts.getD k noT)) = errOf p n o v ts) := rfl
  rw [HUE.out] at HCT
  cases hz : (errOf p n o v ts != 0)
  · have hz0 : errOf p n o v ts = 0 := by simpa using hz
    have HRR : Hid (ofR p n o v ts = colL p o ts) := by show _ = _; unfold ofR; rw [if_pos hz0]
    rw [HRR.out, hz0]
    obtain ⟨htok, _, hlen, hN0, hN3, hp, ho⟩ := of_right hz0
    have HTK := hid htok
    have HPO := hid (And.intro hp ho)
    have HZ := hid hz0
    obtain ⟨i0, hi, hz0', hz1, hz2⟩ := info_parts Tryd.infoPoly
    have HI := hid (And.intro hi (And.intro hz0' (And.intro hz1 hz2)))
    clear htok hp ho hz0 hi hz0' hz1 hz2
    go_enter Tryd.func14, Tryd.ntmps14
    go_wp2_with fail
    try rw [← hw2]
    refine HCT.out.mono ?_
    rw [HZ.out]
    rintro e w3 ⟨rfl, hb3⟩
    have HB3 := hid (HB2.out.trans (hb3.mono HB2.out.size))
    have HBX3 := hid (HBX.out.below hb3)
    obtain ⟨_, bx0, bx1, bx2, bx3⟩ := HBX.out.below hb3
    have hcf3 := cell_keep HCF.out hb3
    clear hb3
    go_wp2_with fail
    go_loopw [7, 19] (fun z i wr => ∃ (k : Nat) (qs : List (TV × Value)), k ≤ ts.length ∧ i = .int .i64 k ∧ qs.length ≤ k ∧ (qs.map fun q => tm q.1) = nzT (ts.take k) ∧ Sing w3 wr z qs) (fun _ i _ => ts.length - (intOf i).toNat)
    case atStart => exact ⟨0, [], Nat.zero_le _, rfl, Nat.le_refl _, rfl, ⟨World.ownsRow_nil _ _ _ _, fun q hq => by simp at hq, fun q hq => by simp at hq, Below.refl _ _⟩⟩
    case round =>
      obtain ⟨k, qs, hk, rfl, hqk, hnz, hsing⟩ := hrel
      have HS := hid hsing
      have HNZ := hid hnz
      obtain ⟨za, zc, hzv⟩ := own_sl hsing.own
      subst hzv
      clear hsing hnz
      by_cases hk2 : k < ts.length
      · obtain ⟨b, off, rfl, hlt, hat⟩ := HFC.out (by omega)
        obtain ⟨c0, ev, c1, hse⟩ := hat k hk2
        have HDN := hid (HB3.out.trans (HS.out.below.mono HB3.out.size))
        have HTS : Hid (nzT (ts.take (k + 1)) = if (ts.getD k noT).1 = 0 then nzT (ts.take k) else nzT (ts.take k) ++ [ts.getD k noT]) := by
          show _ = _
          rw [← nzT_snoc, List.take_succ_eq_append_getElem hk2]
          simp [List.getD_eq_getElem?_getD, hk2]
        generalize ts.getD k noT = t at c0 hse HTS
        obtain ⟨tc, te⟩ := t
        have HSE := hid (hse.below HB3.out)
        obtain ⟨ea, ec, rfl, _⟩ := hse
        simp only at c0 c1 HTS
        have d0 := cell_keep c0 HDN.out
        have d1 := cell_keep c1 HDN.out
        clear hat c0 c1
        cases htc : (tc != 0)
        · have HT0 : Hid (tc = 0) := hid (by simpa using htc)
          go_wp2
          go_roundw
          case rel => exact ⟨k + 1, qs, by omega, by go_num, by omega, by rw [HTS.out, if_pos HT0.out]; exact HNZ.out, HS.out.next belowNew⟩
          case measure => simp [intOf]; omega
        · have HT0 : Hid (tc ≠ 0) := hid (by simpa using htc)
          have HB5 : Hid (∀ A B C, Below wr.heap.size wr (((wr.alloc A).alloc B).alloc C)) := fun A B C => (below_two (w := wr)).trans (belowNew.mono below_two.size)
          have HS5 := hid (fun A B C => HS.out.next (HB5.out A B C))
          go_wp2_with (at_builtin; refine wpList_append_own _ rfl (.tmp 26) (.tmp 29) 30 rfl w3.heap.size 25 i0 _ 1 24 Tryd.underlying30 HI.out.1 HI.out.2.1 HI.out.2.2.1 HI.out.2.2.2 rfl (by decide) _ qs.length _ rfl (HS5.out _ _ _).own ⟨wr.heap.size + 2, 0, none⟩ 1 1 [.slice (some ⟨wr.heap.size + 1, 0, none⟩) 1 1] rfl rfl (by intro j u hj; rcases j with _ | j; (simp at hj; subst hj; simp [Addr.add, go_sem]); simp at hj) (one_sliceO _ _ _) (by unfold maxLen; omega) (by omega) (Nat.le_trans HS.out.below.size (HB5.out _ _ _).size) ?_; intro v3 w5 r1 r2 _; have R1 := hid r1; have R2 := hid r2; obtain ⟨va3, vc3, hv3⟩ := own_sl r1; subst hv3; clear r1 r2)
          go_roundw
          case rel =>
            refine ⟨k + 1, qs ++ [((tc, .slice ea te.length ec, te), .slice (some ⟨wr.heap.size + 1, 0, none⟩) 1 1)], by omega, by go_num, by rw [List.length_append]; simp; omega, by rw [HTS.out, if_neg HT0.out, List.map_append, HNZ.out]; rfl, ?_⟩
            refine (HS5.out _ _ _).snoc ?_ HSE.out R1.out R2.out
            have hmt := made_term (w := wr.alloc (.cells #[.int .i64 tc, .slice ea te.length ec] 55)) (B := w3.heap.size) (Nat.le_trans HS.out.below.size (by simp)) tc (.slice ea te.length ec)
            have := ownBlock_lt hmt (belowNew (A := .cells #[.slice (some ⟨wr.heap.size + 1, 0, none⟩) 1 1] 25))
            simpa [flat] using this
          case measure => simp [intOf]; omega
      · have e : k = ts.length := by omega
        subst e
        have HV := hid HS.out.vl
        have HFL : Hid ((qs.map fun q => [tm q.1]).flatten = nzT ts) := by
          show _ = _
          have h1 := HNZ.out
          rw [List.take_of_length_le (Nat.le_refl _)] at h1
          rw [← h1, flat_single]
        have HQL : Hid ((qs.map fun q => [tm q.1]).length ≤ 2000) := by show _ ≤ _; rw [List.length_map]; omega
        have HCA : Hid (∀ f ∈ qs.map fun q => [tm q.1], Canon p o n.toNat f ∧ Bd f ∧ f.length ≤ 1) := by
          intro f hf
          obtain ⟨q, hq, rfl⟩ := List.mem_map.1 hf
          have hmem : tm q.1 ∈ nzT ts := by
            rw [← HFL.out, List.mem_flatten]
            exact ⟨_, List.mem_map_of_mem hq, by simp⟩
          have hm2 := List.mem_filter.1 hmem
          have ht := HTK.out _ hm2.1
          have hne : (tm q.1).1 ≠ 0 := by simpa using hm2.2
          refine ⟨⟨fun t h => by rw [List.mem_singleton] at h; subst h; exact ht.1, ⟨fun u hu => by simp at hu, trivial⟩, fun t h => by rw [List.mem_singleton] at h; subst h; have := ht.2.2; omega⟩, fun t h => by rw [List.mem_singleton] at h; subst h; exact ht.2.1, by simp⟩
        obtain ⟨_, bx0, bx1, bx2, bx3⟩ := HBX3.out.below HS.out.below
        have HSB := hid (fun (W : World) (hb : Vl W (.slice za qs.length zc) (qs.map fun q => [tm q.1])) => bareSum_any p n o v n.toNat 1 _ (qs.map fun q => [tm q.1]) W HPO.out.1 HPO.out.2 hN0 hN3 HCA.out (by have := HQL.out; omega) (by have := HQL.out; omega) hb)
        go_wp2_with (go_at_call 25; refine (HSB.out _ HV.out).mono ?_; rintro e w6 ⟨u, rfl, hu, hb6⟩; have HU := hid hu; have HB6 := hid hb6; obtain ⟨ua, uc, rfl, _, _⟩ := hu; clear hb6)
        go_ret2
        have hfe : colL p o ((qs.map fun q => [tm q.1]).flatten) = colL p o ts := by rw [HFL.out, col_nzT HPO.out.1.1 HTK.out]
        refine ⟨.slice ua (colL p o ((qs.map fun q => [tm q.1]).flatten)).length uc, rfl, ?_, HB3.out.trans ((HS.out.below.trans (HB6.out.mono HS.out.below.size)).mono HB3.out.size)⟩
        have h := HU.out
        rw [hfe] at h ⊢
        exact h
  · have hz0 : errOf p n o v ts ≠ 0 := by simpa using hz
    have HRR : Hid (ofR p n o v ts = []) := by show _ = _; unfold ofR; rw [if_neg hz0]
    rw [HRR.out]
    clear hz0
    go_enter Tryd.func14, Tryd.ntmps14
    go_wp2_with fail
    try rw [← hw2]
    refine HCT.out.mono ?_
    rintro e w3 ⟨rfl, hb3⟩
    have HB3 := hid (HB2.out.trans (hb3.mono HB2.out.size))
    clear hb3
    go_wp2
    go_ret2
    exact ⟨_, rfl, Pl.empty _, HB3.out⟩
end Go.Proofs.YtilogbggilchaaaDoor
