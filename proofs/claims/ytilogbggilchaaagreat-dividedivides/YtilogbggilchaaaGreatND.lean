/- checkDivide, one, divideBegun; what is too great. -/
import Derived.Test.YtilogbggilchaaaGreatNC
import Derived.Test.YtilogbggilchaaaGreatNB
import Derived.Test.YtilogbggilchaaaGreatQZ
import Derived.Test.YtilogbggilchaaaGreatQK
import Derived.Test.YtilogbggilchaaaGreatWK
import Derived.Test.YtilogbggilchaaaGreatZP
namespace Go.Proofs.YtilogbggilchaaaGreat
set_option linter.unusedSimpArgs false
set_option linter.unusedVariables false
open Go.RowKit
set_option maxRecDepth 100000 in
set_option maxHeartbeats 2000000 in
theorem checkDivide_any (p n o v rank : Int) (x lv : Value) (u : List (List Tm)) (vss : List (List (List Tm))) (w : World) (hu : Vl w x u) (hl : Wl w lv vss) :
    Calls Tryz.prog 7 #[ringV p n o v, .int .i64 rank, x, lv] w fun e w' => e = .returned (.int .i64 (errDiv p n o v rank u vss)) ∧ Below w.heap.size w w' := by
  obtain ⟨w1, hw1⟩ : ∃ w1, w1 = w.alloc (.cells #[.int .i64 p, .int .i64 n, .int .i64 o, .int .i64 v] 23) := ⟨_, rfl⟩
  have HB1 : Hid (Below w.heap.size w w1) := by rw [hw1]; exact belowNew
  have HX1 : Hid (BoxAt w1 w.heap.size p n o v) := by rw [hw1]; exact BoxAt.new w p n o v _
  have HU := hid hu
  have HC1 := hid (checkVectors_any p n o v rank lv vss w1 (hl.below HB1.out))
  obtain ⟨xa, xc, rfl, _⟩ := hu
  obtain ⟨_, r0, r1, r2, r3⟩ := HX1.out
  by_cases h1 : errVecs p n o v rank vss = 0
  · have hR : errR p n o v = 0 := by
      unfold errVecs at h1
      by_cases h : errR p n o v = 0
      · exact h
      · rw [if_pos h] at h1; exact absurd h1 h
    have HE : Hid (errDiv p n o v rank u vss = errList p n o rank [u]) := by
      show _ = _
      unfold errDiv
      rw [if_neg (by simpa using h1)]
      unfold errVecs
      rw [if_neg (by simpa using hR)]
    have HC2 : Hid (∀ W, Below w1.heap.size w1 W → Calls Tryz.prog 32 #[ringV p n o v, .int .i64 rank, .slice (some ⟨W.heap.size, 0, none⟩) 1 1] (W.alloc (.cells #[.slice xa u.length xc] 25)) fun e w' => e = .returned (.int .i64 (errList p n o rank [u])) ∧ Below (W.alloc (.cells #[.slice xa u.length xc] 25)).heap.size (W.alloc (.cells #[.slice xa u.length xc] 25)) w') := fun W hb =>
      checkList_any p n o v rank _ [u] _ hR (wl_one (((HU.out.below HB1.out).below hb).below belowNew) (by simp) (by simp [go_sem]))
    rw [HE.out]
    rw [h1] at HC1
    unfold ringV at HC1 HC2 ⊢
    clear hl h1 hR
    go_enter Tryz.func7, Tryz.ntmps7
    go_upto_region 1 with fail
    rw [← hw1]
    clear hw1
    go_upto_region 3 with (go_at_call 31; refine HC1.out.mono ?_; rintro e w2 ⟨rfl, hb2⟩; have HB2 := hid hb2; have s0 := cell_keep r0 hb2; have s1 := cell_keep r1 hb2; have s2 := cell_keep r2 hb2; have s3 := cell_keep r3 hb2; clear hb2)
    go_wp2_with (go_at_call 32; refine (HC2.out _ HB2.out).mono ?_; rintro e w3 ⟨rfl, hb3⟩; have HB3 := hid hb3; clear hb3)
    go_ret
    exact ⟨rfl, (HB1.out.trans (HB2.out.mono HB1.out.size)).trans ((belowNew.trans (HB3.out.mono belowNew.size)).mono (HB1.out.trans (HB2.out.mono HB1.out.size)).size)⟩
  · have HE : Hid (errDiv p n o v rank u vss = errVecs p n o v rank vss) := by show _ = _; unfold errDiv; rw [if_pos h1]
    rw [HE.out]
    unfold ringV at HC1 ⊢
    generalize errVecs p n o v rank vss = E at HC1 h1
    have hb : (E == 0) = false := by simpa using h1
    go_enter Tryz.func7, Tryz.ntmps7
    go_upto_region 1 with fail
    rw [← hw1]
    clear hw1
    go_wp2_with (go_at_call 31; refine HC1.out.mono ?_; rintro e w2 ⟨rfl, hb2⟩; have HB2 := hid hb2; clear hb2)
    go_ret
    exact ⟨rfl, HB1.out.trans (HB2.out.mono HB1.out.size)⟩

theorem Dv.uniq {p o ov : Int} {lss : List (List (List Tm))} {a b c : DS} (h : Dv p o ov lss a b) (k : Dv p o ov lss a c) (hb : dstep p o ov lss b = none) (hc : dstep p o ov lss c = none) : b = c := by
  rcases (Dv.linear h k hc).first with e | ⟨d, hd, _⟩
  · exact e
  · rw [hb] at hd; simp at hd
theorem dstep_end {p o ov : Int} {lss : List (List (List Tm))} {s : DS} (h : leadF o ov s.v s.v.length = none) : dstep p o ov lss s = none := by
  unfold dstep; rw [h]
theorem qs_at {tss : Bool → List (List TV)} {s : DS} (h : QS tss s) (b : Bool) (i : Nat) : ((tss b).getD i []).map tm = (if b then s.q else s.l).getD i [] := by
  have e : (tss b).map (List.map tm) = if b then s.q else s.l := by
    cases b
    · simpa using h.l
    · simpa using h.q
  rw [← e]
  simp only [List.getD_eq_getElem?_getD, List.getElem?_map]
  cases (tss b)[i]? <;> rfl
theorem great_pre {f g : List Tm} (h : f <+: g) (hg : greatB f = true) : greatB g = true := by
  by_cases hx : ∃ x ∈ g, 200 < sumI x.2
  · obtain ⟨x, hx, h2⟩ := hx
    exact great_large hx h2
  · have hs : ∀ x ∈ g, sumI x.2 ≤ 200 := fun x hx2 => by
      have hn : ¬ 200 < sumI x.2 := fun hlt => hx ⟨x, hx2, hlt⟩
      omega
    have hsf : ∀ x ∈ f, sumI x.2 ≤ 200 := fun x hx2 => hs x (h.subset hx2)
    rw [great_small hsf] at hg
    rw [great_small hs]
    have := h.length_le
    simp only [decide_eq_true_eq] at hg ⊢
    omega
theorem grt_great {p o ov : Int} {lss : List (List (List Tm))} {tss : Bool → List (List TV)} {s s2 : DS} (h : QS tss s) (hg : Grt tss) (hd : Dv p o ov lss s s2) : (s2.q.any greatB || s2.l.any greatB) = true := by
  obtain ⟨b, i, hi, hgr⟩ := hg
  have ha := qs_at h b i
  have hgb : greatB ((if b then s.q else s.l).getD i []) = true := by
    rw [← ha]
    rcases hgr with h1 | ⟨t, ht, h2⟩
    · by_cases hx : ∃ x ∈ ((tss b).getD i []).map tm, 200 < sumI x.2
      · obtain ⟨x, hx, h2⟩ := hx; exact great_large hx h2
      · rw [great_small (fun x hx2 => by have hn : ¬ 200 < sumI x.2 := fun hlt => hx ⟨x, hx2, hlt⟩; omega)]
        simpa using h1
    · exact great_large (List.mem_map.2 ⟨t, ht, rfl⟩) h2
  obtain ⟨p1, p2, p3, p4⟩ := hd.pre
  cases b
  · simp only [Bool.false_eq_true, if_false] at hgb
    have h5 := great_pre (p4 i) hgb
    have hil : i < s2.l.length := by
      rw [p2, ← h.l, List.length_map]; exact hi
    rw [Bool.or_eq_true]
    exact Or.inr (List.any_eq_true.2 ⟨_, getD_memL s2.l i hil, h5⟩)
  · simp only [if_true] at hgb
    have h5 := great_pre (p3 i) hgb
    have hil : i < s2.q.length := by
      rw [p1, ← h.q, List.length_map]; exact hi
    rw [Bool.or_eq_true]
    exact Or.inl (List.any_eq_true.2 ⟨_, getD_memL s2.q i hil, h5⟩)
theorem sml_small {tss : Bool → List (List TV)} {s : DS} (h : QS tss s) (hs : Sml tss) : s.q.any greatB = false ∧ s.l.any greatB = false := by
  have key : ∀ (b : Bool) (i : Nat), greatB ((if b then s.q else s.l).getD i []) = false := fun b i => by
    rw [← qs_at h b i]
    rw [great_small (fun x hx => by
      obtain ⟨t, ht, rfl⟩ := List.mem_map.1 hx
      exact (hs b i).2 t ht)]
    have := (hs b i).1
    simp only [List.length_map, decide_eq_false_iff_not]; omega
  constructor
  · rw [List.any_eq_false]
    intro f hf
    obtain ⟨i, hi, rfl⟩ := List.getElem_of_mem hf
    have := key true i
    simpa [List.getD_eq_getElem?_getD, hi] using this
  · rw [List.any_eq_false]
    intro f hf
    obtain ⟨i, hi, rfl⟩ := List.getElem_of_mem hf
    have := key false i
    simpa [List.getD_eq_getElem?_getD, hi] using this
abbrev lB : List (List (List Tm)) := [[[(1, [1, 0])]]]
abbrev uB : List (List Tm) := [[(3, [1, 1]), (1, [0, 1])]]
abbrev qB : List (List Tm) := [[(3, [0, 1])]]
abbrev xB : List (List Tm) := [[(1, [0, 1])]]
theorem vl_oneB {w : World} {f : List Tm} {x : Value} {b c : Nat} (hf : Pl w x f) (hlt : b < w.heap.size) (c0 : w.cell? ⟨b, 0, none⟩ = some x) : Vl w (.slice (some ⟨b, 0, none⟩) 1 c) [f] := by
  refine ⟨_, c, rfl, fun _ => ⟨b, 0, rfl, hlt, fun i hi => ?_⟩⟩
  have e : i = 0 := by simp at hi; omega
  subst e
  exact ⟨x, c0, hf⟩
set_option maxRecDepth 100000 in
set_option maxHeartbeats 2000000 in
theorem one_any (w : World) : Calls Tryz.prog 43 #[] w fun e w' => ∃ a c, e = .returned (.slice a 1 c) ∧ Wl w' (.slice a 1 c) lB ∧ Below w.heap.size w w' := by
  go_enter Tryz.func43, Tryz.ntmps43
  go_wp2_with fail
  refine (term_any _ _ _ _ _).mono ?_
  rintro e w1 ⟨rfl, hb1⟩
  have HS1 := hid ((Sl.new2 w 1 0 _).below hb1)
  have HB1 := hid (show Below w.heap.size w w1 from below_one.trans (hb1.mono (by simp)))
  clear hb1
  have HV : Hid (∀ T T' T'', Wl (((w1.alloc (.cells #[.int .i64 1, .slice (some ⟨w.heap.size, 0, none⟩) 2 2] T)).alloc (.cells #[.slice (some ⟨w1.heap.size, 0, none⟩) 1 1] T')).alloc (.cells #[.slice (some ⟨w1.heap.size + 1, 0, none⟩) 1 1] T'')) (.slice (some ⟨w1.heap.size + 1 + 1, 0, none⟩) 1 1) lB) := fun T T' T'' => by
    have v1 : Vl ((w1.alloc (.cells #[.int .i64 1, .slice (some ⟨w.heap.size, 0, none⟩) 2 2] T)).alloc (.cells #[.slice (some ⟨w1.heap.size, 0, none⟩) 1 1] T')) (.slice (some ⟨w1.heap.size + 1, 0, none⟩) 1 1) [[(1, [1, 0])]] := vl_oneB ((pl_new1 HS1.out).below belowNew) (by simp) (by simp [go_sem])
    exact wl_one (v1.below belowNew) (by simp) (by simp [go_sem])
  go_wp2
  go_ret
  exact ⟨_, _, rfl, HV.out _ _ _, HB1.out.trans ((below_three).mono HB1.out.size)⟩
theorem dB1 : dstep 7 1 1 lB ⟨uB, [[]], [[]]⟩ = some ⟨[[(1, [0, 1])]], [[(3, [0, 1])]], [[]]⟩ := by kernel_rfl
theorem dB2 : dstep 7 1 1 lB ⟨[[(1, [0, 1])]], [[(3, [0, 1])]], [[]]⟩ = some ⟨[[]], qB, xB⟩ := by kernel_rfl
theorem dBv : Dv 7 1 1 lB ⟨uB, [[]], [[]]⟩ ⟨[[]], qB, xB⟩ := ((Dv.refl _).step dB1).step dB2
theorem dBe : leadF 1 1 [[]] 1 = none ∧ (qB.any greatB || xB.any greatB) = false ∧ errDiv 7 2 1 1 1 uB lB = 0 ∧ errDiv 7 2 1 1 1 xB lB = 0 ∧ nrmB 1 1 lB xB = true := by
  refine ⟨by decide +kernel, by decide +kernel, by decide +kernel, by decide +kernel, by decide +kernel⟩
theorem divB (x lv : Value) (w : World) (hx : Vl w x uB) (hl : Wl w lv lB) : Calls Tryz.prog 5 #[ringV 7 2 1 1, .int .i64 1, x, lv] w fun e w' => ∃ qa qc xa xc, e = .returned (.tuple #[.slice qa 1 qc, .slice xa 1 xc, .int .i64 0]) ∧ Vl w' (.slice qa 1 qc) qB ∧ Vl w' (.slice xa 1 xc) xB ∧ Below w.heap.size w w' := by
  refine (divide_ok 7 1 1 1 2 x lv uB lB w hx hl dBe.2.2.1).mono ?_
  rintro e w' ⟨hb, s, tss, hqs, hdv, h⟩
  have hdv2 : Dv 7 1 1 lB ⟨uB, [[]], [[]]⟩ s := hdv
  have hend : dstep 7 1 1 lB ⟨[[]], qB, xB⟩ = none := dstep_end dBe.1
  rcases h with ⟨qv, xv, rfl, hq, hxv, hld, _⟩ | ⟨rfl, hg⟩
  · have es := Dv.uniq hdv2 dBv (dstep_end hld) hend
    subst es
    obtain ⟨qa, qc, rfl, _⟩ := id hq
    obtain ⟨xa, xc, rfl, _⟩ := id hxv
    exact ⟨qa, qc, xa, xc, rfl, hq, hxv, hb⟩
  · have h1 := grt_great hqs hg (Dv.linear hdv2 dBv hend)
    rw [dBe.2.1] at h1
    cases h1

set_option maxRecDepth 100000 in
set_option maxHeartbeats 4000000 in
theorem divideBegun_any (w : World) : Calls Tryz.prog 11 #[] w fun e w' => e = .returned (.bool true) ∧ Below w.heap.size w w' := by
  go_enter Tryz.func11, Tryz.ntmps11
  go_wp2_with fail
  refine (xy_any _).mono ?_
  rintro e w1 ⟨rfl, hb1⟩
  have HB1 := hid hb1
  clear hb1
  go_wp2_with fail
  refine (term_any _ _ _ _ _).mono ?_
  rintro e w2 ⟨rfl, hb2⟩
  have HS2 := hid ((Sl.new2 w1 1 1 _).below hb2)
  have HB2 := hid (show Below w.heap.size w w2 from HB1.out.trans ((below_one.trans (hb2.mono (by simp))).mono HB1.out.size))
  clear hb2
  go_wp2_with fail
  refine (term_any _ _ _ _ _).mono ?_
  rintro e w3 ⟨rfl, hb3⟩
  have HS3 := hid ((HS2.out.below below_one).below hb3)
  have HT3 := hid ((Sl.new2 w2 0 1 _).below hb3)
  have HB3 := hid (show Below w.heap.size w w3 from HB2.out.trans ((below_one.trans (hb3.mono (by simp))).mono HB2.out.size))
  clear hb3
  have HV : Hid (∀ T T', Vl ((w3.alloc (.cells #[.int .i64 3, .slice (some ⟨w1.heap.size, 0, none⟩) 2 2, .int .i64 1, .slice (some ⟨w2.heap.size, 0, none⟩) 2 2] T)).alloc (.cells #[.slice (some ⟨w3.heap.size, 0, none⟩) 2 2] T')) (.slice (some ⟨w3.heap.size + 1, 0, none⟩) 1 1) uB) := fun T T' =>
    vl_oneB ((pl_new2 HS3.out HT3.out).below belowNew) (by simp) (by simp [go_sem])
  go_wp2_with fail
  refine (one_any _).mono ?_
  rintro e w4 ⟨la, lc, rfl, hl4, hb4⟩
  have HL4 := hid hl4
  have HV4 := hid ((HV.out _ _).below hb4)
  have HB4 := hid (show Below w.heap.size w w4 from HB3.out.trans ((below_two.trans (hb4.mono below_two.size)).mono HB3.out.size))
  clear hl4 hb4
  go_wp2_with fail
  refine (divB _ _ _ HV4.out HL4.out).mono ?_
  rintro e w5 ⟨qa, qc, xa, xc, rfl, hq5, hx5, hb5⟩
  have HQ5 := hid hq5
  have HX5 := hid hx5
  have HB5 := hid (HB4.out.trans (hb5.mono HB4.out.size))
  clear hq5 hx5 hb5
  go_wp2_with fail
  refine (xy_any _).mono ?_
  rintro e w6 ⟨rfl, hb6⟩
  have HQ6 := hid (HQ5.out.below hb6)
  have HX6 := hid (HX5.out.below hb6)
  have HB6 := hid (HB5.out.trans (hb6.mono HB5.out.size))
  clear hb6
  go_wp2_with fail
  refine (one_any _).mono ?_
  rintro e w7 ⟨ma, mc, rfl, hl7, hb7⟩
  have HL7 := hid hl7
  have HQ7 := hid (HQ6.out.below hb7)
  have HX7 := hid (HX6.out.below hb7)
  have HB7 := hid (HB6.out.trans (hb7.mono HB6.out.size))
  clear hl7 hb7
  have HN7 : Hid (Calls Tryz.prog 6 #[ringV 7 2 1 1, .int .i64 1, .slice xa 1 xc, .slice ma 1 mc] w7 fun e w' => e = .returned (.tuple #[.bool true, .int .i64 0]) ∧ Below w7.heap.size w7 w') := by
    have h := normal_ok 7 1 1 1 2 (.slice xa 1 xc) (.slice ma 1 mc) xB lB w7 HX7.out HL7.out dBe.2.2.2.1
    rw [dBe.2.2.2.2] at h
    exact h
  go_wp2_with fail
  refine HN7.out.mono ?_
  rintro e w8 ⟨rfl, hb8⟩
  have HQ8 := hid (HQ7.out.below hb8)
  have HX8 := hid (HX7.out.below hb8)
  have HB8 := hid (HB7.out.trans (hb8.mono HB7.out.size))
  clear hb8 HN7
  obtain ⟨b, off, fa, fc, hqa, hlt, c1, hpl⟩ := vl_at (fss := qB) HQ8.out 0 (by simp)
  subst hqa
  have c1' : w8.cell? ⟨b, off, none⟩ = some (.slice fa 1 fc) := c1
  obtain ⟨b2, off2, ea, ec, hfa, hlt2, e0, _, _⟩ := pl_first (t := (3, [0, 1])) (ts := []) hpl
  subst hfa
  simp only at e0
  obtain ⟨b3, off3, ga, gc, hxa, hlt3, c3, _⟩ := vl_at (fss := xB) HX8.out 0 (by simp)
  subst hxa
  have c3' : w8.cell? ⟨b3, off3, none⟩ = some (.slice ga 1 gc) := c3
  clear c1 c3 hpl
  go_wp2
  go_ret
  exact ⟨rfl, HB8.out⟩
theorem okp_inv {p o ov : Int} {N R : Nat} (hx : RCx p o ov N R) {lss : List (List (List Tm))} {s : DS} (h : DInv p o ov N R lss s) : (∀ f ∈ s.q, OkP f) ∧ ∀ f ∈ s.l, OkP f := by
  have h0 := hx.n0
  have h3 := hx.n3
  constructor
  · intro f hf
    obtain ⟨i, hi, rfl⟩ := List.getElem_of_mem hf
    have e : s.q.getD i [] = s.q[i] := by simp [List.getD_eq_getElem?_getD, hi]
    rw [← e]
    obtain ⟨c1, c2, c3⟩ := h.qok i
    have hb : ∀ t ∈ s.q.getD i [], ∀ x ∈ t.2, 0 ≤ x ∧ x ≤ 8000 := fun t ht x hx2 => by
      have h1 := le_sumI (c2 t ht) x hx2
      have h2 := c3 t ht
      exact ⟨c2 t ht x hx2, by omega⟩
    have hlen := canon_short hx.n3 c1 hb
    exact ⟨by omega, fun t ht => ⟨by rw [c1.len t ht]; omega, by rw [c1.len t ht]; omega, fun x hx2 => by have := hb t ht x hx2; omega⟩⟩
  · intro f hf
    obtain ⟨c1, hb, hlen⟩ := vok_bd hx h.lok h.ll f hf
    exact ⟨by omega, fun t ht => ⟨by rw [c1.len t ht]; omega, by rw [c1.len t ht]; omega, fun x hx2 => by have := hb t ht x hx2; omega⟩⟩
theorem vl_nil (w : World) : Vl w (.slice none 0 0) [] := ⟨none, 0, rfl, fun h => by simp at h⟩
structure FinD (p o v rank : Int) (N R : Nat) (x lv : Value) (u : List (List Tm)) (vss : List (List (List Tm))) (w1 : World) (f : DS) : Prop where
  ok : (∀ g ∈ f.q, OkP g) ∧ ∀ g ∈ f.l, OkP g
  ql : f.q.length ≤ 1000
  ll : f.l.length ≤ 1000
  small : f.q.any greatB = false → f.l.any greatB = false → ∀ W, Below w1.heap.size w1 W → Calls Tryz.prog 5 #[ringV p N o v, .int .i64 rank, x, lv] W fun e w' => ∃ qa qc xa xc, e = .returned (.tuple #[.slice qa f.q.length qc, .slice xa f.l.length xc, .int .i64 0]) ∧ Vl w' (.slice qa f.q.length qc) f.q ∧ Vl w' (.slice xa f.l.length xc) f.l ∧ Below W.heap.size W w'
  great : (f.q.any greatB || f.l.any greatB) = true → ∀ W, Below w1.heap.size w1 W → Calls Tryz.prog 5 #[ringV p N o v, .int .i64 rank, x, lv] W fun e w' => e = .returned (.tuple #[.slice none 0 0, .slice none 0 0, .int .i64 2]) ∧ Below W.heap.size W w'
  ref : ∀ W, Below w1.heap.size w1 W → Calls Tryz.prog 8 #[ringV p N o v, x, lv] W fun e w' => ∃ qa qc xa xc, e = .returned (.tuple #[.slice qa f.q.length qc, .slice xa f.l.length xc]) ∧ Vl w' (.slice qa f.q.length qc) f.q ∧ Vl w' (.slice xa f.l.length xc) f.l ∧ Below W.heap.size W w'
  nrm : ∀ W, Below w1.heap.size w1 W → Calls Tryz.prog 9 #[ringV p N o v, x, lv] W fun e w' => e = .returned (.bool (nrmB o v vss u)) ∧ Below W.heap.size W w'
theorem fin_all {p o v rank : Int} {N : Nat} {x lv : Value} {u : List (List Tm)} {vss : List (List (List Tm))} {w1 : World} (hu : Vl w1 x u) (hl : Wl w1 lv vss) (he : errDiv p N o v rank u vss = 0) : ∃ (R : Nat) (f : DS), rank = (R : Int) ∧ RCx p o v N R ∧ LOk p o N R vss ∧ (∀ g ∈ vss, ∀ f ∈ g, Right p o N f) ∧ u.length = R ∧ (∀ f ∈ u, Right p o N f) ∧ 1 ≤ R ∧ Dv p o v vss ⟨u, List.replicate vss.length [], List.replicate R []⟩ f ∧ DInv p o v N R vss f ∧ dstep p o v vss f = none ∧ vss.length ≤ 60 ∧ FinD p o v rank N R x lv u vss w1 f := by
  obtain ⟨R, hR, hx, hlo, hrl, hll, hul, hur, hR1⟩ := errDiv_ok he
  have hi := dinv_start (lss := vss) hx.ov hul hur
  obtain ⟨f, h1, h2, h3⟩ := dv_end hx hlo _ _ hi (Nat.le_refl _)
  have hR40 := hx.r
  refine ⟨R, f, hR, hx, hlo, hrl, hul, hur, hR1, h1, h2, h3, hll, okp_inv hx h2, by rw [h2.ql]; omega, by rw [h2.ll]; omega, fun g1 g2 W hb => ?_, fun g W hb => ?_, fun W hb => ?_, fun W hb => ?_⟩
  · refine (divide_ok p o v rank N x lv u vss W (hu.below hb) (hl.below hb) he).mono ?_
    rintro e w' ⟨hb2, s, tss, hqs, hdv, h⟩
    rw [hul] at hdv
    rcases h with ⟨qv, xv, rfl, hq, hxv, hld, _⟩ | ⟨rfl, hg⟩
    · have es := Dv.uniq hdv h1 (dstep_end hld) h3
      subst es
      obtain ⟨qa, qc, rfl, _⟩ := id hq
      obtain ⟨xa, xc, rfl, _⟩ := id hxv
      exact ⟨qa, qc, xa, xc, rfl, hq, hxv, hb2⟩
    · have h9 := grt_great hqs hg (Dv.linear hdv h1 h3)
      rw [g1, g2] at h9
      cases h9
  · refine (divide_ok p o v rank N x lv u vss W (hu.below hb) (hl.below hb) he).mono ?_
    rintro e w' ⟨hb2, s, tss, hqs, hdv, h⟩
    rw [hul] at hdv
    rcases h with ⟨qv, xv, rfl, hq, hxv, hld, hsm⟩ | ⟨rfl, hg⟩
    · have es := Dv.uniq hdv h1 (dstep_end hld) h3
      subst es
      obtain ⟨k1, k2⟩ := sml_small hqs hsm
      rw [k1, k2] at g
      cases g
    · exact ⟨rfl, hb2⟩
  · refine (divideOf_any p o v N R x lv u vss W hx hlo hll hrl hul hR1 hur (hu.below hb) (hl.below hb)).mono ?_
    rintro e w' ⟨qv, xv, s, rfl, hq, hxv, hdv, _, hld, hb2⟩
    have es := Dv.uniq hdv h1 (dstep_end hld) h3
    subst es
    obtain ⟨qa, qc, rfl, _⟩ := id hq
    obtain ⟨xa, xc, rfl, _⟩ := id hxv
    exact ⟨qa, qc, xa, xc, rfl, hq, hxv, hb2⟩
  · exact normalOf_any p o v N R x lv u vss W hx hlo hll hrl hul hur (hu.below hb) (hl.below hb)
theorem fin_of {p o v rank : Int} {N : Nat} {x lv : Value} {u : List (List Tm)} {vss : List (List (List Tm))} {w1 : World} (hu : Vl w1 x u) (hl : Wl w1 lv vss) (he : errDiv p N o v rank u vss = 0) : ∃ R f, FinD p o v rank N R x lv u vss w1 f := by
  obtain ⟨R, f, _, _, _, _, _, _, _, _, _, _, _, h⟩ := fin_all hu hl he
  exact ⟨R, f, h⟩
set_option maxRecDepth 100000 in
set_option maxHeartbeats 4000000 in
theorem divideDivides_err (p n o v rank : Int) (x lv : Value) (u : List (List Tm)) (vss : List (List (List Tm))) (w : World) (hu : Vl w x u) (hl : Wl w lv vss) (he : errDiv p n o v rank u vss ≠ 0) :
    Calls Tryz.prog 3 #[ringV p n o v, .int .i64 rank, x, lv] w fun e w' => e = .returned (.bool true) ∧ Below w.heap.size w w' := by
  obtain ⟨w1, hw1⟩ : ∃ w1, w1 = w.alloc (.cells #[.int .i64 p, .int .i64 n, .int .i64 o, .int .i64 v] 23) := ⟨_, rfl⟩
  have HB1 : Hid (Below w.heap.size w w1) := by rw [hw1]; exact belowNew
  have HX1 : Hid (BoxAt w1 w.heap.size p n o v) := by rw [hw1]; exact BoxAt.new w p n o v _
  have hu1 := hu.below HB1.out
  have hl1 := hl.below HB1.out
  have HDV := hid (fun W (hb : Below w1.heap.size w1 W) => divide_err p n o v rank x lv u vss W (hu1.below hb) (hl1.below hb) he)
  have HNO := hid (fun W (hb : Below w1.heap.size w1 W) => normal_err p n o v rank x lv u vss W (hu1.below hb) (hl1.below hb) he)
  have HCK := hid (fun W (hb : Below w1.heap.size w1 W) => checkDivide_any p n o v rank x lv u vss W (hu1.below hb) (hl1.below hb))
  have HSV := hid (fun W => sameVector_any (.slice none 0 0) (.slice none 0 0) [] W (by simp) (fun f hf => by simp at hf) (vl_nil W) (vl_nil W))
  have HBG := hid (fun W => divideBegun_any W)
  obtain ⟨_, r0, r1, r2, r3⟩ := HX1.out
  generalize errDiv p n o v rank u vss = E at HDV HNO HCK he
  have hE : (E == 0) = false := by simpa using he
  obtain ⟨xa, xc, rfl, _⟩ := hu
  obtain ⟨la, lc, rfl, _⟩ := hl
  unfold ringV at HDV HNO HCK ⊢
  clear hu1 hl1
  go_enter Tryz.func3, Tryz.ntmps3
  go_upto_region 1 with fail
  rw [← hw1]
  clear hw1
  go_wp2_with (first
    | (go_at_call 5; refine (HDV.out _ (Below.refl _ _)).mono ?_; rintro e w2 ⟨rfl, hb2⟩; have HB2 := hid hb2; have s0 := cell_keep r0 hb2; have s1 := cell_keep r1 hb2; have s2 := cell_keep r2 hb2; have s3 := cell_keep r3 hb2; clear hb2)
    | (go_at_call 6; refine (HNO.out _ HB2.out).mono ?_; rintro e w3 ⟨rfl, hb3⟩; have HB3 := hid (HB2.out.trans (hb3.mono HB2.out.size)); have q0 := cell_keep s0 hb3; have q1 := cell_keep s1 hb3; have q2 := cell_keep s2 hb3; have q3 := cell_keep s3 hb3; clear hb3)
    | (go_at_call 7; refine (HCK.out _ HB3.out).mono ?_; rintro e w4 ⟨rfl, hb4⟩; have HB4 := hid (HB3.out.trans (hb4.mono HB3.out.size)); clear hb4)
    | (go_at_call 11; refine (HBG.out _).mono ?_; rintro e w5 ⟨rfl, hb5⟩; have HBC := hid (HB4.out.trans (hb5.mono HB4.out.size)); clear hb5)
    | (go_at_call 12; refine (HSV.out _).mono ?_; rintro e w6 ⟨rfl, hb6⟩; have HBC := hid (HBC.out.trans (hb6.mono HBC.out.size)); clear hb6))
  go_ret
  exact ⟨rfl, HB1.out.trans (HBC.out.mono HB1.out.size)⟩

set_option maxRecDepth 100000 in
set_option maxHeartbeats 4000000 in
theorem divideDivides_ok1 (p o v rank : Int) (N R : Nat) (x lv : Value) (u : List (List Tm)) (vss : List (List (List Tm))) (f : DS) (w w1 : World) (hu : Vl w x u) (hl : Wl w lv vss) (he : errDiv p N o v rank u vss = 0) (hw1 : w1 = w.alloc (.cells #[.int .i64 p, .int .i64 N, .int .i64 o, .int .i64 v] 23)) (hf : FinD p o v rank N R x lv u vss w1 f) (hg : f.q.any greatB = false ∧ f.l.any greatB = false) :
    Calls Tryz.prog 3 #[ringV p N o v, .int .i64 rank, x, lv] w fun e w' => e = .returned (.bool true) ∧ Below w.heap.size w w' := by
  have HB1 : Hid (Below w.heap.size w w1) := by rw [hw1]; exact belowNew
  have HX1 : Hid (BoxAt w1 w.heap.size p N o v) := by rw [hw1]; exact BoxAt.new w p N o v _
  have hu1 := hu.below HB1.out
  have hl1 := hl.below HB1.out
  have HDV := hid (hf.small hg.1 hg.2)
  have HRF := hid hf.ref
  have HNR := hid hf.nrm
  have HOK := hid hf.ok
  have HQL := hid hf.ql
  have HLL := hid hf.ll
  have HNO := hid (fun W (hb : Below w1.heap.size w1 W) => normal_ok p o v rank N x lv u vss W (hu1.below hb) (hl1.below hb) he)
  have HCK : Hid (∀ W, Below w1.heap.size w1 W → Calls Tryz.prog 7 #[ringV p N o v, .int .i64 rank, x, lv] W fun e w' => e = .returned (.int .i64 0) ∧ Below W.heap.size W w') := fun W hb => by
    have h := checkDivide_any p N o v rank x lv u vss W (hu1.below hb) (hl1.below hb)
    rw [he] at h; exact h
  have HBG := hid (fun W => divideBegun_any W)
  have HSN := hid (fun W => sameVector_any (.slice none 0 0) (.slice none 0 0) [] W (by simp) (fun f hf => by simp at hf) (vl_nil W) (vl_nil W))
  obtain ⟨_, r0, r1, r2, r3⟩ := HX1.out
  generalize nrmB o v vss u = nb at HNO HNR
  obtain ⟨xa, xc, rfl, _⟩ := hu
  obtain ⟨la, lc, rfl, _⟩ := hl
  unfold ringV at HDV HRF HNR HNO HCK ⊢
  clear hu1 hl1 hf he
  have HG := hid hg
  clear hg
  go_enter Tryz.func3, Tryz.ntmps3
  go_upto_region 1 with fail
  rw [← hw1]
  clear hw1
  go_upto_region 10 with (first
    | (go_at_call 5; refine (HDV.out _ (Below.refl _ _)).mono ?_; rintro e w2 ⟨qa, qc, ya, yc, rfl, hq2, hx2, hb2⟩; have HQ2 := hid hq2; have HX2 := hid hx2; have HB2 := hid hb2; have s0 := cell_keep r0 hb2; have s1 := cell_keep r1 hb2; have s2 := cell_keep r2 hb2; have s3 := cell_keep r3 hb2; clear hq2 hx2 hb2)
    | (go_at_call 6; refine (HNO.out _ HB2.out).mono ?_; rintro e w3 ⟨rfl, hb3⟩; have HB23 := hid hb3; have HB3 := hid (HB2.out.trans (hb3.mono HB2.out.size)); have q0 := cell_keep s0 hb3; have q1 := cell_keep s1 hb3; have q2 := cell_keep s2 hb3; have q3 := cell_keep s3 hb3; clear hb3)
    | (go_at_call 7; refine (HCK.out _ HB3.out).mono ?_; rintro e w4 ⟨rfl, hb4⟩; have HB34 := hid hb4; have HB4 := hid (HB3.out.trans (hb4.mono HB3.out.size)); have t0 := cell_keep q0 hb4; have t1 := cell_keep q1 hb4; have t2 := cell_keep q2 hb4; have t3 := cell_keep q3 hb4; clear hb4)
    | (go_at_call 8; refine (HRF.out _ HB4.out).mono ?_; rintro e w5 ⟨qa2, qc2, xa2, xc2, rfl, hq5, hx5, hb5⟩; have HQ5 := hid hq5; have HX5 := hid hx5; have HB45 := hid hb5; have HB5 := hid (HB4.out.trans (hb5.mono HB4.out.size)); have m0 := cell_keep t0 hb5; have m1 := cell_keep t1 hb5; have m2 := cell_keep t2 hb5; have m3 := cell_keep t3 hb5; clear hq5 hx5 hb5)
    | (go_at_call 9; refine (HNR.out _ HB5.out).mono ?_; rintro e w6 ⟨rfl, hb6⟩; have HB56 := hid hb6; have HB6 := hid (HB5.out.trans (hb6.mono HB5.out.size)); clear hb6))
  have HQ6 := hid (HQ5.out.below HB56.out)
  have HX6 := hid (HX5.out.below HB56.out)
  have HVQ := hid (vgreat_any (.slice qa2 f.q.length qc2) f.q w6 HQL.out HOK.out.1 HQ6.out)
  have HVL := hid (vgreat_any (.slice xa2 f.l.length xc2) f.l w6 HLL.out HOK.out.2 HX6.out)
  rw [HG.out.1] at HVQ
  rw [HG.out.2] at HVL
  have HB26 : Hid (Below w2.heap.size w2 w6) := HB23.out.trans ((HB34.out.trans ((HB45.out.trans (HB56.out.mono HB45.out.size)).mono HB34.out.size)).mono HB23.out.size)
  have HSQ := hid (fun W (hb : Below w6.heap.size w6 W) => sameVector_any (.slice qa f.q.length qc) (.slice qa2 f.q.length qc2) f.q W HQL.out HOK.out.1 ((HQ2.out.below HB26.out).below hb) (HQ6.out.below hb))
  have HSX := hid (fun W (hb : Below w6.heap.size w6 W) => sameVector_any (.slice ya f.l.length yc) (.slice xa2 f.l.length xc2) f.l W HLL.out HOK.out.2 ((HX2.out.below HB26.out).below hb) (HX6.out.below hb))

  go_wp2_with (first
    | (go_at_call 10; with_reducible refine HVQ.out.mono ?_; rintro e w7 ⟨rfl, rfl⟩)
    | (go_at_call 10; with_reducible refine HVL.out.mono ?_; rintro e w7 ⟨rfl, rfl⟩)
    | (go_at_call 11; refine (HBG.out _).mono ?_; rintro e w8 ⟨rfl, hb8⟩; have HB8 := hid hb8; clear hb8)
    | (go_at_call 12; with_reducible refine (HSQ.out _ HB8.out).mono ?_; rintro e w9 ⟨rfl, hb9⟩; have HB8 := hid (HB8.out.trans (hb9.mono HB8.out.size)); clear hb9)
    | (go_at_call 12; with_reducible refine (HSX.out _ HB8.out).mono ?_; rintro e w10 ⟨rfl, hb10⟩; have HB8 := hid (HB8.out.trans (hb10.mono HB8.out.size)); clear hb10))
  go_ret
  exact ⟨rfl, HB1.out.trans ((HB6.out.trans (HB8.out.mono HB6.out.size)).mono HB1.out.size)⟩

set_option maxRecDepth 100000 in
set_option maxHeartbeats 4000000 in
theorem divideDivides_ok2 (p o v rank : Int) (N R : Nat) (x lv : Value) (u : List (List Tm)) (vss : List (List (List Tm))) (f : DS) (w w1 : World) (hu : Vl w x u) (hl : Wl w lv vss) (he : errDiv p N o v rank u vss = 0) (hw1 : w1 = w.alloc (.cells #[.int .i64 p, .int .i64 N, .int .i64 o, .int .i64 v] 23)) (hf : FinD p o v rank N R x lv u vss w1 f) (hg : f.q.any greatB = true) :
    Calls Tryz.prog 3 #[ringV p N o v, .int .i64 rank, x, lv] w fun e w' => e = .returned (.bool true) ∧ Below w.heap.size w w' := by
  have HB1 : Hid (Below w.heap.size w w1) := by rw [hw1]; exact belowNew
  have HX1 : Hid (BoxAt w1 w.heap.size p N o v) := by rw [hw1]; exact BoxAt.new w p N o v _
  have hu1 := hu.below HB1.out
  have hl1 := hl.below HB1.out
  have HDV := hid (hf.great (by rw [hg]; rfl))
  have HRF := hid hf.ref
  have HNR := hid hf.nrm
  have HOK := hid hf.ok
  have HQL := hid hf.ql
  have HLL := hid hf.ll
  have HNO := hid (fun W (hb : Below w1.heap.size w1 W) => normal_ok p o v rank N x lv u vss W (hu1.below hb) (hl1.below hb) he)
  have HCK : Hid (∀ W, Below w1.heap.size w1 W → Calls Tryz.prog 7 #[ringV p N o v, .int .i64 rank, x, lv] W fun e w' => e = .returned (.int .i64 0) ∧ Below W.heap.size W w') := fun W hb => by
    have h := checkDivide_any p N o v rank x lv u vss W (hu1.below hb) (hl1.below hb)
    rw [he] at h; exact h
  have HBG := hid (fun W => divideBegun_any W)
  have HSN := hid (fun W => sameVector_any (.slice none 0 0) (.slice none 0 0) [] W (by simp) (fun f hf => by simp at hf) (vl_nil W) (vl_nil W))
  obtain ⟨_, r0, r1, r2, r3⟩ := HX1.out
  generalize nrmB o v vss u = nb at HNO HNR
  obtain ⟨xa, xc, rfl, _⟩ := hu
  obtain ⟨la, lc, rfl, _⟩ := hl
  unfold ringV at HDV HRF HNR HNO HCK ⊢
  clear hu1 hl1 hf he
  have HG := hid hg
  clear hg
  go_enter Tryz.func3, Tryz.ntmps3
  go_upto_region 1 with fail
  rw [← hw1]
  clear hw1
  go_upto_region 10 with (first
    | (go_at_call 5; refine (HDV.out _ (Below.refl _ _)).mono ?_; rintro e w2 ⟨rfl, hb2⟩; have HB2 := hid hb2; have s0 := cell_keep r0 hb2; have s1 := cell_keep r1 hb2; have s2 := cell_keep r2 hb2; have s3 := cell_keep r3 hb2; clear hb2)
    | (go_at_call 6; refine (HNO.out _ HB2.out).mono ?_; rintro e w3 ⟨rfl, hb3⟩; have HB23 := hid hb3; have HB3 := hid (HB2.out.trans (hb3.mono HB2.out.size)); have q0 := cell_keep s0 hb3; have q1 := cell_keep s1 hb3; have q2 := cell_keep s2 hb3; have q3 := cell_keep s3 hb3; clear hb3)
    | (go_at_call 7; refine (HCK.out _ HB3.out).mono ?_; rintro e w4 ⟨rfl, hb4⟩; have HB34 := hid hb4; have HB4 := hid (HB3.out.trans (hb4.mono HB3.out.size)); have t0 := cell_keep q0 hb4; have t1 := cell_keep q1 hb4; have t2 := cell_keep q2 hb4; have t3 := cell_keep q3 hb4; clear hb4)
    | (go_at_call 8; refine (HRF.out _ HB4.out).mono ?_; rintro e w5 ⟨qa2, qc2, xa2, xc2, rfl, hq5, hx5, hb5⟩; have HQ5 := hid hq5; have HX5 := hid hx5; have HB45 := hid hb5; have HB5 := hid (HB4.out.trans (hb5.mono HB4.out.size)); have m0 := cell_keep t0 hb5; have m1 := cell_keep t1 hb5; have m2 := cell_keep t2 hb5; have m3 := cell_keep t3 hb5; clear hq5 hx5 hb5)
    | (go_at_call 9; refine (HNR.out _ HB5.out).mono ?_; rintro e w6 ⟨rfl, hb6⟩; have HB56 := hid hb6; have HB6 := hid (HB5.out.trans (hb6.mono HB5.out.size)); clear hb6))
  have HQ6 := hid (HQ5.out.below HB56.out)
  have HX6 := hid (HX5.out.below HB56.out)
  have HVQ := hid (vgreat_any (.slice qa2 f.q.length qc2) f.q w6 HQL.out HOK.out.1 HQ6.out)
  have HVL := hid (vgreat_any (.slice xa2 f.l.length xc2) f.l w6 HLL.out HOK.out.2 HX6.out)
  rw [HG.out] at HVQ

  go_wp2_with (first
    | (go_at_call 10; with_reducible refine HVQ.out.mono ?_; rintro e w7 ⟨rfl, rfl⟩)
    | (go_at_call 10; with_reducible refine HVL.out.mono ?_; rintro e w7 ⟨rfl, rfl⟩)
    | (go_at_call 11; refine (HBG.out _).mono ?_; rintro e w8 ⟨rfl, hb8⟩; have HB8 := hid hb8; clear hb8)
    | (go_at_call 12; refine (HSN.out _).mono ?_; rintro e w9 ⟨rfl, hb9⟩; have HB8 := hid (HB8.out.trans (hb9.mono HB8.out.size)); clear hb9))
  go_ret
  exact ⟨rfl, HB1.out.trans ((HB6.out.trans (HB8.out.mono HB6.out.size)).mono HB1.out.size)⟩

set_option maxRecDepth 100000 in
set_option maxHeartbeats 4000000 in
theorem divideDivides_ok3 (p o v rank : Int) (N R : Nat) (x lv : Value) (u : List (List Tm)) (vss : List (List (List Tm))) (f : DS) (w w1 : World) (hu : Vl w x u) (hl : Wl w lv vss) (he : errDiv p N o v rank u vss = 0) (hw1 : w1 = w.alloc (.cells #[.int .i64 p, .int .i64 N, .int .i64 o, .int .i64 v] 23)) (hf : FinD p o v rank N R x lv u vss w1 f) (hg : f.q.any greatB = false ∧ f.l.any greatB = true) :
    Calls Tryz.prog 3 #[ringV p N o v, .int .i64 rank, x, lv] w fun e w' => e = .returned (.bool true) ∧ Below w.heap.size w w' := by
  have HB1 : Hid (Below w.heap.size w w1) := by rw [hw1]; exact belowNew
  have HX1 : Hid (BoxAt w1 w.heap.size p N o v) := by rw [hw1]; exact BoxAt.new w p N o v _
  have hu1 := hu.below HB1.out
  have hl1 := hl.below HB1.out
  have HDV := hid (hf.great (by rw [hg.1, hg.2]; rfl))
  have HRF := hid hf.ref
  have HNR := hid hf.nrm
  have HOK := hid hf.ok
  have HQL := hid hf.ql
  have HLL := hid hf.ll
  have HNO := hid (fun W (hb : Below w1.heap.size w1 W) => normal_ok p o v rank N x lv u vss W (hu1.below hb) (hl1.below hb) he)
  have HCK : Hid (∀ W, Below w1.heap.size w1 W → Calls Tryz.prog 7 #[ringV p N o v, .int .i64 rank, x, lv] W fun e w' => e = .returned (.int .i64 0) ∧ Below W.heap.size W w') := fun W hb => by
    have h := checkDivide_any p N o v rank x lv u vss W (hu1.below hb) (hl1.below hb)
    rw [he] at h; exact h
  have HBG := hid (fun W => divideBegun_any W)
  have HSN := hid (fun W => sameVector_any (.slice none 0 0) (.slice none 0 0) [] W (by simp) (fun f hf => by simp at hf) (vl_nil W) (vl_nil W))
  obtain ⟨_, r0, r1, r2, r3⟩ := HX1.out
  generalize nrmB o v vss u = nb at HNO HNR
  obtain ⟨xa, xc, rfl, _⟩ := hu
  obtain ⟨la, lc, rfl, _⟩ := hl
  unfold ringV at HDV HRF HNR HNO HCK ⊢
  clear hu1 hl1 hf he
  have HG := hid hg
  clear hg
  go_enter Tryz.func3, Tryz.ntmps3
  go_upto_region 1 with fail
  rw [← hw1]
  clear hw1
  go_upto_region 10 with (first
    | (go_at_call 5; refine (HDV.out _ (Below.refl _ _)).mono ?_; rintro e w2 ⟨rfl, hb2⟩; have HB2 := hid hb2; have s0 := cell_keep r0 hb2; have s1 := cell_keep r1 hb2; have s2 := cell_keep r2 hb2; have s3 := cell_keep r3 hb2; clear hb2)
    | (go_at_call 6; refine (HNO.out _ HB2.out).mono ?_; rintro e w3 ⟨rfl, hb3⟩; have HB23 := hid hb3; have HB3 := hid (HB2.out.trans (hb3.mono HB2.out.size)); have q0 := cell_keep s0 hb3; have q1 := cell_keep s1 hb3; have q2 := cell_keep s2 hb3; have q3 := cell_keep s3 hb3; clear hb3)
    | (go_at_call 7; refine (HCK.out _ HB3.out).mono ?_; rintro e w4 ⟨rfl, hb4⟩; have HB34 := hid hb4; have HB4 := hid (HB3.out.trans (hb4.mono HB3.out.size)); have t0 := cell_keep q0 hb4; have t1 := cell_keep q1 hb4; have t2 := cell_keep q2 hb4; have t3 := cell_keep q3 hb4; clear hb4)
    | (go_at_call 8; refine (HRF.out _ HB4.out).mono ?_; rintro e w5 ⟨qa2, qc2, xa2, xc2, rfl, hq5, hx5, hb5⟩; have HQ5 := hid hq5; have HX5 := hid hx5; have HB45 := hid hb5; have HB5 := hid (HB4.out.trans (hb5.mono HB4.out.size)); have m0 := cell_keep t0 hb5; have m1 := cell_keep t1 hb5; have m2 := cell_keep t2 hb5; have m3 := cell_keep t3 hb5; clear hq5 hx5 hb5)
    | (go_at_call 9; refine (HNR.out _ HB5.out).mono ?_; rintro e w6 ⟨rfl, hb6⟩; have HB56 := hid hb6; have HB6 := hid (HB5.out.trans (hb6.mono HB5.out.size)); clear hb6))
  have HQ6 := hid (HQ5.out.below HB56.out)
  have HX6 := hid (HX5.out.below HB56.out)
  have HVQ := hid (vgreat_any (.slice qa2 f.q.length qc2) f.q w6 HQL.out HOK.out.1 HQ6.out)
  have HVL := hid (vgreat_any (.slice xa2 f.l.length xc2) f.l w6 HLL.out HOK.out.2 HX6.out)
  rw [HG.out.1] at HVQ
  rw [HG.out.2] at HVL

  go_wp2_with (first
    | (go_at_call 10; with_reducible refine HVQ.out.mono ?_; rintro e w7 ⟨rfl, rfl⟩)
    | (go_at_call 10; with_reducible refine HVL.out.mono ?_; rintro e w7 ⟨rfl, rfl⟩)
    | (go_at_call 11; refine (HBG.out _).mono ?_; rintro e w8 ⟨rfl, hb8⟩; have HB8 := hid hb8; clear hb8)
    | (go_at_call 12; refine (HSN.out _).mono ?_; rintro e w9 ⟨rfl, hb9⟩; have HB8 := hid (HB8.out.trans (hb9.mono HB8.out.size)); clear hb9))
  go_ret
  exact ⟨rfl, HB1.out.trans ((HB6.out.trans (HB8.out.mono HB6.out.size)).mono HB1.out.size)⟩

theorem divideDivides_any (p n o v rank : Int) (x lv : Value) (u : List (List Tm)) (vss : List (List (List Tm))) (w : World) (hu : Vl w x u) (hl : Wl w lv vss) :
    Calls Tryz.prog 3 #[ringV p n o v, .int .i64 rank, x, lv] w fun e w' => e = .returned (.bool true) ∧ Below w.heap.size w w' := by
  by_cases he : errDiv p n o v rank u vss = 0
  · have hn : 0 < n := by
      have h1 : errVecs p n o v rank vss = 0 := by
        unfold errDiv at he
        by_cases h : errVecs p n o v rank vss = 0
        · exact h
        · rw [if_pos h] at he; exact absurd he h
      have hR : errR p n o v = 0 := by
        unfold errVecs at h1
        by_cases h : errR p n o v = 0
        · exact h
        · rw [if_pos h] at h1; exact absurd h1 h
      have := (ring_ok hR).2.1
      omega
    obtain ⟨N, rfl⟩ : ∃ N : Nat, n = N := ⟨n.toNat, by omega⟩
    obtain ⟨w1, hw1⟩ : ∃ w1, w1 = w.alloc (.cells #[.int .i64 p, .int .i64 N, .int .i64 o, .int .i64 v] 23) := ⟨_, rfl⟩
    have hb : Below w.heap.size w w1 := by rw [hw1]; exact belowNew
    obtain ⟨R, f, hf⟩ := fin_of (hu.below hb) (hl.below hb) he
    cases h1 : f.q.any greatB with
    | true => exact divideDivides_ok2 p o v rank N R x lv u vss f w w1 hu hl he hw1 hf h1
    | false =>
      cases h2 : f.l.any greatB with
      | true => exact divideDivides_ok3 p o v rank N R x lv u vss f w w1 hu hl he hw1 hf ⟨h1, h2⟩
      | false => exact divideDivides_ok1 p o v rank N R x lv u vss f w w1 hu hl he hw1 hf ⟨h1, h2⟩
  · exact divideDivides_err p n o v rank x lv u vss w hu hl he
end Go.Proofs.YtilogbggilchaaaGreat
