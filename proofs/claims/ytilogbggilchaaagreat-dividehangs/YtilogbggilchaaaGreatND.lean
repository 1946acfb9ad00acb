/- checkDivide, one, divideBegun; what is too great. -/
import Derived.Test.YtilogbggilchaaaGreatNC
import Derived.Test.YtilogbggilchaaaGreatNB
import Derived.Test.YtilogbggilchaaaGreatQZ
import Derived.Test.YtilogbggilchaaaGreatQN
import Derived.Test.YtilogbggilchaaaGreatWO
import Derived.Test.YtilogbggilchaaaGreatNH
namespace Go.Proofs.YtilogbggilchaaaGreat
set_option linter.unusedSimpArgs false
set_option linter.unusedVariables false
open Go.RowKit
theorem Dv.uniq {p o ov : Int} {lss : List (List (List Tm))} {a b c : DS} (h : Dv p o ov lss a b) (k : Dv p o ov lss a c) (hb : dstep p o ov lss b = none) (hc : dstep p o ov lss c = none) : b = c := by
  rcases (Dv.linear h k hc).first with e | ⟨d, hd, _⟩
  · exact e
  · rw [hb] at hd; simp at hd
theorem dstep_end {p o ov : Int} {lss : List (List (List Tm))} {s : DS} (h : leadF o ov s.v s.v.length = none) : dstep p o ov lss s = none := by
  unfold dstep; rw [h]
theorem qs_at {tss : Bool → List (List TV)} {s : DS} (h : QS tss s) (b : Bool) (i : Nat) : ((tss b).getD i []).map tm = (if b then s.q else s.l).getD i [] := by
  have e : (tss b).map (List.map tm) = if b then s.q else s.l := by
    cases b
    · simpa using h.l
    · simpa using h.q
  rw [← e]
  simp only [List.getD_eq_getElem?_getD, List.getElem?_map]
  cases (tss b)[i]? <;> rfl
theorem great_pre {f g : List Tm} (h : f <+: g) (hg : greatB f = true) : greatB g = true := by
  by_cases hx : ∃ x ∈ g, 200 < sumI x.2
  · obtain ⟨x, hx, h2⟩ := hx
    exact great_large hx h2
  · have hs : ∀ x ∈ g, sumI x.2 ≤ 200 := fun x hx2 => by
      have hn : ¬ 200 < sumI x.2 := fun hlt => hx ⟨x, hx2, hlt⟩
      omega
    have hsf : ∀ x ∈ f, sumI x.2 ≤ 200 := fun x hx2 => hs x (h.subset hx2)
    rw [great_small hsf] at hg
    rw [great_small hs]
    have := h.length_le
    simp only [decide_eq_true_eq] at hg ⊢
    omega
theorem grt_great {p o ov : Int} {lss : List (List (List Tm))} {tss : Bool → List (List TV)} {s s2 : DS} (h : QS tss s) (hg : Grt tss) (hd : Dv p o ov lss s s2) : (s2.q.any greatB || s2.l.any greatB) = true := by
  obtain ⟨b, i, hi, hgr⟩ := hg
  have ha := qs_at h b i
  have hgb : greatB ((if b then s.q else s.l).getD i []) = true := by
    rw [← ha]
    rcases hgr with h1 | ⟨t, ht, h2⟩
    · by_cases hx : ∃ x ∈ ((tss b).getD i []).map tm, 200 < sumI x.2
      · obtain ⟨x, hx, h2⟩ := hx; exact great_large hx h2
      · rw [great_small (fun x hx2 => by have hn : ¬ 200 < sumI x.2 := fun hlt => hx ⟨x, hx2, hlt⟩; omega)]
        simpa using h1
    · exact great_large (List.mem_map.2 ⟨t, ht, rfl⟩) h2
  obtain ⟨p1, p2, p3, p4⟩ := hd.pre
  cases b
  · simp only [Bool.false_eq_true, if_false] at hgb
    have h5 := great_pre (p4 i) hgb
    have hil : i < s2.l.length := by
      rw [p2, ← h.l, List.length_map]; exact hi
    rw [Bool.or_eq_true]
    exact Or.inr (List.any_eq_true.2 ⟨_, getD_memL s2.l i hil, h5⟩)
  · simp only [if_true] at hgb
    have h5 := great_pre (p3 i) hgb
    have hil : i < s2.q.length := by
      rw [p1, ← h.q, List.length_map]; exact hi
    rw [Bool.or_eq_true]
    exact Or.inl (List.any_eq_true.2 ⟨_, getD_memL s2.q i hil, h5⟩)
theorem sml_small {tss : Bool → List (List TV)} {s : DS} (h : QS tss s) (hs : Sml tss) : s.q.any greatB = false ∧ s.l.any greatB = false := by
  have key : ∀ (b : Bool) (i : Nat), greatB ((if b then s.q else s.l).getD i []) = false := fun b i => by
    rw [← qs_at h b i]
    rw [great_small (fun x hx => by
      obtain ⟨t, ht, rfl⟩ := List.mem_map.1 hx
      exact (hs b i).2 t ht)]
    have := (hs b i).1
    simp only [List.length_map, decide_eq_false_iff_not]; omega
  constructor
  · rw [List.any_eq_false]
    intro f hf
    obtain ⟨i, hi, rfl⟩ := List.getElem_of_mem hf
    have := key true i
    simpa [List.getD_eq_getElem?_getD, hi] using this
  · rw [List.any_eq_false]
    intro f hf
    obtain ⟨i, hi, rfl⟩ := List.getElem_of_mem hf
    have := key false i
    simpa [List.getD_eq_getElem?_getD, hi] using this
abbrev lB : List (List (List Tm)) := [[[(1, [1, 0])]]]
abbrev uB : List (List Tm) := [[(3, [1, 1]), (1, [0, 1])]]
abbrev qB : List (List Tm) := [[(3, [0, 1])]]
abbrev xB : List (List Tm) := [[(1, [0, 1])]]
theorem vl_oneB {w : World} {f : List Tm} {x : Value} {b c : Nat} (hf : Pl w x f) (hlt : b < w.heap.size) (c0 : w.cell? ⟨b, 0, none⟩ = some x) : Vl w (.slice (some ⟨b, 0, none⟩) 1 c) [f] := by
  refine ⟨_, c, rfl, fun _ => ⟨b, 0, rfl, hlt, fun i hi => ?_⟩⟩
  have e : i = 0 := by simp at hi; omega
  subst e
  exact ⟨x, c0, hf⟩
set_option maxRecDepth 100000 in
set_option maxHeartbeats 2000000 in
theorem one_any (w : World) : Calls Tryz.prog 43 #[] w fun e w' => ∃ a c, e = .returned (.slice a 1 c) ∧ Wl w' (.slice a 1 c) lB ∧ Below w.heap.size w w' := by
  go_enter Tryz.func43, Tryz.ntmps43
  go_wp2_with fail
  refine (term_any _ _ _ _ _).mono ?_
  rintro e w1 ⟨rfl, hb1⟩
  have HS1 := hid ((Sl.new2 w 1 0 _).below hb1)
  have HB1 := hid (show Below w.heap.size w w1 from below_one.trans (hb1.mono (by simp)))
  clear hb1
  have HV : Hid (∀ T T' T'', Wl (((w1.alloc (.cells #[.int .i64 1, .slice (some ⟨w.heap.size, 0, none⟩) 2 2] T)).alloc (.cells #[.slice (some ⟨w1.heap.size, 0, none⟩) 1 1] T')).alloc (.cells #[.slice (some ⟨w1.heap.size + 1, 0, none⟩) 1 1] T'')) (.slice (some ⟨w1.heap.size + 1 + 1, 0, none⟩) 1 1) lB) := fun T T' T'' => by
    have v1 : Vl ((w1.alloc (.cells #[.int .i64 1, .slice (some ⟨w.heap.size, 0, none⟩) 2 2] T)).alloc (.cells #[.slice (some ⟨w1.heap.size, 0, none⟩) 1 1] T')) (.slice (some ⟨w1.heap.size + 1, 0, none⟩) 1 1) [[(1, [1, 0])]] := vl_oneB ((pl_new1 HS1.out).below belowNew) (by simp) (by simp [go_sem])
    exact wl_one (v1.below belowNew) (by simp) (by simp [go_sem])
  go_wp2
  go_ret
  exact ⟨_, _, rfl, HV.out _ _ _, HB1.out.trans ((below_three).mono HB1.out.size)⟩
theorem dB1 : dstep 7 1 1 lB ⟨uB, [[]], [[]]⟩ = some ⟨[[(1, [0, 1])]], [[(3, [0, 1])]], [[]]⟩ := by kernel_rfl
theorem dB2 : dstep 7 1 1 lB ⟨[[(1, [0, 1])]], [[(3, [0, 1])]], [[]]⟩ = some ⟨[[]], qB, xB⟩ := by kernel_rfl
theorem dBv : Dv 7 1 1 lB ⟨uB, [[]], [[]]⟩ ⟨[[]], qB, xB⟩ := ((Dv.refl _).step dB1).step dB2
theorem dBe : leadF 1 1 [[]] 1 = none ∧ (qB.any greatB || xB.any greatB) = false ∧ errDiv 7 2 1 1 1 uB lB = 0 ∧ errDiv 7 2 1 1 1 xB lB = 0 ∧ nrmB 1 1 lB xB = true := by
  refine ⟨by decide +kernel, by decide +kernel, by decide +kernel, by decide +kernel, by decide +kernel⟩
theorem divB (x lv : Value) (w : World) (hx : Vl w x uB) (hl : Wl w lv lB) : Calls Tryz.prog 5 #[ringV 7 2 1 1, .int .i64 1, x, lv] w fun e w' => ∃ qa qc xa xc, e = .returned (.tuple #[.slice qa 1 qc, .slice xa 1 xc, .int .i64 0]) ∧ Vl w' (.slice qa 1 qc) qB ∧ Vl w' (.slice xa 1 xc) xB ∧ Below w.heap.size w w' := by
  refine (divide_ok 7 1 1 1 2 x lv uB lB w hx hl dBe.2.2.1).mono ?_
  rintro e w' ⟨hb, s, tss, hqs, hdv, h⟩
  have hdv2 : Dv 7 1 1 lB ⟨uB, [[]], [[]]⟩ s := hdv
  have hend : dstep 7 1 1 lB ⟨[[]], qB, xB⟩ = none := dstep_end dBe.1
  rcases h with ⟨qv, xv, rfl, hq, hxv, hld, _⟩ | ⟨rfl, hg⟩
  · have es := Dv.uniq hdv2 dBv (dstep_end hld) hend
    subst es
    obtain ⟨qa, qc, rfl, _⟩ := id hq
    obtain ⟨xa, xc, rfl, _⟩ := id hxv
    exact ⟨qa, qc, xa, xc, rfl, hq, hxv, hb⟩
  · have h1 := grt_great hqs hg (Dv.linear hdv2 dBv hend)
    rw [dBe.2.1] at h1
    cases h1

set_option maxRecDepth 100000 in
set_option maxHeartbeats 4000000 in
theorem divideBegun_any (w : World) : Calls Tryz.prog 11 #[] w fun e w' => e = .returned (.bool true) ∧ Below w.heap.size w w' := by
  go_enter Tryz.func11, Tryz.ntmps11
  go_wp2_with fail
  refine (xy_any _).mono ?_
  rintro e w1 ⟨rfl, hb1⟩
  have HB1 := hid hb1
  clear hb1
  go_wp2_with fail
  refine (term_any _ _ _ _ _).mono ?_
  rintro e w2 ⟨rfl, hb2⟩
  have HS2 := hid ((Sl.new2 w1 1 1 _).below hb2)
  have HB2 := hid (show Below w.heap.size w w2 from HB1.out.trans ((below_one.trans (hb2.mono (by simp))).mono HB1.out.size))
  clear hb2
  go_wp2_with fail
  refine (term_any _ _ _ _ _).mono ?_
  rintro e w3 ⟨rfl, hb3⟩
  have HS3 := hid ((HS2.out.below below_one).below hb3)
  have HT3 := hid ((Sl.new2 w2 0 1 _).below hb3)
  have HB3 := hid (show Below w.heap.size w w3 from HB2.out.trans ((below_one.trans (hb3.mono (by simp))).mono HB2.out.size))
  clear hb3
  have HV : Hid (∀ T T', Vl ((w3.alloc (.cells #[.int .i64 3, .slice (some ⟨w1.heap.size, 0, none⟩) 2 2, .int .i64 1, .slice (some ⟨w2.heap.size, 0, none⟩) 2 2] T)).alloc (.cells #[.slice (some ⟨w3.heap.size, 0, none⟩) 2 2] T')) (.slice (some ⟨w3.heap.size + 1, 0, none⟩) 1 1) uB) := fun T T' =>
    vl_oneB ((pl_new2 HS3.out HT3.out).below belowNew) (by simp) (by simp [go_sem])
  go_wp2_with fail
  refine (one_any _).mono ?_
  rintro e w4 ⟨la, lc, rfl, hl4, hb4⟩
  have HL4 := hid hl4
  have HV4 := hid ((HV.out _ _).below hb4)
  have HB4 := hid (show Below w.heap.size w w4 from HB3.out.trans ((below_two.trans (hb4.mono below_two.size)).mono HB3.out.size))
  clear hl4 hb4
  go_wp2_with fail
  refine (divB _ _ _ HV4.out HL4.out).mono ?_
  rintro e w5 ⟨qa, qc, xa, xc, rfl, hq5, hx5, hb5⟩
  have HQ5 := hid hq5
  have HX5 := hid hx5
  have HB5 := hid (HB4.out.trans (hb5.mono HB4.out.size))
  clear hq5 hx5 hb5
  go_wp2_with fail
  refine (xy_any _).mono ?_
  rintro e w6 ⟨rfl, hb6⟩
  have HQ6 := hid (HQ5.out.below hb6)
  have HX6 := hid (HX5.out.below hb6)
  have HB6 := hid (HB5.out.trans (hb6.mono HB5.out.size))
  clear hb6
  go_wp2_with fail
  refine (one_any _).mono ?_
  rintro e w7 ⟨ma, mc, rfl, hl7, hb7⟩
  have HL7 := hid hl7
  have HQ7 := hid (HQ6.out.below hb7)
  have HX7 := hid (HX6.out.below hb7)
  have HB7 := hid (HB6.out.trans (hb7.mono HB6.out.size))
  clear hl7 hb7
  have HN7 : Hid (Calls Tryz.prog 6 #[ringV 7 2 1 1, .int .i64 1, .slice xa 1 xc, .slice ma 1 mc] w7 fun e w' => e = .returned (.tuple #[.bool true, .int .i64 0]) ∧ Below w7.heap.size w7 w') := by
    have h := normal_ok 7 1 1 1 2 (.slice xa 1 xc) (.slice ma 1 mc) xB lB w7 HX7.out HL7.out dBe.2.2.2.1
    rw [dBe.2.2.2.2] at h
    exact h
  go_wp2_with fail
  refine HN7.out.mono ?_
  rintro e w8 ⟨rfl, hb8⟩
  have HQ8 := hid (HQ7.out.below hb8)
  have HX8 := hid (HX7.out.below hb8)
  have HB8 := hid (HB7.out.trans (hb8.mono HB7.out.size))
  clear hb8 HN7
  obtain ⟨b, off, fa, fc, hqa, hlt, c1, hpl⟩ := vl_at (fss := qB) HQ8.out 0 (by simp)
  subst hqa
  have c1' : w8.cell? ⟨b, off, none⟩ = some (.slice fa 1 fc) := c1
  obtain ⟨b2, off2, ea, ec, hfa, hlt2, e0, _, _⟩ := pl_first (t := (3, [0, 1])) (ts := []) hpl
  subst hfa
  simp only at e0
  obtain ⟨b3, off3, ga, gc, hxa, hlt3, c3, _⟩ := vl_at (fss := xB) HX8.out 0 (by simp)
  subst hxa
  have c3' : w8.cell? ⟨b3, off3, none⟩ = some (.slice ga 1 gc) := c3
  clear c1 c3 hpl
  go_wp2
  go_ret
  exact ⟨rfl, HB8.out⟩
theorem okp_inv {p o ov : Int} {N R : Nat} (hx : RCx p o ov N R) {lss : List (List (List Tm))} {s : DS} (h : DInv p o ov N R lss s) : (∀ f ∈ s.q, OkP f) ∧ ∀ f ∈ s.l, OkP f := by
  have h0 := hx.n0
  have h3 := hx.n3
  constructor
  · intro f hf
    obtain ⟨i, hi, rfl⟩ := List.getElem_of_mem hf
    have e : s.q.getD i [] = s.q[i] := by simp [List.getD_eq_getElem?_getD, hi]
    rw [← e]
    obtain ⟨c1, c2, c3⟩ := h.qok i
    have hb : ∀ t ∈ s.q.getD i [], ∀ x ∈ t.2, 0 ≤ x ∧ x ≤ 8000 := fun t ht x hx2 => by
      have h1 := le_sumI (c2 t ht) x hx2
      have h2 := c3 t ht
      exact ⟨c2 t ht x hx2, by omega⟩
    have hlen := canon_short hx.n3 c1 hb
    exact ⟨by omega, fun t ht => ⟨by rw [c1.len t ht]; omega, by rw [c1.len t ht]; omega, fun x hx2 => by have := hb t ht x hx2; omega⟩⟩
  · intro f hf
    obtain ⟨c1, hb, hlen⟩ := vok_bd hx h.lok h.ll f hf
    exact ⟨by omega, fun t ht => ⟨by rw [c1.len t ht]; omega, by rw [c1.len t ht]; omega, fun x hx2 => by have := hb t ht x hx2; omega⟩⟩
structure FinD (p o v rank : Int) (N R : Nat) (x lv : Value) (u : List (List Tm)) (vss : List (List (List Tm))) (w1 : World) (f : DS) : Prop where
  ok : (∀ g ∈ f.q, OkP g) ∧ ∀ g ∈ f.l, OkP g
  ql : f.q.length ≤ 1000
  ll : f.l.length ≤ 1000
  small : f.q.any greatB = false → f.l.any greatB = false → ∀ W, Below w1.heap.size w1 W → Calls Tryz.prog 5 #[ringV p N o v, .int .i64 rank, x, lv] W fun e w' => ∃ qa qc xa xc, e = .returned (.tuple #[.slice qa f.q.length qc, .slice xa f.l.length xc, .int .i64 0]) ∧ Vl w' (.slice qa f.q.length qc) f.q ∧ Vl w' (.slice xa f.l.length xc) f.l ∧ Below W.heap.size W w'
  great : (f.q.any greatB || f.l.any greatB) = true → ∀ W, Below w1.heap.size w1 W → Calls Tryz.prog 5 #[ringV p N o v, .int .i64 rank, x, lv] W fun e w' => e = .returned (.tuple #[.slice none 0 0, .slice none 0 0, .int .i64 2]) ∧ Below W.heap.size W w'
  ref : ∀ W, Below w1.heap.size w1 W → Calls Tryz.prog 8 #[ringV p N o v, x, lv] W fun e w' => ∃ qa qc xa xc, e = .returned (.tuple #[.slice qa f.q.length qc, .slice xa f.l.length xc]) ∧ Vl w' (.slice qa f.q.length qc) f.q ∧ Vl w' (.slice xa f.l.length xc) f.l ∧ Below W.heap.size W w'
  nrm : ∀ W, Below w1.heap.size w1 W → Calls Tryz.prog 9 #[ringV p N o v, x, lv] W fun e w' => e = .returned (.bool (nrmB o v vss u)) ∧ Below W.heap.size W w'
theorem fin_all {p o v rank : Int} {N : Nat} {x lv : Value} {u : List (List Tm)} {vss : List (List (List Tm))} {w1 : World} (hu : Vl w1 x u) (hl : Wl w1 lv vss) (he : errDiv p N o v rank u vss = 0) : ∃ (R : Nat) (f : DS), rank = (R : Int) ∧ RCx p o v N R ∧ LOk p o N R vss ∧ (∀ g ∈ vss, ∀ f ∈ g, Right p o N f) ∧ u.length = R ∧ (∀ f ∈ u, Right p o N f) ∧ 1 ≤ R ∧ Dv p o v vss ⟨u, List.replicate vss.length [], List.replicate R []⟩ f ∧ DInv p o v N R vss f ∧ dstep p o v vss f = none ∧ vss.length ≤ 60 ∧ FinD p o v rank N R x lv u vss w1 f := by
  obtain ⟨R, hR, hx, hlo, hrl, hll, hul, hur, hR1⟩ := errDiv_ok he
  have hi := dinv_start (lss := vss) hx.ov hul hur
  obtain ⟨f, h1, h2, h3⟩ := dv_end hx hlo _ _ hi (Nat.le_refl _)
  have hR40 := hx.r
  refine ⟨R, f, hR, hx, hlo, hrl, hul, hur, hR1, h1, h2, h3, hll, okp_inv hx h2, by rw [h2.ql]; omega, by rw [h2.ll]; omega, fun g1 g2 W hb => ?_, fun g W hb => ?_, fun W hb => ?_, fun W hb => ?_⟩
  · refine (divide_ok p o v rank N x lv u vss W (hu.below hb) (hl.below hb) he).mono ?_
    rintro e w' ⟨hb2, s, tss, hqs, hdv, h⟩
    rw [hul] at hdv
    rcases h with ⟨qv, xv, rfl, hq, hxv, hld, _⟩ | ⟨rfl, hg⟩
    · have es := Dv.uniq hdv h1 (dstep_end hld) h3
      subst es
      obtain ⟨qa, qc, rfl, _⟩ := id hq
      obtain ⟨xa, xc, rfl, _⟩ := id hxv
      exact ⟨qa, qc, xa, xc, rfl, hq, hxv, hb2⟩
    · have h9 := grt_great hqs hg (Dv.linear hdv h1 h3)
      rw [g1, g2] at h9
      cases h9
  · refine (divide_ok p o v rank N x lv u vss W (hu.below hb) (hl.below hb) he).mono ?_
    rintro e w' ⟨hb2, s, tss, hqs, hdv, h⟩
    rw [hul] at hdv
    rcases h with ⟨qv, xv, rfl, hq, hxv, hld, hsm⟩ | ⟨rfl, hg⟩
    · have es := Dv.uniq hdv h1 (dstep_end hld) h3
      subst es
      obtain ⟨k1, k2⟩ := sml_small hqs hsm
      rw [k1, k2] at g
      cases g
    · exact ⟨rfl, hb2⟩
  · refine (divideOf_any p o v N R x lv u vss W hx hlo hll hrl hul hR1 hur (hu.below hb) (hl.below hb)).mono ?_
    rintro e w' ⟨qv, xv, s, rfl, hq, hxv, hdv, _, hld, hb2⟩
    have es := Dv.uniq hdv h1 (dstep_end hld) h3
    subst es
    obtain ⟨qa, qc, rfl, _⟩ := id hq
    obtain ⟨xa, xc, rfl, _⟩ := id hxv
    exact ⟨qa, qc, xa, xc, rfl, hq, hxv, hb2⟩
  · exact normalOf_any p o v N R x lv u vss W hx hlo hll hrl hul hur (hu.below hb) (hl.below hb)
theorem firstOne_mk {p n o : Int} : ∀ {fss : List (List Tm)}, (∀ f ∈ fss, errOne p n o f = 0) → firstOne p n o fss = 0
  | [], _ => rfl
  | g :: r, h => by
    simp only [firstOne]
    rw [if_pos (h g (by simp))]
    exact firstOne_mk fun f hf => h f (by simp [hf])
theorem errVecs_one {p n o v : Int} {R : Nat} {w : List (List Tm)} (hR : errR p n o v = 0) (h1 : 1 ≤ R) (h2 : R ≤ 40) (hl : w.length = R) (hw : ∀ f ∈ w, errOne p n o f = 0) : errVecs p n o v (R : Int) [w] = 0 := by
  unfold errVecs
  rw [if_neg (by simpa using hR)]
  unfold errList
  have hb : betweenB (R : Int) 1 40 = true := by simp [betweenB]; omega
  rw [if_neg (by simp [hb]), if_neg (by simp)]
  have hv : errVec p n o (R : Int) w = 0 := by
    unfold errVec
    rw [if_neg (by omega)]
    exact firstOne_mk hw
  simp [firstZ, hv]
theorem errAlike_two {p n o v : Int} {R : Nat} {a b : List (List Tm)} (hR : errR p n o v = 0) (h1 : 1 ≤ R) (h2 : R ≤ 40) (ha : a.length = R) (hb : b.length = R) (wa : ∀ f ∈ a, errOne p n o f = 0) (wb : ∀ f ∈ b, errOne p n o f = 0) : errAlike p n o v [a, b] = 0 := by
  unfold errAlike
  rw [if_neg (by simpa using hR)]
  have k1 : badR a = false := by unfold badR; simp [betweenB]; omega
  have k2 : badR b = false := by unfold badR; simp [betweenB]; omega
  have k3 : unlV a.length a = false := by unfold unlV; simp
  have k4 : unlV a.length b = false := by unfold unlV; simp; omega
  have e : ([a, b].getD 0 []) = a := rfl
  rw [e]
  simp only [List.any_cons, List.any_nil, k1, k2, k3, k4, Bool.or_false, Bool.false_eq_true, if_false]
  simp [firstZ, firstOne_mk wa, firstOne_mk wb]
structure HangD (p o v rank : Int) (N : Nat) (u : List (List Tm)) (vss : List (List (List Tm))) (f : DS) : Prop where
  err : errDiv p N o v rank f.l vss = 0
  nrm : nrmB o v vss f.l = true
  add : errComb p N o v rank f.q vss = 0 → visE (errAlike p N o v [combR p N o v rank f.q vss, f.l]) (sums p o (combR p N o v rank f.q vss) f.l) = 0 ∧ visR (errAlike p N o v [combR p N o v rank f.q vss, f.l]) (sums p o (combR p N o v rank f.q vss) f.l) = u
  ok : ∀ g ∈ u, OkP g
  ul : u.length ≤ 1000
theorem hang_of {p o v rank : Int} {N R : Nat} {u : List (List Tm)} {vss : List (List (List Tm))} {f : DS} (he : errDiv p N o v rank u vss = 0) (hR : rank = (R : Int)) (hx : RCx p o v N R) (hlo : LOk p o N R vss) (hrl : ∀ g ∈ vss, ∀ f ∈ g, Right p o N f) (hul : u.length = R) (hur : ∀ f ∈ u, Right p o N f) (hR1 : 1 ≤ R) (hdv : Dv p o v vss ⟨u, List.replicate vss.length [], List.replicate R []⟩ f) (hi : DInv p o v N R vss f) (hend : dstep p o v vss f = none) (hg : f.q.any greatB = false ∧ f.l.any greatB = false) : HangD p o v rank N u vss f := by
  obtain ⟨hp1, hp2⟩ := errP_bd hx.pr
  have hR40 := hx.r
  have hvs : errVecs p N o v rank vss = 0 := by
    unfold errDiv at he
    by_cases h : errVecs p N o v rank vss = 0
    · exact h
    · rw [if_pos h] at he; exact absurd he h
  have hRr : errR p N o v = 0 := (errVecs_ok hvs).1
  have hlr : ∀ g ∈ f.l, Right p o N g := fun g hgm => by
    obtain ⟨c1, c2, _⟩ := vok_bd hx hi.lok hi.ll g hgm
    exact right_mk c1 (fun t ht x hx => by have := c2 t ht x hx; omega) (by have := List.any_eq_false.1 hg.2 g hgm; simpa using this)
  have hqr : ∀ g ∈ f.q, Right p o N g := fun g hgm => by
    have hgb : greatB g = false := by have := List.any_eq_false.1 hg.1 g hgm; simpa using this
    obtain ⟨i, hil, rfl⟩ := List.getElem_of_mem hgm
    have e : f.q.getD i [] = f.q[i] := by simp [List.getD_eq_getElem?_getD, hil]
    obtain ⟨c1, c2, c3⟩ := hi.qok i
    rw [e] at c1 c2 c3
    exact right_mk c1 (fun t ht x hx => by have h1 := c2 t ht; have h2 := le_sumI h1 x hx; have h3 := c3 t ht; exact ⟨h1 x hx, by omega⟩) hgb
  have hokU : ∀ g ∈ u, OkP g := fun g hgm => by
    have hr := hur g hgm
    have h0 := hx.n0
    have h3 := hx.n3
    have hl2 := hr.len
    exact ⟨by omega, fun t ht => ⟨by rw [hr.canon.len t ht]; omega, by rw [hr.canon.len t ht]; omega, fun x hx => by have := hr.bd t ht x hx; omega⟩⟩
  refine ⟨?_, ?_, fun hc => ?_, hokU, by omega⟩
  · unfold errDiv
    rw [if_neg (by simpa using hvs), hR]
    exact errVecs_one hRr hR1 hR40 hi.ll fun g hgm => errOne_mk (hlr g hgm)
  · refine nrm_true fun i _ t ht => ?_
    refine dv_nrm hdv (fun i t ht => ?_) i t ht
    have e : (List.replicate R ([] : List Tm)).getD i [] = [] := by
      rw [List.getD_eq_getElem?_getD]
      by_cases h : i < R <;> simp [h]
    simp only at ht
    rw [e] at ht; simp at ht
  · have hcR : combR p N o v rank f.q vss = combO p o R f.q vss vss.length := by unfold combR; rw [if_pos hc, hR]; simp
    have hA : AllR p o N R f.q vss := ⟨hqr, fun g hgm => ⟨hlo.len g hgm, hrl g hgm⟩, hi.ql⟩
    have hcg : (combO p o R f.q vss vss.length).any greatB = false := by
      cases hb : (combO p o R f.q vss vss.length).any greatB with
      | false => rfl
      | true =>
        exfalso
        unfold errComb at hc
        rw [if_neg (by simpa using hvs), if_neg (by rw [hi.ql]; simp)] at hc
        split at hc
        · rename_i h; exact h hc
        · rw [if_pos (Or.inr (by rw [hR]; simpa using hb))] at hc
          omega
    have hcl : (combO p o R f.q vss vss.length).length = R := (combO_at hp1 hA (k := 0) (by omega) vss.length (Nat.le_refl _)).1
    have hcr : ∀ g ∈ combO p o R f.q vss vss.length, Right p o N g := fun g hgm => by
      have hgb : greatB g = false := by have := List.any_eq_false.1 hcg g hgm; simpa using this
      obtain ⟨k, hkl, rfl⟩ := List.getElem_of_mem hgm
      have hk : k < R := by omega
      have e1 := (combO_at hp1 hA hk vss.length (Nat.le_refl _)).2
      have e : (combO p o R f.q vss vss.length).getD k [] = (combO p o R f.q vss vss.length)[k] := by simp [List.getD_eq_getElem?_getD, hkl]
      have hok := hA.okl hp1 (m := vss.length) (Nat.le_refl _) hk
      rw [e] at e1
      rw [e1] at hgb ⊢
      refine right_mk (hok.col hp1) (fun t ht x hx2 => ?_) hgb
      obtain ⟨y, hy, ey⟩ := col_mem ht
      obtain ⟨h, hh, hyh⟩ := List.mem_flatten.1 hy
      obtain ⟨i, hi2, rfl⟩ := prKs_mem hh
      rw [ey] at hx2
      have := (hA.pr hp1 hi2 hk).2 y hyh x hx2
      omega
    have hsum : sums p o (combO p o R f.q vss vss.length) f.l = u := by
      have hl1 : (combO p o R f.q vss vss.length).length = f.l.length := by rw [hcl, hi.ll]
      have hsl : (sums p o (combO p o R f.q vss vss.length) f.l).length = u.length := by rw [sums_len hl1, hcl, hul]
      apply List.ext_getElem hsl
      intro i h1 h2
      have hiR : i < R := by omega
      have e1 : (sums p o (combO p o R f.q vss vss.length) f.l)[i] = colL p o ((combO p o R f.q vss vss.length).getD i [] ++ f.l.getD i []) := by
        rw [← sums_at hl1 (by omega)]; rw [List.getD_eq_getElem?_getD, List.getElem?_eq_getElem h1]; rfl
      have e2 : u[i] = u.getD i [] := by simp [List.getD_eq_getElem?_getD, h2]
      rw [e1, e2]
      have hcO : Okl p N ((combO p o R f.q vss vss.length).getD i [] ++ f.l.getD i []) := ((hcr _ (getD_memL _ i (by omega))).canon.okl).append ((hlr _ (getD_memL _ i (by rw [hi.ll]; exact hiR))).canon.okl)
      refine (col_of_canon hp1 hcO.len hcO.coef (hur _ (getD_memL u i h2)).canon fun φ => ?_).symm
      obtain ⟨_, k1, hk1⟩ := dv_sum hx hlo hdv (dinv_start hx.ov hul hur) φ i hiR
      obtain ⟨_, k2, hk2⟩ := comb_lin (p := p) (o := o) (q := f.q) hlo.len φ i hiR vss.length (Nat.le_refl _)
      have e3 : f.v.getD i [] = [] := lead_none_all f.v.length (Nat.le_refl _) (dstep_lead hend) i (by rw [hi.vl]; exact hiR)
      have e4 : (List.replicate R ([] : List Tm)).getD i [] = [] := by simp [List.getD_eq_getElem?_getD, hiR]
      have e5 : ∀ k, mk p φ vss (List.replicate vss.length []) i k = 0 := fun k => by
        induction k with
        | zero => rfl
        | succ k ih =>
          simp only [mk]
          rw [ih]
          have e6 : (List.replicate vss.length ([] : List Tm)).getD k [] = [] := by
            rw [List.getD_eq_getElem?_getD]
            by_cases h : k < vss.length <;> simp [h]
          rw [e6]; rfl
      simp only at hk1
      rw [e3, e4, e5] at hk1
      have e7 : lin φ ([] : List Tm) = 0 := rfl
      rw [e7] at hk1
      rw [lin_append]
      refine ⟨-k1 - k2, ?_⟩
      rw [Int.mul_sub, Int.mul_neg]
      omega
    have hal : errAlike p N o v [combO p o R f.q vss vss.length, f.l] = 0 := errAlike_two hRr hR1 hR40 hcl hi.ll (fun g hgm => errOne_mk (hcr g hgm)) (fun g hgm => errOne_mk (hlr g hgm))
    have hug : u.any greatB = false := by
      rw [List.any_eq_false]
      intro g hgm
      have hr := hur g hgm
      rw [great_small hr.deg]
      have := hr.len
      simp; omega
    rw [hcR, hal, hsum]
    have hv0 : visE 0 u = 0 := by unfold visE; simp [hug]
    exact ⟨hv0, by unfold visR; rw [if_pos hv0]⟩
set_option maxRecDepth 100000 in
set_option maxHeartbeats 4000000 in
theorem divideHangs_bad (p n o v rank E : Int) (x lv : Value) (u : List (List Tm)) (vss : List (List (List Tm))) (w w1 : World) (hu : Vl w x u) (hl : Wl w lv vss) (hw1 : w1 = w.alloc (.cells #[.int .i64 p, .int .i64 n, .int .i64 o, .int .i64 v] 23)) (he : E ≠ 0)
    (hd : ∀ W, Below w1.heap.size w1 W → Calls Tryz.prog 5 #[ringV p n o v, .int .i64 rank, x, lv] W fun e w' => e = .returned (.tuple #[.slice none 0 0, .slice none 0 0, .int .i64 E]) ∧ Below W.heap.size W w') :
    Calls Tryz.prog 4 #[ringV p n o v, .int .i64 rank, x, lv] w fun e w' => e = .returned (.bool true) ∧ Below w.heap.size w w' := by
  have HB1 : Hid (Below w.heap.size w w1) := by rw [hw1]; exact belowNew
  have HX1 : Hid (BoxAt w1 w.heap.size p n o v) := by rw [hw1]; exact BoxAt.new w p n o v _
  have HDV := hid hd
  have HBG := hid (fun W => divideBegun_any W)
  have HVB := hid (fun W => vectorBegun_any W)
  obtain ⟨_, r0, r1, r2, r3⟩ := HX1.out
  obtain ⟨xa, xc, rfl, _⟩ := hu
  obtain ⟨la, lc, rfl, _⟩ := hl
  have hE : (E == 0) = false := by simpa using he
  have hE2 : (E != 0) = true := by simpa using he
  unfold ringV at HDV ⊢
  clear hd
  go_enter Tryz.func4, Tryz.ntmps4
  go_upto_region 1 with fail
  rw [← hw1]
  clear hw1
  go_wp2_with (first
    | (go_at_call 11; refine (HBG.out _).mono ?_; rintro e wa ⟨rfl, hba⟩; have HBA := hid hba; have ra0 := cell_keep r0 hba; have ra1 := cell_keep r1 hba; have ra2 := cell_keep r2 hba; have ra3 := cell_keep r3 hba; clear hba)
    | (go_at_call 13; refine (HVB.out _).mono ?_; rintro e wb ⟨rfl, hbb⟩; have HB0 := hid (HBA.out.trans (hbb.mono HBA.out.size)); have s0 := cell_keep ra0 hbb; have s1 := cell_keep ra1 hbb; have s2 := cell_keep ra2 hbb; have s3 := cell_keep ra3 hbb; clear hbb)
    | (go_at_call 5; refine (HDV.out _ HB0.out).mono ?_; rintro e w2 ⟨rfl, hb2⟩; have HB2 := hid (HB0.out.trans (hb2.mono HB0.out.size)); clear hb2))
  go_ret
  exact ⟨rfl, HB1.out.trans (HB2.out.mono HB1.out.size)⟩

set_option maxRecDepth 100000 in
set_option maxHeartbeats 4000000 in
theorem divideHangs_ok (p o v rank : Int) (N R : Nat) (x lv : Value) (u : List (List Tm)) (vss : List (List (List Tm))) (f : DS) (w w1 : World) (hu : Vl w x u) (hl : Wl w lv vss) (hw1 : w1 = w.alloc (.cells #[.int .i64 p, .int .i64 N, .int .i64 o, .int .i64 v] 23)) (hf : FinD p o v rank N R x lv u vss w1 f) (hh : HangD p o v rank N u vss f) (hg : f.q.any greatB = false ∧ f.l.any greatB = false) :
    Calls Tryz.prog 4 #[ringV p N o v, .int .i64 rank, x, lv] w fun e w' => e = .returned (.bool true) ∧ Below w.heap.size w w' := by
  have HB1 : Hid (Below w.heap.size w w1) := by rw [hw1]; exact belowNew
  have HX1 : Hid (BoxAt w1 w.heap.size p N o v) := by rw [hw1]; exact BoxAt.new w p N o v _
  have HU1 := hid (hu.below HB1.out)
  have HL1 := hid (hl.below HB1.out)
  have HDV := hid (hf.small hg.1 hg.2)
  have HBG := hid (fun W => divideBegun_any W)
  have HVB := hid (fun W => vectorBegun_any W)
  have HH := hid hh
  obtain ⟨_, r0, r1, r2, r3⟩ := HX1.out
  obtain ⟨xa, xc, rfl, _⟩ := hu
  obtain ⟨la, lc, rfl, _⟩ := hl
  unfold ringV at HDV ⊢
  clear hf hh hg
  go_enter Tryz.func4, Tryz.ntmps4
  go_upto_region 1 with fail
  rw [← hw1]
  clear hw1
  go_upto_region 6 with (first
    | (go_at_call 11; refine (HBG.out _).mono ?_; rintro e wa ⟨rfl, hba⟩; have HBA := hid hba; have ra0 := cell_keep r0 hba; have ra1 := cell_keep r1 hba; have ra2 := cell_keep r2 hba; have ra3 := cell_keep r3 hba; clear hba)
    | (go_at_call 13; refine (HVB.out _).mono ?_; rintro e wb ⟨rfl, hbb⟩; have HB0 := hid (HBA.out.trans (hbb.mono HBA.out.size)); have s0 := cell_keep ra0 hbb; have s1 := cell_keep ra1 hbb; have s2 := cell_keep ra2 hbb; have s3 := cell_keep ra3 hbb; clear hbb)
    | (go_at_call 5; refine (HDV.out _ HB0.out).mono ?_; rintro e w2 ⟨qa, qc, ya, yc, rfl, hq2, hx2, hb2⟩; have HQ2 := hid hq2; have HX2 := hid hx2; have HB2 := hid (HB0.out.trans (hb2.mono HB0.out.size)); have q0 := cell_keep s0 hb2; have q1 := cell_keep s1 hb2; have q2 := cell_keep s2 hb2; have q3 := cell_keep s3 hb2; clear hq2 hx2 hb2))
  have HN : Hid (Calls Tryz.prog 6 #[ringV p N o v, .int .i64 rank, .slice ya f.l.length yc, .slice la vss.length lc] w2 fun e w' => e = .returned (.tuple #[.bool true, .int .i64 0]) ∧ Below w2.heap.size w2 w') := by
    have h := normal_ok p o v rank N _ _ f.l vss w2 HX2.out (HL1.out.below HB2.out) HH.out.err
    rw [HH.out.nrm] at h; exact h
  unfold ringV at HN
  go_upto_region 9 with (go_at_call 6; refine HN.out.mono ?_; rintro e w3 ⟨rfl, hb3⟩; have HB23 := hid hb3; have HB3 := hid (HB2.out.trans (hb3.mono HB2.out.size)); have t0 := cell_keep q0 hb3; have t1 := cell_keep q1 hb3; have t2 := cell_keep q2 hb3; have t3 := cell_keep q3 hb3; clear hb3)
  have HC := hid (vecCombine_any p N o v rank _ _ f.q vss w3 (HQ2.out.below HB23.out) (HL1.out.below HB3.out))
  have HADD := hid HH.out.add
  generalize hE : errComb p N o v rank f.q vss = E at HC HADD
  have HEE := hid hE
  clear hE
  generalize combR p N o v rank f.q vss = cb at HC HADD
  unfold ringV at HC
  by_cases hz : E = 0
  · subst hz
    obtain ⟨a1, a2⟩ := HADD.out rfl
    have HA := hid (And.intro a1 a2)
    clear a1 a2
    go_upto_region 12 with (go_at_call 14; refine HC.out.mono ?_; rintro e w4 ⟨cu, rfl, hcu, hb4⟩; have HCU := hid hcu; have HB34 := hid hb4; have HB4 := hid (HB3.out.trans (hb4.mono HB3.out.size)); have m0 := cell_keep t0 hb4; have m1 := cell_keep t1 hb4; have m2 := cell_keep t2 hb4; have m3 := cell_keep t3 hb4; obtain ⟨ca, cc, rfl, _⟩ := hcu; clear hb4)
    have HAD : Hid (Calls Tryz.prog 15 #[ringV p N o v, .slice ca cb.length cc, .slice ya f.l.length yc] w4 fun e w' => ∃ da dc, e = .returned (.tuple #[.slice da u.length dc, .int .i64 0]) ∧ Vl w' (.slice da u.length dc) u ∧ Below w4.heap.size w4 w') := by
      refine (vecAdd_any p N o v _ _ cb f.l w4 HCU.out ((HX2.out.below HB23.out).below HB34.out)).mono ?_
      rw [HA.out.1, HA.out.2]
      rintro e w' ⟨z, rfl, hz, hb⟩
      have hz2 := hz
      obtain ⟨da, dc, rfl, _⟩ := hz
      exact ⟨da, dc, rfl, hz2, hb⟩
    unfold ringV at HAD
    go_wp2_with (first
      | (go_at_call 15; refine HAD.out.mono ?_; rintro e w5 ⟨da, dc, rfl, hd5, hb5⟩; have HD5 := hid hd5; have HB5 := hid (HB4.out.trans (hb5.mono HB4.out.size)); clear hd5 hb5)
      | (go_at_call 12; refine (sameVector_any _ _ u w5 HH.out.ul HH.out.ok HD5.out (HU1.out.below HB5.out)).mono ?_; rintro e w6 ⟨rfl, hb6⟩; have HB6 := hid (HB5.out.trans (hb6.mono HB5.out.size)); clear hb6))
    go_ret
    exact ⟨rfl, HB1.out.trans (HB6.out.mono HB1.out.size)⟩
  · have hE1 : (E == 0) = false := by simpa using hz
    have hE2 : (E != 0) = true := by simpa using hz
    go_wp2_with (go_at_call 14; refine HC.out.mono ?_; rintro e w4 ⟨cu, rfl, hcu, hb4⟩; have HB4 := hid (HB3.out.trans (hb4.mono HB3.out.size)); clear hcu hb4)
    go_ret
    exact ⟨rfl, HB1.out.trans (HB4.out.mono HB1.out.size)⟩

theorem divideHangs_any (p n o v rank : Int) (x lv : Value) (u : List (List Tm)) (vss : List (List (List Tm))) (w : World) (hu : Vl w x u) (hl : Wl w lv vss) :
    Calls Tryz.prog 4 #[ringV p n o v, .int .i64 rank, x, lv] w fun e w' => e = .returned (.bool true) ∧ Below w.heap.size w w' := by
  by_cases he : errDiv p n o v rank u vss = 0
  · have hn : 0 < n := by
      have h1 : errVecs p n o v rank vss = 0 := by
        unfold errDiv at he
        by_cases h : errVecs p n o v rank vss = 0
        · exact h
        · rw [if_pos h] at he; exact absurd he h
      have := (ring_ok (errVecs_ok h1).1).2.1
      omega
    obtain ⟨N, rfl⟩ : ∃ N : Nat, n = N := ⟨n.toNat, by omega⟩
    obtain ⟨w1, hw1⟩ : ∃ w1, w1 = w.alloc (.cells #[.int .i64 p, .int .i64 N, .int .i64 o, .int .i64 v] 23) := ⟨_, rfl⟩
    have hb : Below w.heap.size w w1 := by rw [hw1]; exact belowNew
    obtain ⟨R, f, hR, hx, hlo, hrl, hul, hur, hR1, hdv, hi, hend, _, hf⟩ := fin_all (hu.below hb) (hl.below hb) he
    cases h1 : f.q.any greatB with
    | true => exact divideHangs_bad p N o v rank 2 x lv u vss w w1 hu hl hw1 (by decide) (hf.great (by rw [h1]; rfl))
    | false =>
      cases h2 : f.l.any greatB with
      | true => exact divideHangs_bad p N o v rank 2 x lv u vss w w1 hu hl hw1 (by decide) (hf.great (by rw [h1, h2]; rfl))
      | false => exact divideHangs_ok p o v rank N R x lv u vss f w w1 hu hl hw1 hf (hang_of he hR hx hlo hrl hul hur hR1 hdv hi hend ⟨h1, h2⟩) ⟨h1, h2⟩
  · obtain ⟨w1, hw1⟩ : ∃ w1, w1 = w.alloc (.cells #[.int .i64 p, .int .i64 n, .int .i64 o, .int .i64 v] 23) := ⟨_, rfl⟩
    have hb : Below w.heap.size w w1 := by rw [hw1]; exact belowNew
    exact divideHangs_bad p n o v rank _ x lv u vss w w1 hu hl hw1 he fun W hW => divide_err p n o v rank x lv u vss W ((hu.below hb).below hW) ((hl.below hb).below hW) he
end Go.Proofs.YtilogbggilchaaaGreat
