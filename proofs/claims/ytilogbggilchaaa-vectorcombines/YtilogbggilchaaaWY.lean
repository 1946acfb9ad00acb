/- Combine of the program. -/
import Derived.Test.YtilogbggilchaaaWX
import Derived.Test.YtilogbggilchaaaWP
namespace Go.Proofs.Ytilogbggilchaaa
set_option linter.unusedSimpArgs false
set_option linter.unusedVariables false
open Go.RowKit
set_option maxRecDepth 100000 in
set_option maxHeartbeats 1000000 in
theorem vcombFn_any (p n o v : Int) (N R q rb cb lb : Nat) (fv : Value) (ax ay : Option Addr) (cx cy : Nat) (cs : List (List Tm)) (vss : List (List (List Tm))) (w : World) (hp : 2 ≤ p ∧ p ≤ 101) (ho : o = 1 ∨ o = 2) (hN0 : 0 < N) (hN : N ≤ 3) (hA : AllR p o N R cs vss) (hm : vss.length ≤ 60) (hq : q < R) (hcur : ∀ i, i < vss.length → cur p n o v [cs.getD i [], (vss.getD i []).getD q []] = 0)
    (bx : BoxAt w rb p n o v) (hc : w.cell? ⟨cb, 0, none⟩ = some (.slice ax cs.length cx)) (hl : w.cell? ⟨lb, 0, none⟩ = some (.slice ay vss.length cy)) (pc : Vl w (.slice ax cs.length cx) cs) (pv : Wl w (.slice ay vss.length cy) vss) :
    Calls Try.prog 46 #[.int .i64 q, fv, .pointer (some ⟨rb, 0, none⟩), .pointer (some ⟨cb, 0, none⟩), .pointer (some ⟨lb, 0, none⟩)] w fun e w' => ∃ u, e = .returned (.tuple #[u, .int .i64 (cmE p o cs vss vss.length q)]) ∧ Pl w' u (cmR p o cs vss vss.length q) ∧ Below w.heap.size w w' := by
  have HC := hid (combinePlace_any p n o v N R q _ _ cs vss w hp ho hN0 hN hA hm hq hcur pc pv)
  obtain ⟨_, bx0, bx1, bx2, bx3⟩ := bx
  clear hp ho hA hcur pc pv
  go_enter Try.func46, Try.ntmps46
  go_wp2_with (go_at_call 47; refine HC.out.mono ?_; rintro e w9 ⟨u9, rfl, hu9, hb9⟩; have HU9 := hid hu9; have HB9 := hid hb9; obtain ⟨ua9, uc9, rfl, _, _⟩ := hu9; clear hb9)
  go_ret2
  exact ⟨_, rfl, HU9.out, HB9.out⟩

def combR (p n o v rank : Int) (cs : List (List Tm)) (vss : List (List (List Tm))) : List (List Tm) := if errComb p n o v rank cs vss = 0 then combO p o rank.toNat cs vss vss.length else []
theorem combR_bad {p n o v rank : Int} {cs : List (List Tm)} {vss : List (List (List Tm))} (h : errComb p n o v rank cs vss ≠ 0) : combR p n o v rank cs vss = [] := by unfold combR; rw [if_neg h]
theorem below_threeW {w : World} {A B C : Obj} : Below w.heap.size w (((w.alloc A).alloc B).alloc C) := (((Below.refl _ _).alloc (Nat.le_refl _) _).alloc (by simp) _).alloc (by simp; omega) _

set_option maxRecDepth 100000 in
set_option maxHeartbeats 2000000 in
theorem vecCombine_any (p n o v rank : Int) (x y : Value) (cs : List (List Tm)) (vss : List (List (List Tm))) (w : World) (pc : Vl w x cs) (pv : Wl w y vss) :
    Calls Try.prog 18 #[ringV p n o v, .int .i64 rank, x, y] w fun e w' => ∃ u, e = .returned (.tuple #[u, .int .i64 (errComb p n o v rank cs vss)]) ∧ Vl w' u (combR p n o v rank cs vss) ∧ Below w.heap.size w w' := by
  have HX := hid pc
  have HY := hid pv
  obtain ⟨ax, cx, rfl, _⟩ := pc
  obtain ⟨ay, cy, rfl, _⟩ := pv
  obtain ⟨w2, hw2⟩ : ∃ w2, w2 = ((w.alloc (.cells #[.int .i64 p, .int .i64 n, .int .i64 o, .int .i64 v] 23)).alloc (.cells #[.slice ax cs.length cx] 26)).alloc (.cells #[.slice ay vss.length cy] 38) := ⟨_, rfl⟩
  have hb2 : Below w.heap.size w w2 := by rw [hw2]; exact below_threeW
  have hbx : BoxAt w2 w.heap.size p n o v := by rw [hw2]; exact (BoxAt.new w p n o v _).below below_two
  have hcf : w2.cell? ⟨w.heap.size + 1, 0, none⟩ = some (.slice ax cs.length cx) := by rw [hw2]; simp [go_sem]
  have hlf : w2.cell? ⟨w.heap.size + 2, 0, none⟩ = some (.slice ay vss.length cy) := by rw [hw2]; simp [go_sem]
  have HB2 := hid hb2
  have HBX := hid hbx
  have HCF := hid hcf
  have HLF := hid hlf
  have HYW := hid (HY.out.below hb2)
  have HXW := hid (HX.out.below hb2)
  clear hb2 hbx hcf hlf
  by_cases hz : errVecs p n o v rank vss = 0
  rotate_left
  · have he : errComb p n o v rank cs vss = errVecs p n o v rank vss := by unfold errComb; rw [if_pos hz]
    have HR := hid (combR_bad (p := p) (n := n) (o := o) (v := v) (rank := rank) (cs := cs) (vss := vss) (by rw [he]; exact hz))
    rw [HR.out, he]
    clear he
    obtain ⟨_, bx0, bx1, bx2, bx3⟩ := HBX.out
    have hcf := HCF.out
    have hlf := HLF.out
    have hzB : (errVecs p n o v rank vss != 0) = true := by simpa using hz
    clear hz
    go_enter Try.func18, Try.ntmps18
    go_wp2_with fail
    try rw [← hw2]
    refine (vecCheck_any p n o v rank _ vss _ HYW.out).mono ?_
    rintro e w3 ⟨rfl, hb3⟩
    have HB3 := hid (HB2.out.trans (hb3.mono HB2.out.size))
    clear hb3
    go_wp2
    go_ret2
    exact ⟨_, rfl, Vl.empty _, HB3.out⟩
  obtain ⟨hR, hrk, hv60, hvs⟩ := errVecs_ok hz
  have HZ := hid hz
  have HRR := hid hR
  clear hz
  obtain ⟨_, bx0, bx1, bx2, bx3⟩ := HBX.out
  have hcf := HCF.out
  have hlf := HLF.out
  by_cases hl : cs.length = vss.length
  rotate_left
  · have he : errComb p n o v rank cs vss = 1 := by unfold errComb; rw [if_neg (by rw [HZ.out]; simp), if_pos hl]
    have HR := hid (combR_bad (p := p) (n := n) (o := o) (v := v) (rank := rank) (cs := cs) (vss := vss) (by rw [he]; decide))
    rw [HR.out, he]
    clear he hR hvs
    have hlI : ¬ ((cs.length : Int) = (vss.length : Int)) := fun h => hl (Int.ofNat.inj h)
    go_enter Try.func18, Try.ntmps18
    go_wp2_with fail
    try rw [← hw2]
    refine (vecCheck_any p n o v rank _ vss _ HYW.out).mono ?_
    rw [HZ.out]
    rintro e w3 ⟨rfl, hb3⟩
    have HB3 := hid (HB2.out.trans (hb3.mono HB2.out.size))
    have g1 := cell_keep hcf hb3
    have g2 := cell_keep hlf hb3
    clear hb3 bx0 bx1 bx2 bx3 hcf hlf hw2
    go_wp2
    go_ret2
    exact ⟨_, rfl, Vl.empty _, HB3.out⟩
  have HPE : Hid (errPolys p n o v cs = firstOne p n o cs) := by show _ = _; unfold errPolys; rw [if_pos hR]
  have HL := hid hl
  have HM : Hid (cs.length ≤ 4000000) := by show _ ≤ _; omega
  by_cases hpz : errPolys p n o v cs = 0
  rotate_left
  · have he : errComb p n o v rank cs vss = firstOne p n o cs := by unfold errComb; rw [if_neg (by rw [HZ.out]; simp), if_neg (by rw [hl]; simp), if_pos hpz, HPE.out]
    have HR := hid (combR_bad (p := p) (n := n) (o := o) (v := v) (rank := rank) (cs := cs) (vss := vss) (by rw [he, ← HPE.out]; exact hpz))
    rw [HR.out, he]
    have hzB : (firstOne p n o cs != 0) = true := by rw [← HPE.out]; simpa using hpz
    clear he hR hvs hpz
    rw [HL.out] at hcf
    have HXV : Hid (Vl w2 (.slice ax vss.length cx) cs) := by rw [← HL.out]; exact HXW.out
    have hw3 := hw2
    rw [HL.out] at hw3
    rw [HL.out]
    clear hl hw2
    go_enter Try.func18, Try.ntmps18
    go_wp2_with fail
    try rw [← hw3]
    refine (vecCheck_any p n o v rank _ vss _ HYW.out).mono ?_
    rw [HZ.out]
    rintro e w3 ⟨rfl, hb3⟩
    have HB3 := hid (HB2.out.trans (hb3.mono HB2.out.size))
    have HX3 := hid (HXV.out.below hb3)
    have g1 := cell_keep hcf hb3
    have g2 := cell_keep hlf hb3
    have h0 := cell_keep bx0 hb3
    have h1 := cell_keep bx1 hb3
    have h2 := cell_keep bx2 hb3
    have h3 := cell_keep bx3 hb3
    clear hb3 bx0 bx1 bx2 bx3 hcf hlf hw3
    go_wp2_with (go_at_call 42; refine (vecPolys_any p n o v _ cs _ HRR.out HM.out HX3.out).mono ?_; rintro e w4 ⟨rfl, hb4⟩; have HB4 := hid (HB3.out.trans (hb4.mono HB3.out.size)); clear hb4)
    go_ret2
    exact ⟨_, rfl, Vl.empty _, HB4.out⟩
  obtain ⟨R, rfl⟩ : ∃ R : Nat, rank = (R : Int) := ⟨rank.toNat, by omega⟩
  have HPZ := hid hpz
  obtain ⟨hpr, hn1, hn2, ho, _⟩ := ring_ok hR
  have HP := hid (errP_bd hpr)
  have hcs := (errPolys_ok hpz).2
  have HA : Hid (AllR p o n.toNat R cs vss) := ⟨fun c hc => (right_of hR (hcs c hc)).1, fun u hu => ⟨by have := (hvs u hu).1; omega, fun f hf => (right_of hR ((hvs u hu).2 f hf)).1⟩, hl⟩
  have HCU : Hid (∀ q, q < R → ∀ i, i < vss.length → cur p n o v [cs.getD i [], (vss.getD i []).getD q []] = 0) := fun q hq i hi => cur_zero hR (fun f hf => by
    have hu := hvs _ (getD_memV vss i hi)
    simp only [List.mem_cons, List.not_mem_nil, or_false] at hf
    rcases hf with rfl | rfl
    · exact hcs _ (getD_memL cs i (by rw [hl]; exact hi))
    · exact hu.2 _ (getD_memL _ q (by omega)))
  have HALL := hid (comb_all (n := n) (v := v) hpr HP.out.1 HA.out HZ.out hpz)
  have HCR : Hid (combR p n o v (R : Int) cs vss = eachR (cmE p o cs vss vss.length) (cmR p o cs vss vss.length) R) := by
    show _ = _
    unfold combR
    rw [HALL.out.2, Int.toNat_natCast]
  rw [HCR.out, ← HALL.out.1]
  have hR40 : R ≤ 40 := by omega
  have HLR : Hid ((List.replicate R ([] : List Tm)).length = R) := by show _ = _; rw [List.length_replicate]
  have HEA := hid (fun (W : World) (u : Value) (hb : Below w2.heap.size w2 W) (hu : Vl W u (List.replicate R [])) => eachC_any w.heap.size (w.heap.size + 1) (w.heap.size + 2) u (List.replicate R []) (cmE p o cs vss vss.length) (cmR p o cs vss vss.length) W (by rw [HLR.out]; omega) hu (fun i w' fa fc hi hb' hpf => by
    have hb2 := hb.trans (hb'.mono hb.size)
    exact vcombFn_any p n o v n.toNat R i w.heap.size (w.heap.size + 1) (w.heap.size + 2) _ ax ay cx cy cs vss w' HP.out ho (by omega) (by omega) HA.out hv60 (by rw [HLR.out] at hi; exact hi) (HCU.out i (by rw [HLR.out] at hi; exact hi)) (HBX.out.below hb2) (cell_keep HCF.out hb2) (cell_keep HLF.out hb2) (HXW.out.below hb2) (HYW.out.below hb2)))
  rw [HLR.out] at HEA
  obtain ⟨i0, hi, hz0, hz1, hz2⟩ := info_parts Try.infoPolyW
  have HI := hid (And.intro hi (And.intro hz0 (And.intro hz1 hz2)))
  have HF0 : Hid (firstOne p n o cs = 0) := by show _ = _; rw [← HPE.out]; exact HPZ.out
  rw [HL.out] at hcf
  have HXV : Hid (Vl w2 (.slice ax vss.length cx) cs) := by rw [← HL.out]; exact HXW.out
  have hw3 := hw2
  rw [HL.out] at hw3
  rw [HL.out]
  clear hR hrk hvs hl hpz hpr hn1 hn2 ho hcs hi hz0 hz1 hz2 hw2
  go_enter Try.func18, Try.ntmps18
  go_wp2_with fail
  try rw [← hw3]
  refine (vecCheck_any p n o v (R : Int) _ vss _ HYW.out).mono ?_
  rw [HZ.out]
  rintro e w3 ⟨rfl, hb3⟩
  have HB3 := hid hb3
  have HX3 := hid (HXV.out.below hb3)
  have g1 := cell_keep hcf hb3
  have g2 := cell_keep hlf hb3
  have h0 := cell_keep bx0 hb3
  have h1 := cell_keep bx1 hb3
  have h2 := cell_keep bx2 hb3
  have h3 := cell_keep bx3 hb3
  clear hb3 bx0 bx1 bx2 bx3 hcf hlf hw3
  go_wp2_with (first
    | (go_at_call 42; refine (vecPolys_any p n o v _ cs _ HRR.out HM.out HX3.out).mono ?_; rw [HF0.out]; rintro e w4 ⟨rfl, hb4⟩; have HB4 := hid (show Below w2.heap.size w2 w4 from HB3.out.trans (hb4.mono HB3.out.size)); clear hb4 g1 g2 h0 h1 h2 h3)
    | (at_make; refine wpList_make_full _ rfl _ _ 27 rfl w4.heap.size 25 i0 _ 1 Try.underlying27 HI.out.1 HI.out.2.1 HI.out.2.2.1 .i64 .i64 _ _ R rfl rfl rfl rfl (by rw [HI.out.2.2.2]; omega) (by unfold maxLen; omega) (Nat.le_refl _) ?_; intro w5 hown hgrow; have HV5 := hid (vl_made hown); have HB5 : Hid (Below w2.heap.size w2 w5) := HB4.out.trans ((⟨hgrow.os, hgrow.tape, hgrow.output, hgrow.size, fun k hk => hgrow.block k hk (by simp)⟩ : Below w4.heap.size w4 w5).mono HB4.out.size); clear hown hgrow)
    | (go_at_call 24; refine (HEA.out _ _ HB5.out HV5.out).mono ?_; rintro e w6 ⟨u6, rfl, hu6, hb6⟩; have HU6 := hid hu6; have HB6 := hid (HB2.out.trans ((HB5.out.trans (hb6.mono HB5.out.size)).mono HB2.out.size)); obtain ⟨ua6, uc6, rfl, _⟩ := hu6; clear hb6))
  go_ret2
  exact ⟨_, rfl, HU6.out, HB6.out⟩
theorem checkCombine_any (p n o v rank : Int) (x y : Value) (cs : List (List Tm)) (vss : List (List (List Tm))) (w : World) (pc : Vl w x cs) (pv : Wl w y vss) :
    Calls Try.prog 19 #[ringV p n o v, .int .i64 rank, x, y] w fun e w' => e = .returned (.int .i64 (errComb p n o v rank cs vss)) ∧ Below w.heap.size w w' := by
  by_cases h1 : errVecs p n o v rank vss = 0
  · obtain ⟨_, hrk, h60, _⟩ := errVecs_ok h1
    by_cases h2 : cs.length = vss.length
    · by_cases h3 : errPolys p n o v cs = 0
      · obtain ⟨R, rfl⟩ : ∃ R : Nat, rank = (R : Int) := ⟨rank.toNat, by omega⟩
        exact checkCombine_good p n o v R x y cs vss w pc pv h1 h2 h3
      · exact checkCombine_pol p n o v rank x y cs vss w (by omega) pc pv h1 h2 h3
    · exact checkCombine_len p n o v rank x y cs vss w pc pv h1 h2
  · exact checkCombine_bad p n o v rank x y cs vss w pc pv h1
theorem comb_good {p n o v rank : Int} {cs : List (List Tm)} {vss : List (List (List Tm))} (h : errComb p n o v rank cs vss = 0) :
    ∃ R : Nat, rank = (R : Int) ∧ R ≤ 40 ∧ vss.length ≤ 60 ∧ (2 ≤ p ∧ p ≤ 101) ∧ (o = 1 ∨ o = 2) ∧ 0 < n.toNat ∧ n.toNat ≤ 3 ∧ AllR p o n.toNat R cs vss ∧ (∀ i, i < vss.length → ∀ f ∈ prods p o (cs.getD i []) (vss.getD i []), f.length ≤ 2000) ∧ (combO p o R cs vss vss.length).any greatB = false ∧ combR p n o v rank cs vss = combO p o R cs vss vss.length := by
  have h0 := h
  unfold errComb at h
  by_cases h1 : errVecs p n o v rank vss = 0
  rotate_left
  · rw [if_pos h1] at h; exact absurd h h1
  rw [if_neg (by rw [h1]; simp)] at h
  by_cases h2 : cs.length = vss.length
  rotate_left
  · rw [if_pos h2] at h; exact absurd h (by decide)
  rw [if_neg (by rw [h2]; simp)] at h
  by_cases h3 : errPolys p n o v cs = 0
  rotate_left
  · rw [if_pos h3] at h; exact absurd h h3
  rw [if_neg (by rw [h3]; simp)] at h
  split at h
  · exact absurd h (by decide)
  · rename_i hno
    obtain ⟨hR, hrk, h60, hvs⟩ := errVecs_ok h1
    obtain ⟨R, rfl⟩ : ∃ R : Nat, rank = (R : Int) := ⟨rank.toNat, by omega⟩
    obtain ⟨hpr, hn1, hn2, ho, _⟩ := ring_ok hR
    have hcs := (errPolys_ok h3).2
    have hA : AllR p o n.toNat R cs vss := ⟨fun c hc => (right_of hR (hcs c hc)).1, fun u hu => ⟨by have := (hvs u hu).1; omega, fun f hf => (right_of hR ((hvs u hu).2 f hf)).1⟩, h2⟩
    rw [Int.toNat_natCast] at hno
    refine ⟨R, rfl, by omega, h60, errP_bd hpr, ho, by omega, by omega, hA, fun i hi f hf => ?_, ?_, by unfold combR; rw [if_pos h0, Int.toNat_natCast]⟩
    · unfold prods at hf
      obtain ⟨g, hg, rfl⟩ := List.mem_map.1 hf
      obtain ⟨b, hb, rfl⟩ := List.getElem_of_mem hg
      have hb2 : b < R := by rw [← (hA.v _ (getD_memV vss i hi)).1]; exact hb
      have e : (vss.getD i [])[b] = (vss.getD i []).getD b [] := by
        generalize vss.getD i [] = xs at hb ⊢
        rw [List.getD_eq_getElem?_getD, List.getElem?_eq_getElem hb]; rfl
      rw [e]
      cases hm : manyC p o (cs.getD i []) ((vss.getD i []).getD b [])
      · unfold manyC at hm
        exact great_le (Bool.or_eq_false_iff.1 hm).2
      · exact absurd (Or.inl ⟨i, hi, b, by omega, hm⟩) hno
    · cases hg : (combO p o R cs vss vss.length).any greatB
      · rfl
      · exact absurd (Or.inr hg) hno
theorem comb_okp {p n o v rank : Int} {cs : List (List Tm)} {vss : List (List (List Tm))} (h : errComb p n o v rank cs vss = 0) : (combR p n o v rank cs vss).length ≤ 1000 ∧ ∀ f ∈ combR p n o v rank cs vss, OkP f := by
  obtain ⟨R, rfl, hR, h60, hp, ho, hN0, hN, hA, hs, hg, hc⟩ := comb_good h
  have hco := combO_ok hp hA.c hA.v hA.l hs vss.length (Nat.le_refl _)
  rw [hc]
  refine ⟨by rw [hco.1]; omega, fun f hf => ?_⟩
  obtain ⟨h1, h2⟩ := hco.2 f hf
  refine ⟨by omega, fun t ht => ?_⟩
  have h3 := h1 t ht
  exact ⟨by rw [h3.1]; exact hN0, by rw [h3.1]; exact hN, h3.2.1⟩
theorem comb_vis (p n o v rank : Int) (cs : List (List Tm)) (vss : List (List (List Tm))) : visE (errComb p n o v rank cs vss) (combR p n o v rank cs vss) = errComb p n o v rank cs vss ∧ visR (errComb p n o v rank cs vss) (combR p n o v rank cs vss) = combR p n o v rank cs vss := by
  by_cases h : errComb p n o v rank cs vss = 0
  · obtain ⟨R, rfl, hR, h60, hp, ho, hN0, hN, hA, hs, hg, hc⟩ := comb_good h
    have e : visE (errComb p n o v (R : Int) cs vss) (combR p n o v (R : Int) cs vss) = errComb p n o v (R : Int) cs vss := by
      unfold visE; rw [if_neg (by rw [h]; simp), hc, hg, h]; rfl
    exact ⟨e, by unfold visR; rw [e, if_pos h]⟩
  · have e : visE (errComb p n o v rank cs vss) (combR p n o v rank cs vss) = errComb p n o v rank cs vss := by unfold visE; rw [if_pos h]
    exact ⟨e, by unfold visR; rw [e, if_neg h, combR_bad h]⟩
theorem combineOf_R (p n o v rank : Int) (x y : Value) (cs : List (List Tm)) (vss : List (List (List Tm))) (w : World) (h : errComb p n o v rank cs vss = 0) (pc : Vl w x cs) (pv : Wl w y vss) :
    Calls Try.prog 20 #[ringV p n o v, .int .i64 rank, x, y] w fun e w' => ∃ u, e = .returned u ∧ Vl w' u (combR p n o v rank cs vss) ∧ Below w.heap.size w w' := by
  obtain ⟨R, rfl, hR, h60, hp, ho, hN0, hN, hA, hs, hg, hc⟩ := comb_good h
  rw [hc]
  exact combineOf_any p n o v n.toNat R x y cs vss w hp ho hN0 hN hR h60 hA.l hA.c hA.v hs pc pv
theorem any_atI (f : Int → Bool) (l : List Int) (k : Nat) (h : k < l.length) (h1 : f (l.getD k 0) = true) : l.any f = true :=
  List.any_eq_true.2 ⟨l.getD k 0, by rw [List.getD_eq_getElem?_getD, List.getElem?_eq_getElem h]; exact List.getElem_mem h, h1⟩
theorem any_noneI {f : Int → Bool} {l : List Int} (h : ∀ j, j < l.length → f (l.getD j 0) = false) : l.any f = false := by
  rw [List.any_eq_false]
  intro x hx
  obtain ⟨i, hi, rfl⟩ := List.getElem_of_mem hx
  have h1 := h i hi
  rw [List.getD_eq_getElem?_getD, List.getElem?_eq_getElem hi, Option.getD_some] at h1
  rw [h1]; simp
theorem sl_at {w : World} {a : Option Addr} {c : Nat} {xs : List Int} (h : Sl w (.slice a xs.length c) xs) (k : Nat) (hk : k < xs.length) : ∃ b off, a = some ⟨b, off, none⟩ ∧ b < w.heap.size ∧ w.cell? ⟨b, off + k, none⟩ = some (.int .i64 (xs.getD k 0)) := by
  obtain ⟨a2, c2, e, h2⟩ := h
  obtain ⟨b, off, e2, hlt, hi⟩ := h2 (by omega)
  simp only [Value.slice.injEq] at e
  exact ⟨b, off, by rw [e.1]; exact e2, hlt, hi k hk⟩
theorem alike_one {p n o v : Int} {fss : List (List Tm)} (h : errAlike p n o v [fss] = 0) : fss.length ≤ 40 ∧ 0 < n.toNat ∧ n.toNat ≤ 3 ∧ ∀ f ∈ fss, Right p o n.toNat f := by
  obtain ⟨hR, hall⟩ := alike_ok h
  obtain ⟨h1, _, h3⟩ := hall fss (by simp)
  obtain ⟨hpr, hn1, hn2, ho, _⟩ := ring_ok hR
  exact ⟨h1.2, by omega, by omega, fun f hf => (right_of hR (h3 f hf)).1⟩
end Go.Proofs.Ytilogbggilchaaa
