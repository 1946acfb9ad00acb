/- CombineOf of the reference. -/
import Derived.Test.YtilogbggilchaaaWP
namespace Go.Proofs.Ytilogbggilchaaa
set_option linter.unusedSimpArgs false
set_option linter.unusedVariables false
open Go.RowKit
theorem vl_made {w w' : World} {n : Nat} (h : w'.ownsRow w.heap.size 25 1 (.slice (some ⟨w.heap.size, 0, none⟩) n n) n (madeCells (Value.cells (.slice none 0 0)) (n * 1)).toList) : Vl w' (.slice (some ⟨w.heap.size, 0, none⟩) n n) (List.replicate n []) := by
  have hlt := (World.ownsRow.lt h w.heap.size rfl).2
  refine ⟨_, n, by rw [List.length_replicate], fun _ => ⟨w.heap.size, 0, rfl, hlt, fun i hi => ⟨.slice none 0 0, ?_, ?_⟩⟩⟩
  · rw [List.length_replicate] at hi
    rw [Nat.zero_add, h.cellAt i (by omega)]
    simp [madeCells, Value.cells, hi, Nat.mod_one]
  · rw [List.length_replicate] at hi
    have e : (List.replicate n ([] : List Tm)).getD i [] = [] := by simp [List.getD_eq_getElem?_getD, hi]
    rw [e]
    exact Pl.empty _
def combO (p o : Int) (R : Nat) (cs : List (List Tm)) (vss : List (List (List Tm))) : Nat → List (List Tm)
  | 0 => List.replicate R []
  | k + 1 => sums p o (combO p o R cs vss k) (prods p o (cs.getD k []) (vss.getD k []))
theorem combO_ok {p o : Int} {N R : Nat} {cs : List (List Tm)} {vss : List (List (List Tm))} (hp : 2 ≤ p ∧ p ≤ 101) (hc : ∀ c ∈ cs, Right p o N c) (hv : ∀ v ∈ vss, v.length = R ∧ ∀ f ∈ v, Right p o N f) (hl : cs.length = vss.length) (hs : ∀ i, i < vss.length → ∀ f ∈ prods p o (cs.getD i []) (vss.getD i []), f.length ≤ 2000) :
    ∀ k, k ≤ vss.length → (combO p o R cs vss k).length = R ∧ ∀ f ∈ combO p o R cs vss k, (∀ t ∈ f, Tok p N t) ∧ f.length ≤ 2000 * k
  | 0, _ => ⟨by simp [combO], fun f hf => by
      have : f = [] := by simpa [combO] using (List.eq_of_mem_replicate hf)
      rw [this]; exact ⟨fun t ht => by simp at ht, by simp⟩⟩
  | k + 1, hk => by
    obtain ⟨h1, h2⟩ := combO_ok hp hc hv hl hs k (by omega)
    have hvk := hv _ (getD_memV vss k (by omega))
    have hck := hc _ (getD_memL cs k (by omega))
    have hpl : (prods p o (cs.getD k []) (vss.getD k [])).length = R := by unfold prods; rw [List.length_map]; exact hvk.1
    refine ⟨by simp only [combO]; rw [sums_len (by rw [h1, hpl])]; exact h1, fun f hf => ?_⟩
    simp only [combO] at hf
    obtain ⟨i, hi, rfl⟩ := List.getElem_of_mem hf
    have hi2 : i < (combO p o R cs vss k).length := by rw [sums_len (by rw [h1, hpl])] at hi; exact hi
    have e : (sums p o (combO p o R cs vss k) (prods p o (cs.getD k []) (vss.getD k [])))[i] = colL p o ((combO p o R cs vss k).getD i [] ++ (prods p o (cs.getD k []) (vss.getD k [])).getD i []) := by
      rw [← sums_at (by rw [h1, hpl]) hi2]; generalize sums p o (combO p o R cs vss k) (prods p o (cs.getD k []) (vss.getD k [])) = xs at hi ⊢; rw [List.getD_eq_getElem?_getD, List.getElem?_eq_getElem hi]; rfl
    rw [e]
    have a1 := h2 _ (getD_memL _ i hi2)
    have hi3 : i < (prods p o (cs.getD k []) (vss.getD k [])).length := by rw [hpl, ← h1]; exact hi2
    have a2 := hs k (by omega) _ (getD_memL _ i hi3)
    have a3 : ∀ t ∈ (prods p o (cs.getD k []) (vss.getD k [])).getD i [], Tok p N t := by
      have hm := getD_memL _ i hi3
      unfold prods at hm ⊢
      obtain ⟨g, hg, hgg⟩ := List.mem_map.1 hm
      rw [← hgg]
      have hgr := hvk.2 g hg
      intro t ht
      obtain ⟨y, hy, ey⟩ := col_mem ht
      have hty := prodL_tok hp.1 hck.canon.len hgr.canon.len hck.bd hgr.bd y hy
      have hcc := col_canon (o := o) hp.1 (n := N) (l := prodL p (cs.getD k []) g) (fun t ht => (prodL_tok hp.1 hck.canon.len hgr.canon.len hck.bd hgr.bd t ht).1) (fun t ht => (prodL_tok hp.1 hck.canon.len hgr.canon.len hck.bd hgr.bd t ht).2.2)
      have hc2 := hcc.coef t ht
      exact ⟨by rw [ey]; exact hty.1, by rw [ey]; exact hty.2.1, by omega, hc2.2⟩
    have hall : ∀ t ∈ (combO p o R cs vss k).getD i [] ++ (prods p o (cs.getD k []) (vss.getD k [])).getD i [], Tok p N t := fun t ht => (List.mem_append.1 ht).elim (a1.1 t) (a3 t)
    refine ⟨fun t ht => ?_, ?_⟩
    · obtain ⟨y, hy, ey⟩ := col_mem ht
      have hcc := col_canon (o := o) hp.1 (n := N) (l := (combO p o R cs vss k).getD i [] ++ (prods p o (cs.getD k []) (vss.getD k [])).getD i []) (fun t ht => (hall t ht).1) (fun t ht => (hall t ht).2.2)
      have hc2 := hcc.coef t ht
      exact ⟨by rw [ey]; exact (hall y hy).1, by rw [ey]; exact (hall y hy).2.1, by omega, hc2.2⟩
    · have h3 := col_len (p := p) (o := o) ((combO p o R cs vss k).getD i [] ++ (prods p o (cs.getD k []) (vss.getD k [])).getD i [])
      rw [List.length_append] at h3
      have h4 := a1.2
      rw [Nat.mul_succ]; omega

set_option maxRecDepth 100000 in
set_option maxHeartbeats 2000000 in
theorem combineOf_any (p n o v : Int) (N R : Nat) (x y : Value) (cs : List (List Tm)) (vss : List (List (List Tm))) (w : World) (hp : 2 ≤ p ∧ p ≤ 101) (ho : o = 1 ∨ o = 2) (hN0 : 0 < N) (hN : N ≤ 3) (hR : R ≤ 40) (hm : vss.length ≤ 60) (hl : cs.length = vss.length) (hc : ∀ c ∈ cs, Right p o N c) (hv : ∀ u ∈ vss, u.length = R ∧ ∀ f ∈ u, Right p o N f) (hs : ∀ i, i < vss.length → ∀ f ∈ prods p o (cs.getD i []) (vss.getD i []), f.length ≤ 2000) (pc : Vl w x cs) (pv : Wl w y vss) :
    Calls Try.prog 20 #[ringV p n o v, .int .i64 (R : Int), x, y] w fun e w' => ∃ u, e = .returned u ∧ Vl w' u (combO p o R cs vss vss.length) ∧ Below w.heap.size w w' := by
  have HX := hid pc
  have HY := hid pv
  have HCO := hid (combO_ok hp hc hv hl hs)
  have HC := hid hc
  have HV := hid hv
  have HSS := hid hs
  have HP := hid hp
  have HO := hid ho
  have HL := hid hl
  obtain ⟨ax, cx, rfl, _⟩ := pc
  obtain ⟨ay, cy, rfl, _⟩ := pv
  obtain ⟨w1, hw1⟩ : ∃ w1, w1 = w.alloc (.cells #[.int .i64 p, .int .i64 n, .int .i64 o, .int .i64 v] 23) := ⟨_, rfl⟩
  have hbx : BoxAt w1 w.heap.size p n o v := by rw [hw1]; exact BoxAt.new w p n o v _
  have hbw : Below w.heap.size w w1 := by rw [hw1]; exact below_oneG
  have hs0 : w1.heap.size = w.heap.size + 1 := by rw [hw1]; simp
  have hs1 := hid hs0
  clear hs0
  have HBX := hid hbx
  have HBW := hid hbw
  obtain ⟨i0, hi, hz0, hz1, hz2⟩ := info_parts Try.infoPolyW
  have HI := hid (And.intro hi (And.intro hz0 (And.intro hz1 hz2)))
  clear hc hv hs hp ho hl hbx hbw hi hz0 hz1 hz2
  go_enter Try.func20, Try.ntmps20
  go_wp2_with (at_make; rw [← hw1]; refine wpList_make_full _ rfl _ _ 27 rfl w1.heap.size 25 i0 _ 1 Try.underlying27 HI.out.1 HI.out.2.1 HI.out.2.2.1 .i64 .i64 _ _ R rfl rfl rfl rfl (by rw [HI.out.2.2.2]; omega) (by unfold maxLen; omega) (Nat.le_refl _) ?_; intro w2 hown hgrow; have HV0 := hid (vl_made hown); have HB12 : Hid (Below w1.heap.size w1 w2) := ⟨hgrow.os, hgrow.tape, hgrow.output, hgrow.size, fun k hk => hgrow.block k hk (by simp)⟩; clear hown hgrow)
  clear hw1
  go_loopw [9, 10] (fun z i wr => ∃ k : Nat, k ≤ vss.length ∧ i = .int .i64 k ∧ Vl wr z (combO p o R cs vss k) ∧ Below w1.heap.size w1 wr) (fun _ i _ => vss.length - (intOf i).toNat)
  case atStart =>
    have h0 := HV0.out
    have hq := HB12.out
    rw [hs1.out] at h0
    exact ⟨0, Nat.zero_le _, rfl, h0, hq⟩
  case round =>
    clear HV0 HB12
    obtain ⟨k, hk, rfl, hvz, hbr⟩ := hrel
    have HVZ := hid hvz
    have HBR := hid hbr
    obtain ⟨za, zc, hz⟩ := vl_box hvz
    subst hz
    clear hvz hbr
    by_cases hk2 : k < vss.length
    · have hk3 : k < cs.length := by rw [HL.out]; exact hk2
      have hkI : (k : Int) < (cs.length : Int) := by omega
      obtain ⟨b, off, fa, fc, rfl, hlt, c0, hpf⟩ := vl_at HX.out k hk3
      obtain ⟨b2, off2, va, vc, rfl, hlt2, d0, hpv⟩ := wl_at HY.out k hk2
      have HST : Hid (combO p o R cs vss (k + 1) = sums p o (combO p o R cs vss k) (prods p o (cs.getD k []) (vss.getD k []))) := rfl
      have HCK := hid (HCO.out k (by omega))
      have HRC := hid (HC.out _ (getD_memL cs k hk3))
      have HRV := hid (HV.out _ (getD_memV vss k hk2))
      have HSK := hid (HSS.out k hk2)
      generalize combO p o R cs vss k = out at HVZ HST HCK
      generalize cs.getD k [] = c at c0 hpf HST HRC HSK
      generalize vss.getD k [] = u at d0 hpv HST HRV HSK
      have HPF := hid (hpf.below HBW.out)
      have HPV := hid (hpv.below HBW.out)
      have HPL : Hid ((prods p o c u).length = R) := by show _ = _; unfold prods; rw [List.length_map]; exact HRV.out.1
      have HTP : Hid (∀ g ∈ prods p o c u, Sm p N g) := fun g hg => by
        refine ⟨fun t ht => ?_, by have := HSK.out g hg; omega⟩
        unfold prods at hg
        obtain ⟨g0, hg0, rfl⟩ := List.mem_map.1 hg
        have hgr := HRV.out.2 g0 hg0
        have htk := prodL_tok HP.out.1 HRC.out.canon.len hgr.canon.len HRC.out.bd hgr.bd
        obtain ⟨y, hy, ey⟩ := col_mem ht
        have hc2 := (col_canon (o := o) HP.out.1 (n := N) (l := prodL p c g0) (fun t ht => (htk t ht).1) (fun t ht => (htk t ht).2.2)).coef t ht
        exact ⟨by rw [ey]; exact (htk y hy).1, by rw [ey]; exact (htk y hy).2.1, by omega, hc2.2⟩
      obtain ⟨_, bx0, bx1, bx2, bx3⟩ := HBX.out
      have KEEP : Hid (∀ W, Below w1.heap.size w1 W → (Hid (Below w1.heap.size w1 W) ∧ W.cell? ⟨w.heap.size, 0, none⟩ = some (.int .i64 p) ∧ W.cell? ⟨w.heap.size, 1, none⟩ = some (.int .i64 n) ∧ W.cell? ⟨w.heap.size, 2, none⟩ = some (.int .i64 o) ∧ W.cell? ⟨w.heap.size, 3, none⟩ = some (.int .i64 v) ∧ W.cell? ⟨b, off + k, none⟩ = some (.slice fa c.length fc) ∧ W.cell? ⟨b2, off2 + k, none⟩ = some (.slice va u.length vc))) :=
        fun W hb => ⟨hb, cell_keep bx0 hb, cell_keep bx1 hb, cell_keep bx2 hb, cell_keep bx3 hb, cell_keep (cell_keep c0 HBW.out) hb, cell_keep (cell_keep d0 HBW.out) hb⟩
      have HB0 : Hid (Below w1.heap.size w1 wr.drew) := HBR.out.drew
      clear bx0 bx1 bx2 bx3 c0 d0 hpf hpv
      go_wp2_with fail
      go_region_held (fun W => Hid (Below w1.heap.size w1 W) ∧ W.cell? ⟨w.heap.size, 0, none⟩ = some (.int .i64 p) ∧ W.cell? ⟨w.heap.size, 1, none⟩ = some (.int .i64 n) ∧ W.cell? ⟨w.heap.size, 2, none⟩ = some (.int .i64 o) ∧ W.cell? ⟨w.heap.size, 3, none⟩ = some (.int .i64 v) ∧ W.cell? ⟨b, off + k, none⟩ = some (.slice fa c.length fc) ∧ W.cell? ⟨b2, off2 + k, none⟩ = some (.slice va u.length vc))
        (first | exact KEEP.out _ HB0.out | exact KEEP.out _ HB7.out | exact KEEP.out _ HB6.out)
        (first
          | (go_at_call 11; refine (vtimes_any p n o v N _ _ c u _ HP.out HO.out hN0 hN ?_ HRC.out HRV.out.2 ?_ ?_).mono ?_; (have h1 := HRV.out.1; omega); exact HPF.out.below HB0.out; exact HPV.out.below HB0.out; rintro e w6 ⟨u6, rfl, hu6, hb6⟩; have HB6 := hid (show Below w1.heap.size w1 w6 from HB0.out.trans (hb6.mono HB0.out.size)); have HZ6 := hid ((HVZ.out.below (Below.refl wr.heap.size wr).drew).below hb6); have HU6 := hid hu6; obtain ⟨ua6, uc6, rfl, _⟩ := hu6; clear hb6)
          | (go_at_call 10; refine (vsum_any p n o v N _ _ out (prods p o c u) _ HP.out HO.out hN0 hN ?_ ?_ ?_ HTP.out HZ6.out HU6.out).mono ?_; (rw [HCK.out.1, HPL.out]); (rw [HCK.out.1]; omega); exact (fun g hg => ⟨(HCK.out.2 g hg).1, by have := (HCK.out.2 g hg).2; omega⟩); rintro e w7 ⟨u7, rfl, hu7, hb7⟩; have HB7 := hid (show Below w1.heap.size w1 w7 from HB6.out.trans (hb7.mono HB6.out.size)); have HU7 := hid hu7; obtain ⟨ua7, uc7, rfl, _⟩ := hu7; clear hb7))
      go_wp2
      go_roundw
      case rel => exact ⟨k + 1, by omega, by go_num, by rw [HST.out]; exact HU7.out, HB7.out⟩
      case measure => simp [intOf]; omega
    · have e : k = vss.length := by omega
      subst e
      go_wp2
      go_ret
      exact ⟨_, rfl, HVZ.out, HBW.out.trans (HBR.out.mono HBW.out.size)⟩
def manyC (p o : Int) (c f : List Tm) : Bool := (decide (0 < (c.length : Int)) && decide (0 < (f.length : Int)) && decide (200 < topF (-1) c + topF (-1) f)) || greatB (colL p o (prodL p c f))
def decC (p o rank : Int) (cs : List (List Tm)) (vss : List (List (List Tm))) : Decidable ((∃ i, i < vss.length ∧ ∃ k : Nat, (k : Int) < rank ∧ manyC p o (cs.getD i []) ((vss.getD i []).getD k []) = true) ∨ (combO p o rank.toNat cs vss vss.length).any greatB = true) :=
  decidable_of_iff ((List.range vss.length).any (fun i => (List.range rank.toNat).any fun k => manyC p o (cs.getD i []) ((vss.getD i []).getD k [])) = true ∨ (combO p o rank.toNat cs vss vss.length).any greatB = true)
    (or_congr (by
      simp only [List.any_eq_true, List.mem_range]
      exact ⟨fun ⟨i, h1, k, h2, h3⟩ => ⟨i, h1, k, by omega, h3⟩, fun ⟨i, h1, k, h2, h3⟩ => ⟨i, h1, k, by omega, h3⟩⟩) Iff.rfl)
def errComb (p n o v rank : Int) (cs : List (List Tm)) (vss : List (List (List Tm))) : Int :=
  if errVecs p n o v rank vss ≠ 0 then errVecs p n o v rank vss else if cs.length ≠ vss.length then 1 else if errPolys p n o v cs ≠ 0 then errPolys p n o v cs else haveI := decC p o rank cs vss; if (∃ i, i < vss.length ∧ ∃ k : Nat, (k : Int) < rank ∧ manyC p o (cs.getD i []) ((vss.getD i []).getD k []) = true) ∨ (combO p o rank.toNat cs vss vss.length).any greatB = true then 2 else 0

set_option maxRecDepth 100000 in
set_option maxHeartbeats 1000000 in
theorem checkCombine_bad (p n o v rank : Int) (x y : Value) (cs : List (List Tm)) (vss : List (List (List Tm))) (w : World) (pc : Vl w x cs) (pv : Wl w y vss) (hbad : errVecs p n o v rank vss ≠ 0) :
    Calls Try.prog 19 #[ringV p n o v, .int .i64 rank, x, y] w fun e w' => e = .returned (.int .i64 (errComb p n o v rank cs vss)) ∧ Below w.heap.size w w' := by
  have HX := hid pc
  have HY := hid pv
  obtain ⟨ax, cx, rfl, hj1⟩ := pc
  obtain ⟨ay, cy, rfl, hj2⟩ := pv
  clear hj1 hj2
  have HE : Hid (errComb p n o v rank cs vss = errVecs p n o v rank vss) := by show _ = _; unfold errComb; rw [if_pos hbad]
  rw [HE.out]
  have hbB : (errVecs p n o v rank vss == 0) = false := by simpa using hbad
  have HBD := hid hbB
  go_enter Try.func19, Try.ntmps19
  go_wp2_with (go_at_call 15; refine (checkVectors_any p n o v rank _ vss _ (HY.out.below below_oneG)).mono ?_; rintro e w1 ⟨rfl, hb1⟩; have HB1 := hid (show Below w.heap.size w w1 from below_oneG.trans (hb1.mono (by simp))); clear hb1)
  go_loop [10] (fun i => i = .int .i64 0) (fun _ => 0)
  case atStart => rfl
  case round =>
    subst hrel
    go_wp2
    all_goals go_ret
    all_goals exact ⟨rfl, HB1.out⟩

set_option maxRecDepth 100000 in
set_option maxHeartbeats 1000000 in
theorem checkCombine_len (p n o v rank : Int) (x y : Value) (cs : List (List Tm)) (vss : List (List (List Tm))) (w : World) (pc : Vl w x cs) (pv : Wl w y vss) (hv0 : errVecs p n o v rank vss = 0) (hl : cs.length ≠ vss.length) :
    Calls Try.prog 19 #[ringV p n o v, .int .i64 rank, x, y] w fun e w' => e = .returned (.int .i64 (errComb p n o v rank cs vss)) ∧ Below w.heap.size w w' := by
  have hlI : ¬ ((cs.length : Int) = (vss.length : Int)) := fun h => hl (Int.ofNat.inj h)
  have HX := hid pc
  have HY := hid pv
  obtain ⟨ax, cx, rfl, hj1⟩ := pc
  obtain ⟨ay, cy, rfl, hj2⟩ := pv
  clear hj1 hj2
  have HE : Hid (errComb p n o v rank cs vss = 1) := by show _ = _; unfold errComb; rw [if_neg (by simpa using hv0), if_pos hl]
  rw [HE.out]
  have HV := hid hv0
  clear hv0
  go_enter Try.func19, Try.ntmps19
  go_wp2_with (go_at_call 15; refine (checkVectors_any p n o v rank _ vss _ (HY.out.below below_oneG)).mono ?_; rw [HV.out]; rintro e w1 ⟨rfl, hb1⟩; have HB1 := hid (show Below w.heap.size w w1 from below_oneG.trans (hb1.mono (by simp))); clear hb1)
  go_loop [10] (fun i => i = .int .i64 0) (fun _ => 0)
  case atStart => rfl
  case round =>
    subst hrel
    go_wp2
    all_goals go_ret
    all_goals exact ⟨rfl, HB1.out⟩

set_option maxRecDepth 100000 in
set_option maxHeartbeats 600000 in
theorem checkCombine_pol (p n o v rank : Int) (x y : Value) (cs : List (List Tm)) (vss : List (List (List Tm))) (w : World) (hm : cs.length ≤ 4000000) (pc : Vl w x cs) (pv : Wl w y vss) (hv0 : errVecs p n o v rank vss = 0) (hl : cs.length = vss.length) (hp0 : errPolys p n o v cs ≠ 0) :
    Calls Try.prog 19 #[ringV p n o v, .int .i64 rank, x, y] w fun e w' => e = .returned (.int .i64 (errComb p n o v rank cs vss)) ∧ Below w.heap.size w w' := by
  have HM := hid hm
  have HL := hid hl
  have HX := hid pc
  have HY := hid pv
  obtain ⟨ax, cx, rfl, hj1⟩ := pc
  obtain ⟨ay, cy, rfl, hj2⟩ := pv
  clear hj1 hj2
  have HX2 : Hid (Vl w (.slice ax vss.length cx) cs) := by rw [← hl]; exact HX.out
  have HE : Hid (errComb p n o v rank cs vss = errPolys p n o v cs) := by show _ = _; unfold errComb; rw [if_neg (by simpa using hv0), if_neg (by simpa using hl), if_pos hp0]
  rw [HE.out]
  have HV := hid hv0
  have hbB : (errPolys p n o v cs == 0) = false := by simpa using hp0
  have HBD := hid hbB
  rw [hl]
  clear hv0 hm hl HX
  go_enter Try.func19, Try.ntmps19
  go_wp2_with fail
  refine (checkVectors_any p n o v rank _ vss _ (HY.out.below below_oneG)).mono ?_
  rw [HV.out]
  rintro e w1 ⟨rfl, hb1⟩
  have HB1 := hid (show Below w.heap.size w w1 from below_oneG.trans (hb1.mono (by simp)))
  obtain ⟨_, bx0, bx1, bx2, bx3⟩ := (BoxAt.new w p n o v 23).below hb1
  clear hb1
  go_wp2_with fail
  refine (checkPolys_any p n o v _ cs _ HM.out (HX2.out.below HB1.out)).mono ?_
  rintro e w2 ⟨rfl, hb2⟩
  have HB2 := hid (HB1.out.trans (hb2.mono HB1.out.size))
  clear hb2 bx0 bx1 bx2 bx3
  go_wp2_with fail
  go_loop [10] (fun i => i = .int .i64 0) (fun _ => 0)
  case atStart => rfl
  case round =>
    subst hrel
    go_wp2
    all_goals go_ret
    all_goals exact ⟨rfl, HB2.out⟩
theorem errVecs_ok {p n o v rank : Int} {vss : List (List (List Tm))} (h : errVecs p n o v rank vss = 0) : errR p n o v = 0 ∧ (1 ≤ rank ∧ rank ≤ 40) ∧ vss.length ≤ 60 ∧ ∀ u ∈ vss, (u.length : Int) = rank ∧ ∀ f ∈ u, errOne p n o f = 0 := by
  unfold errVecs at h
  by_cases hr : errR p n o v = 0
  · rw [if_neg (by simpa using hr)] at h
    unfold errList at h
    cases hb : betweenB rank 1 40
    · rw [if_pos hb] at h; exact absurd h (by decide)
    · rw [if_neg (by rw [hb]; simp)] at h
      by_cases hl : 60 < vss.length
      · rw [if_pos hl] at h; exact absurd h (by decide)
      · rw [if_neg hl] at h
        refine ⟨hr, by simpa [betweenB] using hb, by omega, fun u hu => ?_⟩
        have h1 := firstZ_ok h u hu
        unfold errVec at h1
        by_cases hu2 : (u.length : Int) = rank
        · rw [if_neg (by simpa using hu2)] at h1; exact ⟨hu2, firstOne_ok h1⟩
        · rw [if_pos hu2] at h1; exact absurd h1 (by decide)
  · rw [if_pos hr] at h; exact absurd h hr
theorem okp_right {p o : Int} {N : Nat} {f : List Tm} (hN0 : 0 < N) (hN : N ≤ 3) (h : Right p o N f) : f.length ≤ 2000 ∧ ∀ t ∈ f, 0 < t.2.length ∧ t.2.length ≤ 3 ∧ ∀ x ∈ t.2, 0 ≤ x ∧ x ≤ 400 := by
  refine ⟨h.len, fun t ht => ?_⟩
  have h1 := h.canon.len t ht
  refine ⟨by rw [h1]; exact hN0, by rw [h1]; exact hN, fun x hx => ?_⟩
  have := h.bd t ht x hx
  omega
theorem great_le {ts : List Tm} (h : greatB ts = false) : ts.length ≤ 2000 := by
  unfold greatB at h
  simp at h
  omega
end Go.Proofs.Ytilogbggilchaaa
