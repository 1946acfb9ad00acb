/- CombineOf of the reference. -/
import Derived.Test.YtkmjmmnnnbjghaaWN
import Derived.Test.YtkmjmmnnnbjghaaYB
import Derived.Test.YtkmjmmnnnbjghaaWL
namespace Go.Proofs.Ytkmjmmnnnbjghaa
set_option linter.unusedSimpArgs false
set_option linter.unusedVariables false
open Go.RowKit

/-- A vector of so many polynomials without terms. -/
theorem vl_made {w w' : World} {n : Nat} (h : w'.ownsRow w.heap.size 54 1 (.slice (some ⟨w.heap.size, 0, none⟩) n n) n (madeCells (Value.cells (.slice none 0 0)) (n * 1)).toList) : Vl w' (.slice (some ⟨w.heap.size, 0, none⟩) n n) (List.replicate n []) := by
  have hlt := (World.ownsRow.lt h w.heap.size rfl).2
  refine ⟨_, n, by rw [List.length_replicate], fun _ => ⟨w.heap.size, 0, rfl, hlt, fun i hi => ⟨.slice none 0 0, ?_, ?_⟩⟩⟩
  · rw [List.length_replicate] at hi
    rw [Nat.zero_add, h.cellAt i (by omega)]
    simp [madeCells, Value.cells, hi, Nat.mod_one]
  · rw [List.length_replicate] at hi
    have e : (List.replicate n ([] : List Tm)).getD i [] = [] := by simp [List.getD_eq_getElem?_getD, hi]
    rw [e]
    exact Pl.empty _
/-- What CombineOf has added up so far. -/
def combO (p o : Int) (R : Nat) (cs : List (List Tm)) (vss : List (List (List Tm))) : Nat → List (List Tm)
  | 0 => List.replicate R []
  | k + 1 => sums p o (combO p o R cs vss k) (prods p o (cs.getD k []) (vss.getD k []))
theorem combO_ok {p o : Int} {N R : Nat} {cs : List (List Tm)} {vss : List (List (List Tm))} (hp : 2 ≤ p ∧ p ≤ 101) (hc : ∀ c ∈ cs, Right p o N c) (hv : ∀ v ∈ vss, v.length = R ∧ ∀ f ∈ v, Right p o N f) (hl : cs.length = vss.length) (hs : ∀ i, i < vss.length → ∀ f ∈ prods p o (cs.getD i []) (vss.getD i []), f.length ≤ 2000) :
    ∀ k, k ≤ vss.length → (combO p o R cs vss k).length = R ∧ ∀ f ∈ combO p o R cs vss k, (∀ t ∈ f, Tok p N t) ∧ f.length ≤ 2000 * k
  | 0, _ => ⟨by simp [combO], fun f hf => by
      have : f = [] := by simpa [combO] using (List.eq_of_mem_replicate hf)
      rw [this]; exact ⟨fun t ht => by simp at ht, by simp⟩⟩
  | k + 1, hk => by
    obtain ⟨h1, h2⟩ := combO_ok hp hc hv hl hs k (by omega)
    have hvk := hv _ (getD_memV vss k (by omega))
    have hck := hc _ (getD_memL cs k (by omega))
    have hpl : (prods p o (cs.getD k []) (vss.getD k [])).length = R := by unfold prods; rw [List.length_map]; exact hvk.1
    refine ⟨by simp only [combO]; rw [sums_len (by rw [h1, hpl])]; exact h1, fun f hf => ?_⟩
    simp only [combO] at hf
    obtain ⟨i, hi, rfl⟩ := List.getElem_of_mem hf
    have hi2 : i < (combO p o R cs vss k).length := by rw [sums_len (by rw [h1, hpl])] at hi; exact hi
    have e : (sums p o (combO p o R cs vss k) (prods p o (cs.getD k []) (vss.getD k [])))[i] = colL p o ((combO p o R cs vss k).getD i [] ++ (prods p o (cs.getD k []) (vss.getD k [])).getD i []) := by
      rw [← sums_at (by rw [h1, hpl]) hi2]; generalize sums p o (combO p o R cs vss k) (prods p o (cs.getD k []) (vss.getD k [])) = xs at hi ⊢; rw [List.getD_eq_getElem?_getD, List.getElem?_eq_getElem hi]; rfl
    rw [e]
    have a1 := h2 _ (getD_memL _ i hi2)
    have hi3 : i < (prods p o (cs.getD k []) (vss.getD k [])).length := by rw [hpl, ← h1]; exact hi2
    have a2 := hs k (by omega) _ (getD_memL _ i hi3)
    have a3 : ∀ t ∈ (prods p o (cs.getD k []) (vss.getD k [])).getD i [], Tok p N t := by
      have hm := getD_memL _ i hi3
      unfold prods at hm ⊢
      obtain ⟨g, hg, hgg⟩ := List.mem_map.1 hm
      rw [← hgg]
      have hgr := hvk.2 g hg
      intro t ht
      obtain ⟨y, hy, ey⟩ := col_mem ht
      have hty := prodL_tok hp.1 hck.canon.len hgr.canon.len hck.bd hgr.bd y hy
      have hcc := col_canon (o := o) hp.1 (n := N) (l := prodL p (cs.getD k []) g) (fun t ht => (prodL_tok hp.1 hck.canon.len hgr.canon.len hck.bd hgr.bd t ht).1) (fun t ht => (prodL_tok hp.1 hck.canon.len hgr.canon.len hck.bd hgr.bd t ht).2.2)
      have hc2 := hcc.coef t ht
      exact ⟨by rw [ey]; exact hty.1, by rw [ey]; exact hty.2.1, by omega, hc2.2⟩
    have hall : ∀ t ∈ (combO p o R cs vss k).getD i [] ++ (prods p o (cs.getD k []) (vss.getD k [])).getD i [], Tok p N t := fun t ht => (List.mem_append.1 ht).elim (a1.1 t) (a3 t)
    refine ⟨fun t ht => ?_, ?_⟩
    · obtain ⟨y, hy, ey⟩ := col_mem ht
      have hcc := col_canon (o := o) hp.1 (n := N) (l := (combO p o R cs vss k).getD i [] ++ (prods p o (cs.getD k []) (vss.getD k [])).getD i []) (fun t ht => (hall t ht).1) (fun t ht => (hall t ht).2.2)
      have hc2 := hcc.coef t ht
      exact ⟨by rw [ey]; exact (hall y hy).1, by rw [ey]; exact (hall y hy).2.1, by omega, hc2.2⟩
    · have h3 := col_len (p := p) (o := o) ((combO p o R cs vss k).getD i [] ++ (prods p o (cs.getD k []) (vss.getD k [])).getD i [])
      rw [List.length_append] at h3
      have h4 := a1.2
      rw [Nat.mul_succ]; omega

set_option maxRecDepth 100000 in
set_option maxHeartbeats 2000000 in
theorem combineOf_any (p n o v : Int) (N R : Nat) (x y : Value) (cs : List (List Tm)) (vss : List (List (List Tm))) (w : World) (hp : 2 ≤ p ∧ p ≤ 101) (ho : o = 1 ∨ o = 2) (hN0 : 0 < N) (hN : N ≤ 3) (hR : R ≤ 40) (hm : vss.length ≤ 60) (hl : cs.length = vss.length) (hc : ∀ c ∈ cs, Right p o N c) (hv : ∀ u ∈ vss, u.length = R ∧ ∀ f ∈ u, Right p o N f) (hs : ∀ i, i < vss.length → ∀ f ∈ prods p o (cs.getD i []) (vss.getD i []), f.length ≤ 2000) (pc : Vl w x cs) (pv : Wl w y vss) :
    Calls Try.prog 51 #[ringV p n o v, .int .i64 (R : Int), x, y] w fun e w' => ∃ u, e = .returned u ∧ Vl w' u (combO p o R cs vss vss.length) ∧ Below w.heap.size w w' := by
  have HX := hid pc
  have HY := hid pv
  have HCO := hid (combO_ok hp hc hv hl hs)
  have HC := hid hc
  have HV := hid hv
  have HSS := hid hs
  have HP := hid hp
  have HO := hid ho
  have HL := hid hl
  obtain ⟨ax, cx, rfl, _⟩ := pc
  obtain ⟨ay, cy, rfl, _⟩ := pv
  obtain ⟨w1, hw1⟩ : ∃ w1, w1 = w.alloc (.cells #[.int .i64 p, .int .i64 n, .int .i64 o, .int .i64 v] 39) := ⟨_, rfl⟩
  have hbx : BoxAt w1 w.heap.size p n o v := by rw [hw1]; exact BoxAt.new w p n o v _
  have hbw : Below w.heap.size w w1 := by rw [hw1]; exact below_oneG
  have hs0 : w1.heap.size = w.heap.size + 1 := by rw [hw1]; simp
  have hs1 := hid hs0
  clear hs0
  have HBX := hid hbx
  have HBW := hid hbw
  obtain ⟨i0, hi, hz0, hz1, hz2⟩ := info_parts Try.infoPolyW
  have HI := hid (And.intro hi (And.intro hz0 (And.intro hz1 hz2)))
  clear hc hv hs hp ho hl hbx hbw hi hz0 hz1 hz2
  go_enter Try.func51, Try.ntmps51
  go_wp2_with (at_make; rw [← hw1]; refine wpList_make_full _ rfl _ _ 56 rfl w1.heap.size 54 i0 _ 1 Try.underlying56 HI.out.1 HI.out.2.1 HI.out.2.2.1 .i64 .i64 _ _ R rfl rfl rfl rfl (by rw [HI.out.2.2.2]; omega) (by unfold maxLen; omega) (Nat.le_refl _) ?_; intro w2 hown hgrow; have HV0 := hid (vl_made hown); have HB12 : Hid (Below w1.heap.size w1 w2) := ⟨hgrow.os, hgrow.tape, hgrow.output, hgrow.size, fun k hk => hgrow.block k hk (by simp)⟩; clear hown hgrow)
  clear hw1
  go_loopw [9, 10] (fun z i wr => ∃ k : Nat, k ≤ vss.length ∧ i = .int .i64 k ∧ Vl wr z (combO p o R cs vss k) ∧ Below w1.heap.size w1 wr) (fun _ i _ => vss.length - (intOf i).toNat)
  case atStart =>
    have h0 := HV0.out
    have hq := HB12.out
    rw [hs1.out] at h0
    exact ⟨0, Nat.zero_le _, rfl, h0, hq⟩
  case round =>
    clear HV0 HB12
    obtain ⟨k, hk, rfl, hvz, hbr⟩ := hrel
    have HVZ := hid hvz
    have HBR := hid hbr
    obtain ⟨za, zc, hz⟩ := vl_box hvz
    subst hz
    clear hvz hbr
    by_cases hk2 : k < vss.length
    · have hk3 : k < cs.length := by rw [HL.out]; exact hk2
      have hkI : (k : Int) < (cs.length : Int) := by omega
      obtain ⟨b, off, fa, fc, rfl, hlt, c0, hpf⟩ := vl_at HX.out k hk3
      obtain ⟨b2, off2, va, vc, rfl, hlt2, d0, hpv⟩ := wl_at HY.out k hk2
      have HST : Hid (combO p o R cs vss (k + 1) = sums p o (combO p o R cs vss k) (prods p o (cs.getD k []) (vss.getD k []))) := rfl
      have HCK := hid (HCO.out k (by omega))
      have HRC := hid (HC.out _ (getD_memL cs k hk3))
      have HRV := hid (HV.out _ (getD_memV vss k hk2))
      have HSK := hid (HSS.out k hk2)
      generalize combO p o R cs vss k = out at HVZ HST HCK
      generalize cs.getD k [] = c at c0 hpf HST HRC HSK
      generalize vss.getD k [] = u at d0 hpv HST HRV HSK
      have HPF := hid (hpf.below HBW.out)
      have HPV := hid (hpv.below HBW.out)
      have HPL : Hid ((prods p o c u).length = R) := by show _ = _; unfold prods; rw [List.length_map]; exact HRV.out.1
      have HTP : Hid (∀ g ∈ prods p o c u, Sm p N g) := fun g hg => by
        refine ⟨fun t ht => ?_, by have := HSK.out g hg; omega⟩
        unfold prods at hg
        obtain ⟨g0, hg0, rfl⟩ := List.mem_map.1 hg
        have hgr := HRV.out.2 g0 hg0
        have htk := prodL_tok HP.out.1 HRC.out.canon.len hgr.canon.len HRC.out.bd hgr.bd
        obtain ⟨y, hy, ey⟩ := col_mem ht
        have hc2 := (col_canon (o := o) HP.out.1 (n := N) (l := prodL p c g0) (fun t ht => (htk t ht).1) (fun t ht => (htk t ht).2.2)).coef t ht
        exact ⟨by rw [ey]; exact (htk y hy).1, by rw [ey]; exact (htk y hy).2.1, by omega, hc2.2⟩
      obtain ⟨_, bx0, bx1, bx2, bx3⟩ := HBX.out
      have KEEP : Hid (∀ W, Below w1.heap.size w1 W → (Hid (Below w1.heap.size w1 W) ∧ W.cell? ⟨w.heap.size, 0, none⟩ = some (.int .i64 p) ∧ W.cell? ⟨w.heap.size, 1, none⟩ = some (.int .i64 n) ∧ W.cell? ⟨w.heap.size, 2, none⟩ = some (.int .i64 o) ∧ W.cell? ⟨w.heap.size, 3, none⟩ = some (.int .i64 v) ∧ W.cell? ⟨b, off + k, none⟩ = some (.slice fa c.length fc) ∧ W.cell? ⟨b2, off2 + k, none⟩ = some (.slice va u.length vc))) :=
        fun W hb => ⟨hb, cell_keep bx0 hb, cell_keep bx1 hb, cell_keep bx2 hb, cell_keep bx3 hb, cell_keep (cell_keep c0 HBW.out) hb, cell_keep (cell_keep d0 HBW.out) hb⟩
      have HB0 : Hid (Below w1.heap.size w1 wr.drew) := HBR.out.drew
      clear bx0 bx1 bx2 bx3 c0 d0 hpf hpv
      go_wp2_with fail
      go_region_held (fun W => Hid (Below w1.heap.size w1 W) ∧ W.cell? ⟨w.heap.size, 0, none⟩ = some (.int .i64 p) ∧ W.cell? ⟨w.heap.size, 1, none⟩ = some (.int .i64 n) ∧ W.cell? ⟨w.heap.size, 2, none⟩ = some (.int .i64 o) ∧ W.cell? ⟨w.heap.size, 3, none⟩ = some (.int .i64 v) ∧ W.cell? ⟨b, off + k, none⟩ = some (.slice fa c.length fc) ∧ W.cell? ⟨b2, off2 + k, none⟩ = some (.slice va u.length vc))
        (first | exact KEEP.out _ HB0.out | exact KEEP.out _ HB7.out | exact KEEP.out _ HB6.out)
        (first
          | (go_at_call 43; refine (vtimes_any p n o v N _ _ c u _ HP.out HO.out hN0 hN ?_ HRC.out HRV.out.2 ?_ ?_).mono ?_; (have h1 := HRV.out.1; omega); exact HPF.out.below HB0.out; exact HPV.out.below HB0.out; rintro e w6 ⟨u6, rfl, hu6, hb6⟩; have HB6 := hid (show Below w1.heap.size w1 w6 from HB0.out.trans (hb6.mono HB0.out.size)); have HZ6 := hid ((HVZ.out.below (Below.refl wr.heap.size wr).drew).below hb6); have HU6 := hid hu6; obtain ⟨ua6, uc6, rfl, _⟩ := hu6; clear hb6)
          | (go_at_call 42; refine (vsum_any p n o v N _ _ out (prods p o c u) _ HP.out HO.out hN0 hN ?_ ?_ ?_ HTP.out HZ6.out HU6.out).mono ?_; (rw [HCK.out.1, HPL.out]); (rw [HCK.out.1]; omega); exact (fun g hg => ⟨(HCK.out.2 g hg).1, by have := (HCK.out.2 g hg).2; omega⟩); rintro e w7 ⟨u7, rfl, hu7, hb7⟩; have HB7 := hid (show Below w1.heap.size w1 w7 from HB6.out.trans (hb7.mono HB6.out.size)); have HU7 := hid hu7; obtain ⟨ua7, uc7, rfl, _⟩ := hu7; clear hb7))
      go_wp2
      go_roundw
      case rel => exact ⟨k + 1, by omega, by go_num, by rw [HST.out]; exact HU7.out, HB7.out⟩
      case measure => simp [intOf]; omega
    · have e : k = vss.length := by omega
      subst e
      go_wp2
      go_ret
      exact ⟨_, rfl, HVZ.out, HBW.out.trans (HBR.out.mono HBW.out.size)⟩

end Go.Proofs.Ytkmjmmnnnbjghaa

/- CheckCombine of the reference. -/
namespace Go.Proofs.Ytkmjmmnnnbjghaa
set_option linter.unusedSimpArgs false
set_option linter.unusedVariables false
open Go.RowKit

/-- A product that is told too great. -/
def manyC (p o : Int) (c f : List Tm) : Bool := (decide (0 < (c.length : Int)) && decide (0 < (f.length : Int)) && decide (200 < topF (-1) c + topF (-1) f)) || greatB (colL p o (prodL p c f))
open Classical in
/-- What CheckCombine tells. -/
noncomputable def errComb (p n o v rank : Int) (cs : List (List Tm)) (vss : List (List (List Tm))) : Int :=
  if errVecs p n o v rank vss ≠ 0 then errVecs p n o v rank vss else if cs.length ≠ vss.length then 1 else if errPolys p n o v cs ≠ 0 then errPolys p n o v cs else if (∃ i, i < vss.length ∧ ∃ k : Nat, (k : Int) < rank ∧ manyC p o (cs.getD i []) ((vss.getD i []).getD k []) = true) ∨ (combO p o rank.toNat cs vss vss.length).any greatB = true then 2 else 0

set_option maxRecDepth 100000 in
set_option maxHeartbeats 1000000 in
theorem checkCombine_bad (p n o v rank : Int) (x y : Value) (cs : List (List Tm)) (vss : List (List (List Tm))) (w : World) (pc : Vl w x cs) (pv : Wl w y vss) (hbad : errVecs p n o v rank vss ≠ 0) :
    Calls Try.prog 50 #[ringV p n o v, .int .i64 rank, x, y] w fun e w' => e = .returned (.int .i64 (errComb p n o v rank cs vss)) ∧ Below w.heap.size w w' := by
  have HX := hid pc
  have HY := hid pv
  obtain ⟨ax, cx, rfl, hj1⟩ := pc
  obtain ⟨ay, cy, rfl, hj2⟩ := pv
  clear hj1 hj2
  have HE : Hid (errComb p n o v rank cs vss = errVecs p n o v rank vss) := by show _ = _; unfold errComb; rw [if_pos hbad]
  rw [HE.out]
  have hbB : (errVecs p n o v rank vss == 0) = false := by simpa using hbad
  have HBD := hid hbB
  go_enter Try.func50, Try.ntmps50
  go_wp2_with (go_at_call 47; refine (checkVectors_any p n o v rank _ vss _ (HY.out.below below_oneG)).mono ?_; rintro e w1 ⟨rfl, hb1⟩; have HB1 := hid (show Below w.heap.size w w1 from below_oneG.trans (hb1.mono (by simp))); clear hb1)
  go_loop [10] (fun i => i = .int .i64 0) (fun _ => 0)
  case atStart => rfl
  case round =>
    subst hrel
    go_wp2
    all_goals go_ret
    all_goals exact ⟨rfl, HB1.out⟩

set_option maxRecDepth 100000 in
set_option maxHeartbeats 1000000 in
theorem checkCombine_len (p n o v rank : Int) (x y : Value) (cs : List (List Tm)) (vss : List (List (List Tm))) (w : World) (pc : Vl w x cs) (pv : Wl w y vss) (hv0 : errVecs p n o v rank vss = 0) (hl : cs.length ≠ vss.length) :
    Calls Try.prog 50 #[ringV p n o v, .int .i64 rank, x, y] w fun e w' => e = .returned (.int .i64 (errComb p n o v rank cs vss)) ∧ Below w.heap.size w w' := by
  have hlI : ¬ ((cs.length : Int) = (vss.length : Int)) := fun h => hl (Int.ofNat.inj h)
  have HX := hid pc
  have HY := hid pv
  obtain ⟨ax, cx, rfl, hj1⟩ := pc
  obtain ⟨ay, cy, rfl, hj2⟩ := pv
  clear hj1 hj2
  have HE : Hid (errComb p n o v rank cs vss = 1) := by show _ = _; unfold errComb; rw [if_neg (by simpa using hv0), if_pos hl]
  rw [HE.out]
  have HV := hid hv0
  clear hv0
  go_enter Try.func50, Try.ntmps50
  go_wp2_with (go_at_call 47; refine (checkVectors_any p n o v rank _ vss _ (HY.out.below below_oneG)).mono ?_; rw [HV.out]; rintro e w1 ⟨rfl, hb1⟩; have HB1 := hid (show Below w.heap.size w w1 from below_oneG.trans (hb1.mono (by simp))); clear hb1)
  go_loop [10] (fun i => i = .int .i64 0) (fun _ => 0)
  case atStart => rfl
  case round =>
    subst hrel
    go_wp2
    all_goals go_ret
    all_goals exact ⟨rfl, HB1.out⟩

set_option maxRecDepth 100000 in
set_option maxHeartbeats 600000 in
theorem checkCombine_pol (p n o v rank : Int) (x y : Value) (cs : List (List Tm)) (vss : List (List (List Tm))) (w : World) (hm : cs.length ≤ 4000000) (pc : Vl w x cs) (pv : Wl w y vss) (hv0 : errVecs p n o v rank vss = 0) (hl : cs.length = vss.length) (hp0 : errPolys p n o v cs ≠ 0) :
    Calls Try.prog 50 #[ringV p n o v, .int .i64 rank, x, y] w fun e w' => e = .returned (.int .i64 (errComb p n o v rank cs vss)) ∧ Below w.heap.size w w' := by
  have HM := hid hm
  have HL := hid hl
  have HX := hid pc
  have HY := hid pv
  obtain ⟨ax, cx, rfl, hj1⟩ := pc
  obtain ⟨ay, cy, rfl, hj2⟩ := pv
  clear hj1 hj2
  have HX2 : Hid (Vl w (.slice ax vss.length cx) cs) := by rw [← hl]; exact HX.out
  have HE : Hid (errComb p n o v rank cs vss = errPolys p n o v cs) := by show _ = _; unfold errComb; rw [if_neg (by simpa using hv0), if_neg (by simpa using hl), if_pos hp0]
  rw [HE.out]
  have HV := hid hv0
  have hbB : (errPolys p n o v cs == 0) = false := by simpa using hp0
  have HBD := hid hbB
  rw [hl]
  clear hv0 hm hl HX
  go_enter Try.func50, Try.ntmps50
  go_wp2_with fail
  refine (checkVectors_any p n o v rank _ vss _ (HY.out.below below_oneG)).mono ?_
  rw [HV.out]
  rintro e w1 ⟨rfl, hb1⟩
  have HB1 := hid (show Below w.heap.size w w1 from below_oneG.trans (hb1.mono (by simp)))
  obtain ⟨_, bx0, bx1, bx2, bx3⟩ := (BoxAt.new w p n o v 39).below hb1
  clear hb1
  go_wp2_with fail
  refine (checkPolys_any p n o v _ cs _ HM.out (HX2.out.below HB1.out)).mono ?_
  rintro e w2 ⟨rfl, hb2⟩
  have HB2 := hid (HB1.out.trans (hb2.mono HB1.out.size))
  clear hb2 bx0 bx1 bx2 bx3
  go_wp2_with fail
  go_loop [10] (fun i => i = .int .i64 0) (fun _ => 0)
  case atStart => rfl
  case round =>
    subst hrel
    go_wp2
    all_goals go_ret
    all_goals exact ⟨rfl, HB2.out⟩

end Go.Proofs.Ytkmjmmnnnbjghaa

/- CheckCombine of the reference where all is right. -/
namespace Go.Proofs.Ytkmjmmnnnbjghaa
set_option linter.unusedSimpArgs false
set_option linter.unusedVariables false
open Go.RowKit

theorem errVecs_ok {p n o v rank : Int} {vss : List (List (List Tm))} (h : errVecs p n o v rank vss = 0) : errR p n o v = 0 ∧ (1 ≤ rank ∧ rank ≤ 40) ∧ vss.length ≤ 60 ∧ ∀ u ∈ vss, (u.length : Int) = rank ∧ ∀ f ∈ u, errOne p n o f = 0 := by
  unfold errVecs at h
  by_cases hr : errR p n o v = 0
  · rw [if_neg (by simpa using hr)] at h
    unfold errList at h
    cases hb : betweenB rank 1 40
    · rw [if_pos hb] at h; exact absurd h (by decide)
    · rw [if_neg (by rw [hb]; simp)] at h
      by_cases hl : 60 < vss.length
      · rw [if_pos hl] at h; exact absurd h (by decide)
      · rw [if_neg hl] at h
        refine ⟨hr, by simpa [betweenB] using hb, by omega, fun u hu => ?_⟩
        have h1 := firstZ_ok h u hu
        unfold errVec at h1
        by_cases hu2 : (u.length : Int) = rank
        · rw [if_neg (by simpa using hu2)] at h1; exact ⟨hu2, firstOne_ok h1⟩
        · rw [if_pos hu2] at h1; exact absurd h1 (by decide)
  · rw [if_pos hr] at h; exact absurd h hr
theorem okp_right {p o : Int} {N : Nat} {f : List Tm} (hN0 : 0 < N) (hN : N ≤ 3) (h : Right p o N f) : f.length ≤ 2000 ∧ ∀ t ∈ f, 0 < t.2.length ∧ t.2.length ≤ 3 ∧ ∀ x ∈ t.2, 0 ≤ x ∧ x ≤ 400 := by
  refine ⟨h.len, fun t ht => ?_⟩
  have h1 := h.canon.len t ht
  refine ⟨by rw [h1]; exact hN0, by rw [h1]; exact hN, fun x hx => ?_⟩
  have := h.bd t ht x hx
  omega
theorem great_le {ts : List Tm} (h : greatB ts = false) : ts.length ≤ 2000 := by
  unfold greatB at h
  simp at h
  omega

end Go.Proofs.Ytkmjmmnnnbjghaa

/- VectorOps: what its walk needs. -/
namespace Go.Proofs.Ytkmjmmnnnbjghaa
set_option linter.unusedSimpArgs false
set_option linter.unusedVariables false
open Go.RowKit

theorem box_put (w : World) (c : Int) (u : Value) :
    Below w.heap.size w (((w.alloc (.cells #[.int .i64 0, .slice none 0 0] 61)).setCell ⟨w.heap.size, 0, none⟩ (.int .i64 c)).setCell ⟨w.heap.size, 1, none⟩ u) ∧
    (((w.alloc (.cells #[.int .i64 0, .slice none 0 0] 61)).setCell ⟨w.heap.size, 0, none⟩ (.int .i64 c)).setCell ⟨w.heap.size, 1, none⟩ u).ownsRow w.heap.size 61 2 (.slice (some ⟨w.heap.size, 0, none⟩) 1 1) 1 [.int .i64 c, u] := by
  have h0 := made_term (w := w) (B := w.heap.size) (Nat.le_refl _) 0 (.slice none 0 0)
  have s1 := h0.stored 0 (.int .i64 c)
  have s2 := s1.1.stored 1 u
  exact ⟨below_oneG.trans (grown_below (grown_trans s1.2 s2.2) (Nat.le_refl _) (by simp)), s2.1⟩
/-- What is known of a world in the middle of VectorOps. -/
structure OpsV (w w' : World) (x y z s m : Value) (g1 : Nat) (c1 : Int) (e1v : Value) (e1 : List Int) (f : List Tm) (fss gss S M : List (List Tm)) (p n o v : Int) : Prop where
  below : Below w.heap.size w w'
  box : BoxAt w' w.heap.size p n o v
  pf : Pl w' x f
  pv : Vl w' y fss
  pw : Vl w' z gss
  s1 : Vl w' s S
  s2 : Vl w' m M
  t0 : w'.cell? ⟨g1, 0, none⟩ = some (.int .i64 c1)
  t1 : w'.cell? ⟨g1, 1, none⟩ = some e1v
  ts : Sl w' e1v e1
theorem OpsV.next {w w' w2 : World} {x y z s m : Value} {g1 : Nat} {c1 : Int} {e1v : Value} {e1 : List Int} {f : List Tm} {fss gss S M : List (List Tm)} {p n o v : Int} (h : OpsV w w' x y z s m g1 c1 e1v e1 f fss gss S M p n o v) (hb : Below w'.heap.size w' w2) : OpsV w w2 x y z s m g1 c1 e1v e1 f fss gss S M p n o v :=
  ⟨h.below.trans (hb.mono h.below.size), h.box.below hb, h.pf.below hb, h.pv.below hb, h.pw.below hb, h.s1.below hb, h.s2.below hb, cell_keep h.t0 hb, cell_keep h.t1 hb, h.ts.below hb⟩
abbrev HeldV (w w' : World) (x y z s m : Value) (g1 : Nat) (c1 : Int) (e1v : Value) (e1 : List Int) (f : List Tm) (fss gss S M : List (List Tm)) (p n o v : Int) : Prop :=
  w'.cell? ⟨w.heap.size, 0, none⟩ = some (.int .i64 p) ∧ w'.cell? ⟨w.heap.size, 1, none⟩ = some (.int .i64 n) ∧ w'.cell? ⟨w.heap.size, 2, none⟩ = some (.int .i64 o) ∧ w'.cell? ⟨w.heap.size, 3, none⟩ = some (.int .i64 v) ∧ Hid (OpsV w w' x y z s m g1 c1 e1v e1 f fss gss S M p n o v)
theorem OpsV.held {w w' : World} {x y z s m : Value} {g1 : Nat} {c1 : Int} {e1v : Value} {e1 : List Int} {f : List Tm} {fss gss S M : List (List Tm)} {p n o v : Int} (h : OpsV w w' x y z s m g1 c1 e1v e1 f fss gss S M p n o v) : HeldV w w' x y z s m g1 c1 e1v e1 f fss gss S M p n o v :=
  ⟨h.box.2.1, h.box.2.2.1, h.box.2.2.2.1, h.box.2.2.2.2, h⟩
theorem HeldV.ops {w w' : World} {x y z s m : Value} {g1 : Nat} {c1 : Int} {e1v : Value} {e1 : List Int} {f : List Tm} {fss gss S M : List (List Tm)} {p n o v : Int} (h : HeldV w w' x y z s m g1 c1 e1v e1 f fss gss S M p n o v) : OpsV w w' x y z s m g1 c1 e1v e1 f fss gss S M p n o v := h.2.2.2.2
theorem HeldV.next {w w' w2 : World} {x y z s m : Value} {g1 : Nat} {c1 : Int} {e1v : Value} {e1 : List Int} {f : List Tm} {fss gss S M : List (List Tm)} {p n o v : Int} (h : HeldV w w' x y z s m g1 c1 e1v e1 f fss gss S M p n o v) (hb : Below w'.heap.size w' w2) : HeldV w w2 x y z s m g1 c1 e1v e1 f fss gss S M p n o v := (h.ops.next hb).held
/-- The box of the lead that is asked for, behind the world wb. -/
structure LdB (wb w' : World) (c : Int) (u : Value) : Prop where
  below : Below wb.heap.size wb w'
  own : w'.ownsRow wb.heap.size 61 2 (.slice (some ⟨wb.heap.size, 0, none⟩) 1 1) 1 [.int .i64 c, u]
theorem LdB.next {wb w' w2 : World} {c : Int} {u : Value} (h : LdB wb w' c u) (hb : Below w'.heap.size w' w2) : LdB wb w2 c u := ⟨h.below.trans (hb.mono h.below.size), ownBlock_lt h.own hb⟩
theorem LdB.lt {wb w' : World} {c : Int} {u : Value} (h : LdB wb w' c u) : wb.heap.size < w'.heap.size := (World.ownsRow.lt h.own wb.heap.size rfl).2
theorem LdB.cells {wb w' : World} {c : Int} {u : Value} (h : LdB wb w' c u) : w'.cell? ⟨wb.heap.size, 0, none⟩ = some (.int .i64 c) ∧ w'.cell? ⟨wb.heap.size, 1, none⟩ = some u ∧ w'.frozen? ⟨wb.heap.size, 0, none⟩ = false ∧ w'.frozen? ⟨wb.heap.size, 1, none⟩ = false :=
  ⟨h.own.cellAt 0 (by omega), h.own.cellAt 1 (by omega), h.own.frozenAt 0, h.own.frozenAt 1⟩
theorem LdB.put {wb w' : World} {c : Int} {u : Value} (h : LdB wb w' c u) (c2 : Int) (u2 : Value) : LdB wb ((w'.setCell ⟨wb.heap.size, 0, none⟩ (.int .i64 c2)).setCell ⟨wb.heap.size, 1, none⟩ u2) c2 u2 ∧ w'.grownBy ((w'.setCell ⟨wb.heap.size, 0, none⟩ (.int .i64 c2)).setCell ⟨wb.heap.size, 1, none⟩ u2) (some wb.heap.size) := by
  have s1 := h.own.stored 0 (.int .i64 c2)
  have s2 := s1.1.stored 1 u2
  have g := grown_trans s1.2 s2.2
  exact ⟨⟨h.below.trans (grown_below g (Nat.le_refl _) h.below.size), s2.1⟩, g⟩
/-- What is known of a world in the last statement. -/
structure FinV (w w' : World) (x y z s m t1 t2 : Value) (g1 g2 : Nat) (c1 : Int) (e1v e2v : Value) (e1 : List Int) (f : List Tm) (fss gss S M SX MX : List (List Tm)) (p n o v : Int) : Prop where
  ops : OpsV w w' x y z s m g1 c1 e1v e1 f fss gss S M p n o v
  k0 : w'.cell? ⟨g2, 0, none⟩ = some (.int .i64 c1)
  k1 : w'.cell? ⟨g2, 1, none⟩ = some e2v
  ls : Sl w' e2v e1
  l1 : Vl w' t1 SX
  l2 : Vl w' t2 MX
theorem FinV.next {w2 : World} {w w' : World} {x y z s m t1 t2 : Value} {g1 g2 : Nat} {c1 : Int} {e1v e2v : Value} {e1 : List Int} {f : List Tm} {fss gss S M SX MX : List (List Tm)} {p n o v : Int} (h : FinV w w' x y z s m t1 t2 g1 g2 c1 e1v e2v e1 f fss gss S M SX MX p n o v) (hb : Below w'.heap.size w' w2) : FinV w w2 x y z s m t1 t2 g1 g2 c1 e1v e2v e1 f fss gss S M SX MX p n o v :=
  ⟨h.ops.next hb, cell_keep h.k0 hb, cell_keep h.k1 hb, h.ls.below hb, h.l1.below hb, h.l2.below hb⟩
abbrev HeldF (w w' : World) (x y z s m t1 t2 : Value) (g1 g2 : Nat) (c1 : Int) (e1v e2v : Value) (e1 : List Int) (f : List Tm) (fss gss S M SX MX : List (List Tm)) (p n o v : Int) : Prop :=
  w'.cell? ⟨w.heap.size, 0, none⟩ = some (.int .i64 p) ∧ w'.cell? ⟨w.heap.size, 1, none⟩ = some (.int .i64 n) ∧ w'.cell? ⟨w.heap.size, 2, none⟩ = some (.int .i64 o) ∧ w'.cell? ⟨w.heap.size, 3, none⟩ = some (.int .i64 v) ∧ w'.cell? ⟨g1, 0, none⟩ = some (.int .i64 c1) ∧ w'.cell? ⟨g1, 1, none⟩ = some e1v ∧ w'.cell? ⟨g2, 0, none⟩ = some (.int .i64 c1) ∧ w'.cell? ⟨g2, 1, none⟩ = some e2v ∧ Hid (FinV w w' x y z s m t1 t2 g1 g2 c1 e1v e2v e1 f fss gss S M SX MX p n o v)
theorem FinV.held {w w' : World} {x y z s m t1 t2 : Value} {g1 g2 : Nat} {c1 : Int} {e1v e2v : Value} {e1 : List Int} {f : List Tm} {fss gss S M SX MX : List (List Tm)} {p n o v : Int} (h : FinV w w' x y z s m t1 t2 g1 g2 c1 e1v e2v e1 f fss gss S M SX MX p n o v) : HeldF w w' x y z s m t1 t2 g1 g2 c1 e1v e2v e1 f fss gss S M SX MX p n o v := ⟨h.ops.box.2.1, h.ops.box.2.2.1, h.ops.box.2.2.2.1, h.ops.box.2.2.2.2, h.ops.t0, h.ops.t1, h.k0, h.k1, h⟩
theorem HeldF.fin {w w' : World} {x y z s m t1 t2 : Value} {g1 g2 : Nat} {c1 : Int} {e1v e2v : Value} {e1 : List Int} {f : List Tm} {fss gss S M SX MX : List (List Tm)} {p n o v : Int} (h : HeldF w w' x y z s m t1 t2 g1 g2 c1 e1v e2v e1 f fss gss S M SX MX p n o v) : FinV w w' x y z s m t1 t2 g1 g2 c1 e1v e2v e1 f fss gss S M SX MX p n o v := h.2.2.2.2.2.2.2.2
theorem HeldF.next {w2 : World} {w w' : World} {x y z s m t1 t2 : Value} {g1 g2 : Nat} {c1 : Int} {e1v e2v : Value} {e1 : List Int} {f : List Tm} {fss gss S M SX MX : List (List Tm)} {p n o v : Int} (h : HeldF w w' x y z s m t1 t2 g1 g2 c1 e1v e2v e1 f fss gss S M SX MX p n o v) (hb : Below w'.heap.size w' w2) : HeldF w w2 x y z s m t1 t2 g1 g2 c1 e1v e2v e1 f fss gss S M SX MX p n o v := (h.fin.next hb).held
/-- Exponents that LeadOf answers do not lie in the box. -/
theorem sl_grown {w w' : World} {g : Nat} {v : Value} {xs : List Int} (h : w.grownBy w' (some g)) (hs : Sl w v xs) (ha : ApartO (some g) v) : Sl w' v xs := grown_slO h hs ha

theorem sameInts_same (le : List Int) (x y : Value) (w : World) (hm : le.length ≤ 3) (h1 : Sl w x le) (h2 : Sl w y le) : Calls Try.prog 36 #[x, y] w fun e w' => e = .returned (.bool true) ∧ Below w.heap.size w w' :=
  (sameInts_any x y le le w hm h1 h2).mono fun e w' ⟨he, n, hw⟩ => ⟨by rw [he]; simp [sameB], by rw [hw]; exact below_drewN (Below.refl _ _) n⟩
theorem tokR {p o : Int} {N : Nat} {f : List Tm} (h : Right p o N f) : ∀ t ∈ f, Tok p N t := fun t ht => ⟨h.canon.len t ht, h.bd.bd t ht, by have := h.canon.coef t ht; omega, (h.canon.coef t ht).2⟩
theorem okp_col {p o : Int} {N : Nat} {l : List Tm} (h0 : 0 < N) (h3 : N ≤ 3) (hl : l.length ≤ 4000000) (h : ∀ t ∈ l, Tok p N t) : OkP (colL p o l) := by
  refine ⟨by have := col_len (p := p) (o := o) l; omega, fun t ht => ?_⟩
  obtain ⟨y, hy, e⟩ := col_mem ht
  have := h y hy
  rw [e, this.1]
  exact ⟨h0, h3, this.2.1⟩
/-- Where the vectors go together. -/
theorem sum_good {p n o v : Int} {fss gss : List (List Tm)} (h : errAlike p n o v [fss, gss] = 0) : (2 ≤ p ∧ p ≤ 101) ∧ (o = 1 ∨ o = 2) ∧ 0 < n.toNat ∧ n.toNat ≤ 3 ∧ fss.length = gss.length ∧ fss.length ≤ 1000 ∧ (∀ f ∈ fss, Sm p n.toNat f) ∧ (∀ f ∈ gss, Sm p n.toNat f) ∧ (∀ f ∈ fss, ∀ t ∈ f, 0 < t.2.length) ∧ (∀ f ∈ gss, ∀ t ∈ f, 0 < t.2.length) ∧ (sums p o fss gss).length ≤ 1000 ∧ ∀ f ∈ sums p o fss gss, OkP f := by
  obtain ⟨hR, hall⟩ := alike_ok h
  obtain ⟨h1, _, h3⟩ := hall fss (by simp)
  obtain ⟨_, k2, k3⟩ := hall gss (by simp)
  obtain ⟨hpr, hn1, hn2, ho, _⟩ := ring_ok hR
  have e : fss.length = gss.length := by rw [k2]; rfl
  have rf : ∀ f ∈ fss, Right p o n.toNat f := fun f hf => (right_of hR (h3 f hf)).1
  have rg : ∀ f ∈ gss, Right p o n.toNat f := fun f hf => (right_of hR (k3 f hf)).1
  have hN0 : 0 < n.toNat := by omega
  have hN3 : n.toNat ≤ 3 := by omega
  refine ⟨errP_bd hpr, ho, hN0, hN3, e, by omega, fun f hf => ⟨tokR (rf f hf), by have := (rf f hf).len; omega⟩, fun f hf => ⟨tokR (rg f hf), by have := (rg f hf).len; omega⟩, fun f hf t ht => by rw [(rf f hf).canon.len t ht]; exact hN0, fun f hf t ht => by rw [(rg f hf).canon.len t ht]; exact hN0, by rw [sums_len e]; omega, fun f hf => ?_⟩
  obtain ⟨k, hk, rfl⟩ := List.getElem_of_mem hf
  have hk2 : k < fss.length := by rw [sums_len e] at hk; exact hk
  have e2 : (sums p o fss gss)[k] = colL p o (fss.getD k [] ++ gss.getD k []) := by
    rw [← sums_at e hk2, List.getD_eq_getElem?_getD, List.getElem?_eq_getElem hk]; rfl
  rw [e2]
  have r1 := rf _ (getD_memL fss k hk2)
  have r2 := rg _ (getD_memL gss k (by omega))
  exact okp_col hN0 hN3 (by have a1 := r1.len; have a2 := r2.len; rw [List.length_append]; omega) (fun t ht => (List.mem_append.1 ht).elim (tokR r1 t) (tokR r2 t))
theorem lead_good {p n o v : Int} {fss : List (List Tm)} (h : errAlike p n o v [fss] = 0) : (2 ≤ p ∧ p ≤ 101) ∧ (o = 1 ∨ o = 2) ∧ (v = 1 ∨ v = 2) ∧ 0 < n.toNat ∧ n.toNat ≤ 3 ∧ fss.length ≤ 1000 ∧ ∀ f ∈ fss, Right p o n.toNat f := by
  obtain ⟨hR, hall⟩ := alike_ok h
  obtain ⟨h1, _, h3⟩ := hall fss (by simp)
  obtain ⟨hpr, hn1, hn2, ho, hv⟩ := ring_ok hR
  exact ⟨errP_bd hpr, ho, hv, by omega, by omega, by omega, fun f hf => (right_of hR (h3 f hf)).1⟩
theorem prod_good {p n o v : Int} {f : List Tm} {fss : List (List Tm)} (hf : errPolys p n o v [f] = 0) (h : errAlike p n o v [fss] = 0) : Right p o n.toNat f ∧ (prods p o f fss).length ≤ 1000 ∧ ∀ g ∈ prods p o f fss, OkP g := by
  obtain ⟨hp, ho, hv, hN0, hN3, h40, hr⟩ := lead_good h
  have hR := (errPolys_ok hf).1
  have rf := (right_of hR ((errPolys_ok hf).2 f (by simp))).1
  refine ⟨rf, by unfold prods; rw [List.length_map]; exact h40, fun g hg => ?_⟩
  unfold prods at hg
  obtain ⟨q, hq, rfl⟩ := List.mem_map.1 hg
  have rq := hr q hq
  exact okp_col hN0 hN3 (by rw [prodL_len]; exact Nat.le_trans (Nat.mul_le_mul rf.len rq.len) (by decide)) (prodL_tok hp.1 rf.canon.len rq.canon.len rf.bd rq.bd)
/-- The contract of vectorIs beside what comes only where nothing is told. -/
theorem vectorIs_if (E : Int) (S0 : List (List Tm)) (hk : E = 0 → S0.length ≤ 1000 ∧ ∀ f ∈ S0, OkP f) (W : World) (a b : Value) (h1 : Vl W a (visR E S0)) (h2 : Vl W b (if E = 0 then S0 else [])) :
    Calls Try.prog 48 #[a, .int .i64 (visE E S0), .int .i64 E, b] W fun e w' => e = .returned (.bool true) ∧ Below W.heap.size W w' := by
  by_cases h : E = 0
  · rw [if_pos h] at h2
    exact vectorIs_any a b S0 E W hk h1 h2
  · rw [if_neg h] at h2
    have e1 : ∀ S, visE E S = E := fun S => by unfold visE; rw [if_pos h]
    have e2 : ∀ S, visR E S = [] := fun S => by unfold visR; rw [e1, if_neg h]
    have := vectorIs_any a b [] E W (fun h3 => absurd h3 h) (by rw [e2]; rw [e2] at h1; exact h1) h2
    rw [e1] at this ⊢
    exact this
theorem lead_parts (o v Z : Int) (fss : List (List Tm)) : (Z = 0 → ldC (leadS Z (leadF o v fss fss.length)) = ldC (leadF o v fss fss.length) ∧ ldE (leadS Z (leadF o v fss fss.length)) = ldE (leadF o v fss fss.length) ∧
      ((plc (leadF o v fss fss.length) < 0 ∧ ldP (leadS Z (leadF o v fss fss.length)) = 0 ∧ leadE Z (leadF o v fss fss.length) = 5) ∨ (0 ≤ plc (leadF o v fss fss.length) ∧ ldP (leadS Z (leadF o v fss fss.length)) = plc (leadF o v fss fss.length) ∧ leadE Z (leadF o v fss fss.length) = 0))) ∧
    (Z ≠ 0 → ldC (leadS Z (leadF o v fss fss.length)) = 0 ∧ ldE (leadS Z (leadF o v fss fss.length)) = [] ∧ ldP (leadS Z (leadF o v fss fss.length)) = 0 ∧ leadE Z (leadF o v fss fss.length) = Z) := by
  generalize leadF o v fss fss.length = L
  refine ⟨fun h => ?_, fun h => ?_⟩
  · subst h
    have e : leadS 0 L = L := by unfold leadS; rw [if_pos rfl]
    rw [e]
    refine ⟨rfl, rfl, ?_⟩
    cases L with
    | none => exact Or.inl ⟨by decide, rfl, rfl⟩
    | some q =>
      obtain ⟨j, u⟩ := q
      exact Or.inr ⟨by rw [plc_some]; omega, by rw [plc_some]; rfl, rfl⟩
  · have e : leadS Z L = none := by unfold leadS; rw [if_neg h]
    rw [e]
    exact ⟨rfl, rfl, rfl, by unfold leadE; rw [if_pos h]⟩
theorem lead_len3 {p n o v : Int} {fss : List (List Tm)} : (ldE (leadS (errAlike p n o v [fss]) (leadF o v fss fss.length))).length ≤ 3 := by
  by_cases h : errAlike p n o v [fss] = 0
  · obtain ⟨hp, ho, hv, hN0, hN3, h40, hr⟩ := lead_good h
    have e : ∀ L, leadS (errAlike p n o v [fss]) L = L := fun L => by unfold leadS; rw [if_pos h]
    rw [e]
    cases hL : leadF o v fss fss.length with
    | none => exact Nat.zero_le _
    | some q =>
      obtain ⟨j, u⟩ := q
      obtain ⟨h1, us, h2⟩ := leadF_at hL
      have r := hr _ (getD_memL fss j h1)
      rw [h2] at r
      show u.2.length ≤ 3
      rw [r.canon.len u (by simp)]; exact hN3
  · have e : ∀ L, leadS (errAlike p n o v [fss]) L = none := fun L => by unfold leadS; rw [if_neg h]
    rw [e]; exact Nat.zero_le _

end Go.Proofs.Ytkmjmmnnnbjghaa

/- VectorOps, walked. -/
namespace Go.Proofs.Ytkmjmmnnnbjghaa
set_option linter.unusedSimpArgs false
set_option linter.unusedVariables false
open Go.RowKit

set_option maxRecDepth 100000 in
set_option maxHeartbeats 8000000 in
theorem vectorOps_walk (p n o v rank : Int) (af av aw : Option Addr) (kf kv kw : Nat) (f : List Tm) (fss gss : List (List Tm)) (w : World) (X Yp Y Z EX EY lp lc lz pl K : Int) (RX RY SX MX : List (List Tm)) (le : List Int)
    (hY : Y = if Yp = 0 then Z else Yp) (hle : le.length ≤ 3) (hl1 : Z = 0 → (pl < 0 ∧ lp = 0 ∧ lz = 5) ∨ (0 ≤ pl ∧ lp = pl ∧ lz = 0)) (hl2 : Z ≠ 0 → lc = 0 ∧ le = [] ∧ lp = 0 ∧ lz = Z) (hSX : X ≠ 0 → SX = []) (hMX : Y ≠ 0 → MX = [])
    (C1 : ∀ W, Vl W (.slice av fss.length kv) fss → Vl W (.slice aw gss.length kw) gss → Calls Try.prog 37 #[ringV p n o v, .slice av fss.length kv, .slice aw gss.length kw] W fun e w' => ∃ u, e = .returned (.tuple #[u, .int .i64 EX]) ∧ Vl w' u RX ∧ Below W.heap.size W w')
    (C2 : ∀ W, Pl W (.slice af f.length kf) f → Vl W (.slice av fss.length kv) fss → Calls Try.prog 38 #[ringV p n o v, .slice af f.length kf, .slice av fss.length kv] W fun e w' => ∃ u, e = .returned (.tuple #[u, .int .i64 EY]) ∧ Vl w' u RY ∧ Below W.heap.size W w')
    (C3 : ∀ W, Vl W (.slice av fss.length kv) fss → Calls Try.prog 39 #[ringV p n o v, .slice av fss.length kv] W fun e w' => ∃ ea ec, e = .returned (.tuple #[.int .i64 lp, .agg #[.int .i64 lc, .slice ea le.length ec], .int .i64 lz]) ∧ Sl w' (.slice ea le.length ec) le ∧ Below W.heap.size W w')
    (C4 : ∀ W u, Wl W u [fss, gss] → Calls Try.prog 40 #[ringV p n o v, u] W fun e w' => e = .returned (.int .i64 X) ∧ Below W.heap.size W w')
    (C5 : ∀ W u, Vl W u [f] → Calls Try.prog 41 #[ringV p n o v, u] W fun e w' => e = .returned (.int .i64 Yp) ∧ Below W.heap.size W w')
    (C6 : ∀ W u, Wl W u [fss] → Calls Try.prog 40 #[ringV p n o v, u] W fun e w' => e = .returned (.int .i64 Z) ∧ Below W.heap.size W w')
    (C7 : ∀ wb W, X = 0 → LdB wb W 0 (.slice none 0 0) → Vl wb (.slice av fss.length kv) fss → Vl wb (.slice aw gss.length kw) gss → Calls Try.prog 42 #[ringV p n o v, .slice av fss.length kv, .slice aw gss.length kw] W fun e w' => ∃ u, e = .returned u ∧ VlX wb.heap.size w' u SX ∧ Below W.heap.size W w')
    (C8 : ∀ wb W, Y = 0 → LdB wb W 0 (.slice none 0 0) → Pl wb (.slice af f.length kf) f → Vl wb (.slice av fss.length kv) fss → Calls Try.prog 43 #[ringV p n o v, .slice af f.length kf, .slice av fss.length kv] W fun e w' => ∃ u, e = .returned u ∧ VlX wb.heap.size w' u MX ∧ Below W.heap.size W w')
    (C9 : ∀ wb W, Z = 0 → Below wb.heap.size wb W → Vl wb (.slice av fss.length kv) fss → Calls Try.prog 44 #[ringV p n o v, .slice av fss.length kv] W fun e w' => ∃ ea ec, e = .returned (.tuple #[.int .i64 pl, .agg #[.int .i64 lc, .slice ea le.length ec]]) ∧ Sl wb (.slice ea le.length ec) le ∧ Below W.heap.size W w')
    (C11 : ∀ W u, Wl W u [fss, gss] → Calls Try.prog 46 #[ringV p n o v, .int .i64 rank, u] W fun e w' => e = .returned (.int .i64 K) ∧ Below W.heap.size W w')
    (C12 : ∀ W u, Wl W u [fss, gss] → Calls Try.prog 47 #[ringV p n o v, .int .i64 rank, u] W fun e w' => e = .returned (.int .i64 K) ∧ Below W.heap.size W w')
    (C13 : ∀ W a b, Vl W a RX → Vl W b SX → Calls Try.prog 48 #[a, .int .i64 EX, .int .i64 X, b] W fun e w' => e = .returned (.bool true) ∧ Below W.heap.size W w')
    (C14 : ∀ W a b, Vl W a RY → Vl W b MX → Calls Try.prog 48 #[a, .int .i64 EY, .int .i64 Y, b] W fun e w' => e = .returned (.bool true) ∧ Below W.heap.size W w')
    (pf : Pl w (.slice af f.length kf) f) (pv : Vl w (.slice av fss.length kv) fss) (pw : Vl w (.slice aw gss.length kw) gss) :
    Calls Try.prog 8 #[ringV p n o v, .int .i64 rank, .slice af f.length kf, .slice av fss.length kv, .slice aw gss.length kw] w fun e w' => e = .returned (.bool true) ∧ Below w.heap.size w w' := by
  have HP := hid pf
  have HV := hid pv
  have HW := hid pw
  have HC1 := hid C1
  have HC2 := hid C2
  have HC3 := hid C3
  have HC4 := hid C4
  have HC5 := hid C5
  have HC6 := hid C6
  have HC7 := hid C7
  have HC8 := hid C8
  have HC9 := hid C9
  have HC11 := hid C11
  have HC12 := hid C12
  have HC13 := hid C13
  have HC14 := hid C14
  have HYD := hid hY
  have HLE := hid hle
  have HL1 := hid hl1
  have HL2 := hid hl2
  have HSX := hid hSX
  have HMX := hid hMX
  clear pf pv pw C1 C2 C3 C4 C5 C6 C7 C8 C9 C11 C12 C13 C14 hY hle hl1 hl2 hSX hMX
  obtain ⟨w1, hw1⟩ : ∃ w1, w1 = w.alloc (.cells #[.int .i64 p, .int .i64 n, .int .i64 o, .int .i64 v] 39) := ⟨_, rfl⟩
  have HBX : Hid (BoxAt w1 w.heap.size p n o v) := by rw [hw1]; exact BoxAt.new w p n o v _
  have HBW : Hid (Below w.heap.size w w1) := by rw [hw1]; exact below_oneG
  go_enter Try.func8, Try.ntmps8
  go_wp2_with fail
  try rw [← hw1]
  refine (HC1.out _ (HV.out.below HBW.out) (HW.out.below HBW.out)).mono ?_
  rintro e w2 ⟨u2, rfl, hu2, hb2⟩
  have HB2 := hid (HBW.out.trans (hb2.mono HBW.out.size))
  have HX2 := hid (HBX.out.below hb2)
  have HU2 := hid hu2
  obtain ⟨ua2, uc2, rfl, _⟩ := hu2
  clear hb2 hw1
  obtain ⟨_, x0, x1, x2, x3⟩ := HX2.out
  go_wp2_with fail
  refine (HC2.out _ (HP.out.below HB2.out) (HV.out.below HB2.out)).mono ?_
  rintro e w3 ⟨u3, rfl, hu3, hb3⟩
  have HB3 := hid (HB2.out.trans (hb3.mono HB2.out.size))
  have HX3 := hid (HX2.out.below hb3)
  have HU23 := hid (HU2.out.below hb3)
  have HU3 := hid hu3
  obtain ⟨ua3, uc3, rfl, _⟩ := hu3
  clear hb3 x0 x1 x2 x3
  obtain ⟨_, x0, x1, x2, x3⟩ := HX3.out
  go_wp2_with fail
  refine (HC3.out _ (HV.out.below HB3.out)).mono ?_
  rintro e w4 ⟨ea, ec, rfl, hse, hb4⟩
  have HBP : Hid (Below w4.heap.size w4 (w4.alloc (.cells #[.int .i64 lc, .slice ea le.length ec] 61))) := below_oneG
  have OPS := hid (OpsV.mk (w := w) (g1 := w4.heap.size) (c1 := lc) (e1v := .slice ea le.length ec) ((HB3.out.trans (hb4.mono HB3.out.size)).trans (HBP.out.mono (HB3.out.trans (hb4.mono HB3.out.size)).size)) ((HX3.out.below hb4).below HBP.out) (((HP.out.below HB3.out).below hb4).below HBP.out) (((HV.out.below HB3.out).below hb4).below HBP.out) (((HW.out.below HB3.out).below hb4).below HBP.out) ((HU23.out.below hb4).below HBP.out) ((HU3.out.below hb4).below HBP.out) (by simp [go_sem]) (by simp [go_sem]) (hse.below HBP.out))
  clear hb4 hse x0 x1 x2 x3 HX3 HX2 HU2 HU23 HU3 HB2 HB3 HBX HBW HP HV HW HBP HC1 HC2 HC3
  go_upto_region 4 with fail
  generalize w4.alloc (.cells #[.int .i64 lc, .slice ea le.length ec] 61) = w5 at OPS ⊢
  go_cut [18, 19, 20] (fun s18 s19 s20 wc => s18 = .int .i64 X ∧ s19 = .int .i64 Yp ∧ s20 = .int .i64 Z ∧ OpsV w wc (.slice af f.length kf) (.slice av fss.length kv) (.slice aw gss.length kw) (.slice ua2 RX.length uc2) (.slice ua3 RY.length uc3) w4.heap.size lc (.slice ea le.length ec) le f fss gss RX RY p n o v)
  case first =>
    as_aux_lemma =>
      go_region_held (fun W => HeldV w W (.slice af f.length kf) (.slice av fss.length kv) (.slice aw gss.length kw) (.slice ua2 RX.length uc2) (.slice ua3 RY.length uc3) w4.heap.size lc (.slice ea le.length ec) le f fss gss RX RY p n o v)
        (first | exact HeldV.next (by assumption) hb3 | exact HeldV.next (by assumption) hb2 | exact HeldV.next (by assumption) hb1 | exact HeldV.next (by assumption) below_one | exact (OPS.out.next (Below.refl _ _).drew).held)
        (first
          | (go_at_call 40; refine (HC4.out _ _ ?_).mono ?_; exact wl_two (HeldV.ops (by assumption) : OpsV w _ (.slice af f.length kf) (.slice av fss.length kv) (.slice aw gss.length kw) (.slice ua2 RX.length uc2) (.slice ua3 RY.length uc3) w4.heap.size lc (.slice ea le.length ec) le f fss gss RX RY p n o v).pv (HeldV.ops (by assumption) : OpsV w _ (.slice af f.length kf) (.slice av fss.length kv) (.slice aw gss.length kw) (.slice ua2 RX.length uc2) (.slice ua3 RY.length uc3) w4.heap.size lc (.slice ea le.length ec) le f fss gss RX RY p n o v).pw (by first | (simp; done) | (simp; omega)) (by simp [go_sem]) (by simp [go_sem]); rintro e wA ⟨rfl, hb1⟩)
          | (go_at_call 41; refine (HC5.out _ _ ?_).mono ?_; exact pls1 (HeldV.ops (by assumption) : OpsV w _ (.slice af f.length kf) (.slice av fss.length kv) (.slice aw gss.length kw) (.slice ua2 RX.length uc2) (.slice ua3 RY.length uc3) w4.heap.size lc (.slice ea le.length ec) le f fss gss RX RY p n o v).pf (by first | (simp; done) | (simp; omega) | (have h1 := hb1.size; simp at h1 ⊢; omega)) (by (repeat (first | rw [World.cell?_alloc_lt _ _ _ (by first | (simp; done) | (simp; omega) | (have h1 := hb1.size; simp at h1 ⊢; omega))] | rw [hb1.cell (by first | (simp; done) | (simp; omega) | (have h1 := hb1.size; simp at h1 ⊢; omega))])); simp [go_sem]); rintro e wB ⟨rfl, hb2⟩)
          | (go_at_call 40; refine (HC6.out _ _ ?_).mono ?_; exact wl_one (HeldV.ops (by assumption) : OpsV w _ (.slice af f.length kf) (.slice av fss.length kv) (.slice aw gss.length kw) (.slice ua2 RX.length uc2) (.slice ua3 RY.length uc3) w4.heap.size lc (.slice ea le.length ec) le f fss gss RX RY p n o v).pv (by first | (simp; done) | (simp; omega) | (have h1 := hb1.size; simp at h1 ⊢; omega) | (have h1 := hb2.size; simp at h1 ⊢; omega) | (have h1 := hb1.size; have h2 := hb2.size; simp at h1 h2 ⊢; omega)) (by (repeat (first | rw [World.cell?_alloc_lt _ _ _ (by first | (simp; done) | (simp; omega) | (have h1 := hb1.size; simp at h1 ⊢; omega) | (have h1 := hb2.size; simp at h1 ⊢; omega) | (have h1 := hb1.size; have h2 := hb2.size; simp at h1 h2 ⊢; omega))] | rw [hb2.cell (by first | (simp; done) | (simp; omega) | (have h1 := hb1.size; simp at h1 ⊢; omega) | (have h1 := hb2.size; simp at h1 ⊢; omega) | (have h1 := hb1.size; have h2 := hb2.size; simp at h1 h2 ⊢; omega))] | rw [hb1.cell (by first | (simp; done) | (simp; omega) | (have h1 := hb1.size; simp at h1 ⊢; omega) | (have h1 := hb2.size; simp at h1 ⊢; omega) | (have h1 := hb1.size; have h2 := hb2.size; simp at h1 h2 ⊢; omega))])); simp [go_sem]); rintro e wC ⟨rfl, hb3⟩))
      all_goals
        have HF := hid (HeldV.ops (by assumption) : OpsV w _ (.slice af f.length kf) (.slice av fss.length kv) (.slice aw gss.length kw) (.slice ua2 RX.length uc2) (.slice ua3 RY.length uc3) w4.heap.size lc (.slice ea le.length ec) le f fss gss RX RY p n o v)
        go_wp2_with fail
        go_meet
        case rel => exact ⟨rfl, rfl, rfl, HF.out⟩
  case rest =>
  obtain ⟨rfl, rfl, rfl, hops⟩ := hcut
  clear OPS
  have OPS := hid hops
  clear hops
  obtain ⟨w6, hw6⟩ : ∃ w6 : World, w6 = wc := ⟨_, rfl⟩
  subst hw6
  clear w5
  go_upto_if 60 with fail
  go_cut [19] (fun s19 wc => s19 = .int .i64 Y ∧ wc = w6)
  case first =>
    cases hz : (Yp == 0)
    · have HE : Hid (Y = Yp) := by
        have h : Yp ≠ 0 := by simpa using hz
        show _ = _
        rw [HYD.out, if_neg h]
      go_wp2_with fail
      go_meet
      case rel => exact ⟨by rw [HE.out], rfl⟩
    · have HE : Hid (Y = Z) := by
        have h : Yp = 0 := by simpa using hz
        show _ = _
        rw [HYD.out, if_pos h]
      go_wp2_with fail
      go_meet
      case rel => exact ⟨by rw [HE.out], rfl⟩
  case rest =>
  obtain ⟨rfl, rfl⟩ := hcut
  obtain ⟨w6, hw6⟩ : ∃ w6 : World, w6 = wc := ⟨_, rfl⟩
  subst hw6
  go_upto_if 64 with fail
  have LB : Hid (LdB w6 (w6.alloc (.cells #[.int .i64 0, .slice none 0 0] 61)) 0 (.slice none 0 0)) := ⟨below_oneG, made_term (w := w6) (B := w6.heap.size) (Nat.le_refl _) 0 (.slice none 0 0)⟩
  generalize w6.alloc (.cells #[.int .i64 0, .slice none 0 0] 61) = w7 at LB ⊢
  go_cut [21] (fun s21 wc => LdB w6 wc 0 (.slice none 0 0) ∧ VlX w6.heap.size wc s21 SX)
  case first =>
    cases hz : (X == 0)
    · have hX : X ≠ 0 := by simpa using hz
      have HE := hid (HSX.out hX)
      clear hX
      go_wp2_with fail
      go_meet
      case rel => exact ⟨LB.out, by rw [HE.out]; exact VlX.nil _ _⟩
    · have HX0 : Hid (X = 0) := hid (by simpa using hz)
      obtain ⟨_, x0, x1, x2, x3⟩ := (OPS.out.next LB.out.below).box
      go_wp2_with (go_at_call 42; refine (HC7.out w6 _ HX0.out LB.out OPS.out.pv OPS.out.pw).mono ?_; rintro e w8 ⟨u8, rfl, hu8, hb8⟩; have HU8 := hid hu8; have HB8 := hid hb8; obtain ⟨ua8, uc8, rfl, _⟩ := hu8.vl; clear hb8 hu8)
      go_meet
      case rel => exact ⟨LB.out.next HB8.out, HU8.out⟩
  case rest =>
  obtain ⟨hlb, h21⟩ := hcut
  clear LB
  have LB := hid hlb
  have H21 := hid h21
  obtain ⟨va1, vc1, rfl, hjunk⟩ := h21.vl
  clear hjunk
  clear hlb h21 w7
  obtain ⟨w7, hw7⟩ : ∃ w7 : World, w7 = wc := ⟨_, rfl⟩
  subst hw7
  go_upto_if 70 with fail
  go_cut [22] (fun s22 wc => LdB w6 wc 0 (.slice none 0 0) ∧ VlX w6.heap.size wc (.slice va1 SX.length vc1) SX ∧ VlX w6.heap.size wc s22 MX)
  case first =>
    cases hz : (Y == 0)
    · have hX : Y ≠ 0 := by simpa using hz
      have HE := hid (HMX.out hX)
      clear hX
      go_wp2_with fail
      go_meet
      case rel => exact ⟨LB.out, H21.out, by rw [HE.out]; exact VlX.nil _ _⟩
    · have HX0 : Hid (Y = 0) := hid (by simpa using hz)
      obtain ⟨_, x0, x1, x2, x3⟩ := (OPS.out.next LB.out.below).box
      go_wp2_with (go_at_call 43; refine (HC8.out w6 _ HX0.out LB.out OPS.out.pf OPS.out.pv).mono ?_; rintro e w8 ⟨u8, rfl, hu8, hb8⟩; have HU8 := hid hu8; have HB8 := hid hb8; obtain ⟨ua8, uc8, rfl, _⟩ := hu8.vl; clear hb8 hu8)
      go_meet
      case rel => exact ⟨LB.out.next HB8.out, H21.out.below HB8.out, HU8.out⟩
  case rest =>
  obtain ⟨hlb, h21, h22⟩ := hcut
  clear LB H21
  have LB := hid hlb
  have H21 := hid h21
  have H22 := hid h22
  obtain ⟨va2, vc2, rfl, hjunk⟩ := h22.vl
  clear hjunk
  clear hlb h21 h22 w7
  obtain ⟨w7, hw7⟩ : ∃ w7 : World, w7 = wc := ⟨_, rfl⟩
  subst hw7
  go_upto_if 76 with fail
  go_cut [20, 23] (fun s20 s23 wc => s20 = .int .i64 lz ∧ s23 = .int .i64 lp ∧ ∃ ev, LdB w6 wc lc ev ∧ Sl wc ev le ∧ Vl wc (.slice va1 SX.length vc1) SX ∧ Vl wc (.slice va2 MX.length vc2) MX)
  case first =>
    cases hz : (Z == 0)
    · have hX : Z ≠ 0 := by simpa using hz
      have HE := hid (HL2.out hX)
      clear hX
      go_wp2_with fail
      go_meet
      case rel => exact ⟨by rw [HE.out.2.2.2], by rw [HE.out.2.2.1], .slice none 0 0, by rw [HE.out.1]; exact LB.out, by rw [HE.out.2.1]; exact ⟨none, 0, rfl, fun h => by simp at h⟩, H21.out.vl, H22.out.vl⟩
    · have HX0 : Hid (Z = 0) := hid (by simpa using hz)
      obtain ⟨_, x0, x1, x2, x3⟩ := (OPS.out.next LB.out.below).box
      have HL := hid (HL1.out HX0.out)
      go_wp2_with fail
      refine (HC9.out w6 _ HX0.out LB.out.below OPS.out.pv).mono ?_
      rintro e w8 ⟨ea8, ec8, rfl, hse8, hb8⟩
      have LB8 := hid (LB.out.next hb8)
      have HS8 := hid hse8
      have H218 := hid (H21.out.below hb8)
      have H228 := hid (H22.out.below hb8)
      obtain ⟨y0, y1, f0, f1⟩ := LB8.out.cells
      clear hb8 hse8 x0 x1 x2 x3
      have HPUT := hid (LB8.out.put lc (.slice ea8 le.length ec8))
      by_cases hpl : pl < 0
      · have HLL : Hid (lp = 0 ∧ lz = 5) := by
          rcases HL.out with h | h
          · exact h.2
          · omega
        go_wp2_with fail
        go_meet
        case rel => exact ⟨by rw [HLL.out.2], by rw [HLL.out.1], _, HPUT.out.1, HS8.out.below HPUT.out.1.below, (H218.out.grown HPUT.out.2).vl, (H228.out.grown HPUT.out.2).vl⟩
      · have HLL : Hid (lp = pl ∧ lz = 0) := by
          rcases HL.out with h | h
          · omega
          · exact h.2
        have HZ0 := hid HX0.out
        go_wp2_with fail
        go_meet
        case rel => exact ⟨by rw [HLL.out.2, HZ0.out], by rw [HLL.out.1], _, HPUT.out.1, HS8.out.below HPUT.out.1.below, (H218.out.grown HPUT.out.2).vl, (H228.out.grown HPUT.out.2).vl⟩
  case rest =>
  obtain ⟨rfl, rfl, ev, hlb, hsl, h21, h22⟩ := hcut
  have FIN := hid (FinV.mk (OPS.out.next hlb.below) hlb.cells.1 hlb.cells.2.1 hsl h21 h22)
  obtain ⟨eva, evc, rfl, hjunk⟩ := hsl
  clear hjunk
  clear hlb h21 h22 LB H21 H22 w7 OPS
  obtain ⟨w9, hw9⟩ : ∃ w9 : World, w9 = wc := ⟨_, rfl⟩
  subst hw9
  clear HC4 HC5 HC6 HC7 HC8 HC9 HYD HL1 HL2 HSX HMX
  go_upto_region 17 with fail
  as_aux_lemma =>
    go_region_held (fun W => HeldF w W (.slice af f.length kf) (.slice av fss.length kv) (.slice aw gss.length kw) (.slice ua2 RX.length uc2) (.slice ua3 RY.length uc3) (.slice va1 SX.length vc1) (.slice va2 MX.length vc2) w4.heap.size w6.heap.size lc (.slice ea le.length ec) (.slice eva le.length evc) le f fss gss RX RY SX MX p n o v)
      (first | exact HeldF.next (by assumption) hb6 | exact HeldF.next (by assumption) hb5 | exact HeldF.next (by assumption) hb4 | exact HeldF.next (by assumption) hb3 | exact HeldF.next (by assumption) hb2 | exact HeldF.next (by assumption) hb1 | exact HeldF.next (by assumption) below_one | exact (FIN.out.next (Below.refl _ _).drew).held)
      (first
        | (go_at_call 45; refine (vectorBegun_any _).mono ?_; rintro e wA ⟨rfl, hb1⟩)
        | (go_at_call 46; refine (HC11.out _ _ ?_).mono ?_; exact wl_two (HeldF.fin (by assumption) : FinV w _ (.slice af f.length kf) (.slice av fss.length kv) (.slice aw gss.length kw) (.slice ua2 RX.length uc2) (.slice ua3 RY.length uc3) (.slice va1 SX.length vc1) (.slice va2 MX.length vc2) w4.heap.size w6.heap.size lc (.slice ea le.length ec) (.slice eva le.length evc) le f fss gss RX RY SX MX p n o v).ops.pv (HeldF.fin (by assumption) : FinV w _ (.slice af f.length kf) (.slice av fss.length kv) (.slice aw gss.length kw) (.slice ua2 RX.length uc2) (.slice ua3 RY.length uc3) (.slice va1 SX.length vc1) (.slice va2 MX.length vc2) w4.heap.size w6.heap.size lc (.slice ea le.length ec) (.slice eva le.length evc) le f fss gss RX RY SX MX p n o v).ops.pw (by first | (simp; done) | (simp; omega)) (by simp [go_sem]) (by simp [go_sem]); rintro e wB ⟨rfl, hb2⟩)
        | (go_at_call 47; refine (HC12.out _ _ ?_).mono ?_; exact wl_two (HeldF.fin (by assumption) : FinV w _ (.slice af f.length kf) (.slice av fss.length kv) (.slice aw gss.length kw) (.slice ua2 RX.length uc2) (.slice ua3 RY.length uc3) (.slice va1 SX.length vc1) (.slice va2 MX.length vc2) w4.heap.size w6.heap.size lc (.slice ea le.length ec) (.slice eva le.length evc) le f fss gss RX RY SX MX p n o v).ops.pv (HeldF.fin (by assumption) : FinV w _ (.slice af f.length kf) (.slice av fss.length kv) (.slice aw gss.length kw) (.slice ua2 RX.length uc2) (.slice ua3 RY.length uc3) (.slice va1 SX.length vc1) (.slice va2 MX.length vc2) w4.heap.size w6.heap.size lc (.slice ea le.length ec) (.slice eva le.length evc) le f fss gss RX RY SX MX p n o v).ops.pw (by first | (simp; done) | (simp; omega) | (have h1 := hb2.size; simp at h1 ⊢; omega)) (by (repeat (first | rw [World.cell?_alloc_lt _ _ _ (by first | (simp; done) | (simp; omega) | (have h1 := hb2.size; simp at h1 ⊢; omega))] | rw [hb2.cell (by first | (simp; done) | (simp; omega) | (have h1 := hb2.size; simp at h1 ⊢; omega))])); simp [go_sem]) (by (repeat (first | rw [World.cell?_alloc_lt _ _ _ (by first | (simp; done) | (simp; omega) | (have h1 := hb2.size; simp at h1 ⊢; omega))] | rw [hb2.cell (by first | (simp; done) | (simp; omega) | (have h1 := hb2.size; simp at h1 ⊢; omega))])); simp [go_sem]); rintro e wC ⟨rfl, hb3⟩)
        | (go_at_call_of 48 (Value.slice ua2 RX.length uc2); refine (HC13.out _ _ _ ?_ ?_).mono ?_; exact (HeldF.fin (by assumption) : FinV w _ (.slice af f.length kf) (.slice av fss.length kv) (.slice aw gss.length kw) (.slice ua2 RX.length uc2) (.slice ua3 RY.length uc3) (.slice va1 SX.length vc1) (.slice va2 MX.length vc2) w4.heap.size w6.heap.size lc (.slice ea le.length ec) (.slice eva le.length evc) le f fss gss RX RY SX MX p n o v).ops.s1; exact (HeldF.fin (by assumption) : FinV w _ (.slice af f.length kf) (.slice av fss.length kv) (.slice aw gss.length kw) (.slice ua2 RX.length uc2) (.slice ua3 RY.length uc3) (.slice va1 SX.length vc1) (.slice va2 MX.length vc2) w4.heap.size w6.heap.size lc (.slice ea le.length ec) (.slice eva le.length evc) le f fss gss RX RY SX MX p n o v).l1; rintro e wD ⟨rfl, hb4⟩)
        | (go_at_call_of 48 (Value.slice ua3 RY.length uc3); refine (HC14.out _ _ _ ?_ ?_).mono ?_; exact (HeldF.fin (by assumption) : FinV w _ (.slice af f.length kf) (.slice av fss.length kv) (.slice aw gss.length kw) (.slice ua2 RX.length uc2) (.slice ua3 RY.length uc3) (.slice va1 SX.length vc1) (.slice va2 MX.length vc2) w4.heap.size w6.heap.size lc (.slice ea le.length ec) (.slice eva le.length evc) le f fss gss RX RY SX MX p n o v).ops.s2; exact (HeldF.fin (by assumption) : FinV w _ (.slice af f.length kf) (.slice av fss.length kv) (.slice aw gss.length kw) (.slice ua2 RX.length uc2) (.slice ua3 RY.length uc3) (.slice va1 SX.length vc1) (.slice va2 MX.length vc2) w4.heap.size w6.heap.size lc (.slice ea le.length ec) (.slice eva le.length evc) le f fss gss RX RY SX MX p n o v).l2; rintro e wE ⟨rfl, hb5⟩)
        | (go_at_call 36; refine (sameInts_same le _ _ _ HLE.out ?_ ?_).mono ?_; exact (HeldF.fin (by assumption) : FinV w _ (.slice af f.length kf) (.slice av fss.length kv) (.slice aw gss.length kw) (.slice ua2 RX.length uc2) (.slice ua3 RY.length uc3) (.slice va1 SX.length vc1) (.slice va2 MX.length vc2) w4.heap.size w6.heap.size lc (.slice ea le.length ec) (.slice eva le.length evc) le f fss gss RX RY SX MX p n o v).ops.ts; exact (HeldF.fin (by assumption) : FinV w _ (.slice af f.length kf) (.slice av fss.length kv) (.slice aw gss.length kw) (.slice ua2 RX.length uc2) (.slice ua3 RY.length uc3) (.slice va1 SX.length vc1) (.slice va2 MX.length vc2) w4.heap.size w6.heap.size lc (.slice ea le.length ec) (.slice eva le.length evc) le f fss gss RX RY SX MX p n o v).ls; rintro e wF ⟨rfl, hb6⟩))
    all_goals
      have HF := hid (HeldF.fin (by assumption) : FinV w _ (.slice af f.length kf) (.slice av fss.length kv) (.slice aw gss.length kw) (.slice ua2 RX.length uc2) (.slice ua3 RY.length uc3) (.slice va1 SX.length vc1) (.slice va2 MX.length vc2) w4.heap.size w6.heap.size lc (.slice ea le.length ec) (.slice eva le.length evc) le f fss gss RX RY SX MX p n o v)
      go_wp2
      go_ret
      exact ⟨rfl, HF.out.ops.below⟩

end Go.Proofs.Ytkmjmmnnnbjghaa
