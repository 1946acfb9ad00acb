/- vector.Check, Add, Scale. -/
import Derived.Test.YtilogbggilchaaaGreatWG
import Derived.Test.YtilogbggilchaaaGreatWD
import Derived.Test.YtilogbggilchaaaGreatWA
import Derived.BigQuiet
namespace Go.Proofs.YtilogbggilchaaaGreat
set_option linter.unusedSimpArgs false
set_option linter.unusedVariables false
open Go.RowKit
set_option maxRecDepth 100000 in
set_option maxHeartbeats 2000000 in
theorem vecCheck_any (p n o v rank : Int) (lv : Value) (vss : List (List (List Tm))) (w : World) (hs : Wl w lv vss) :
    Calls Tryz.prog 47 #[ringV p n o v, .int .i64 rank, lv] w fun e w' => e = .returned (.int .i64 (errVecs p n o v rank vss)) ∧ Below w.heap.size w w' := by
  have HS := hid hs
  obtain ⟨la, lc, rfl, _⟩ := hs
  cases hR : (errR p n o v != 0)
  · have hR0 : errR p n o v = 0 := by simpa using hR
    have HR := hid hR0
    have HE : Hid (errVecs p n o v rank vss = errList p n o rank vss) := by show _ = _; unfold errVecs; rw [if_neg (by simpa using hR0)]
    clear hR0
    cases hbt : betweenB rank 1 40
    · have HE2 : Hid (errVecs p n o v rank vss = 3) := by show _ = _; rw [HE.out]; unfold errList; rw [if_pos hbt]
      rw [HE2.out]
      go_enter Tryz.func47, Tryz.ntmps47
      go_wp2_with (first
        | (go_at_call 84; refine (ring_any _ _ _ _ _).mono ?_; rintro e w1 ⟨rfl, hb1⟩; have HB1 := hid (show Below w.heap.size w w1 from below_oneG.trans (hb1.mono (by simp))); clear hb1)
        | (go_at_call 85; refine (isRank_any _ _).mono ?_; rw [hbt]; rintro e w' ⟨rfl, rfl⟩))
      go_ret
      exact ⟨rfl, HB1.out⟩
    · by_cases hlen : 60 < vss.length
      · have HE2 : Hid (errVecs p n o v rank vss = 2) := by show _ = _; rw [HE.out]; unfold errList; rw [if_neg (by rw [hbt]; simp), if_pos hlen]
        rw [HE2.out]
        go_enter Tryz.func47, Tryz.ntmps47
        go_wp2_with (first
          | (go_at_call 84; refine (ring_any _ _ _ _ _).mono ?_; rintro e w1 ⟨rfl, hb1⟩; have HB1 := hid (show Below w.heap.size w w1 from below_oneG.trans (hb1.mono (by simp))); clear hb1)
          | (go_at_call 85; refine (isRank_any _ _).mono ?_; rw [hbt]; rintro e w' ⟨rfl, rfl⟩))
        go_ret
        exact ⟨rfl, HB1.out⟩
      · have HE2 : Hid (errVecs p n o v rank vss = firstZ (errVec p n o rank) vss) := by show _ = _; rw [HE.out]; unfold errList; rw [if_neg (by rw [hbt]; simp), if_neg hlen]
        rw [HE2.out]
        have HRK : Hid (1 ≤ rank ∧ rank ≤ 40) := by simpa [betweenB, Hid] using hbt
        clear HE HE2
        go_enter Tryz.func47, Tryz.ntmps47
        go_wp2_with fail
        refine (ring_any _ _ _ _ _).mono ?_
        rintro e w1 ⟨rfl, hb1⟩
        have HB1 := hid (show Below w.heap.size w w1 from below_oneG.trans (hb1.mono (by simp)))
        have HBX := hid ((BoxAt.new w p n o v 23).below hb1)
        clear hb1
        go_wp2_with fail
        refine (isRank_any _ _).mono ?_
        rw [hbt]
        rintro e w2 ⟨rfl, rfl⟩
        have HS1 := hid (HS.out.below HB1.out)
        go_wp2_with fail
        obtain ⟨wo, hwo⟩ : ∃ wo, wo = w2 := ⟨_, rfl⟩
        subst hwo
        clear hbt
        go_loopw [24] (fun i wr => ∃ k : Nat, k ≤ vss.length ∧ i = .int .i64 k ∧ firstZ (errVec p n o rank) vss = firstZ (errVec p n o rank) (vss.drop k) ∧ Below wo.heap.size wo wr) (fun i _ => vss.length - (intOf i).toNat)
        case atStart => exact ⟨0, Nat.zero_le _, rfl, rfl, Below.refl _ _⟩
        case round =>
          obtain ⟨k, hk, rfl, her, hbr⟩ := hrel
          have HBR := hid hbr
          have HER0 := hid her
          clear hbr her
          by_cases hk2 : k < vss.length
          · have HER := hid (HER0.out.trans (firstZ_drop (errVec p n o rank) vss k hk2))
            obtain ⟨b, off, va, vc, rfl, hlt, c0, hvl⟩ := wl_at HS1.out k hk2
            generalize vss.getD k [] = fss at c0 hvl HER
            have HVL := hid (hvl.below HBR.out)
            have d0 := cell_keep c0 HBR.out
            obtain ⟨_, bx0, bx1, bx2, bx3⟩ := HBX.out.below HBR.out
            clear c0 hvl
            cases hln : ((fss.length : Int) != rank)
            · have hrk : (fss.length : Int) = rank := by simpa using hln
              subst hrk
              have HEV : Hid (errVec p n o (fss.length : Int) fss = firstOne p n o fss) := by show _ = _; unfold errVec; rw [if_neg (by simp)]
              have hf40 : fss.length ≤ 40 := by have := HRK.out; omega
              have HVP := hid (vecPolys_any p n o v _ fss wr HR.out (by omega) HVL.out)
              clear hln
              cases hz : (firstOne p n o fss != 0)
              · have HZ : Hid (firstOne p n o fss = 0) := by simpa [Hid] using hz
                go_wp2_with (go_at_call 48; refine HVP.out.mono ?_; rintro e w4 ⟨rfl, hb4⟩; have HB4 := hid (HBR.out.trans (hb4.mono HBR.out.size)); clear hb4)
                go_roundw
                case rel => exact ⟨k + 1, by omega, by go_num, by rw [HER.out, HEV.out, if_pos HZ.out], HB4.out⟩
                case measure => simp [intOf]; omega
              · have HZ : Hid (firstOne p n o fss ≠ 0) := by simpa [Hid] using hz
                go_wp2_with (go_at_call 48; refine HVP.out.mono ?_; rintro e w4 ⟨rfl, hb4⟩; have HB4 := hid (HBR.out.trans (hb4.mono HBR.out.size)); clear hb4)
                go_ret
                exact ⟨ret_int (by rw [HER.out, HEV.out, if_neg HZ.out]), HB1.out.trans (HB4.out.mono HB1.out.size)⟩
            · have HEV : Hid (errVec p n o rank fss = 1) := by show _ = _; unfold errVec; rw [if_pos (by simpa using hln)]
              go_wp2_with fail
              go_ret
              exact ⟨ret_int (by rw [HER.out, HEV.out]; simp), HB1.out.trans (HBR.out.mono HB1.out.size)⟩
          · go_wp2
            go_ret
            exact ⟨ret_int (by rw [HER0.out, List.drop_eq_nil_of_le (by omega)]; rfl), HB1.out.trans (HBR.out.mono HB1.out.size)⟩
  · have HE : Hid (errVecs p n o v rank vss = errR p n o v) := by show _ = _; unfold errVecs; rw [if_pos (by simpa using hR)]
    rw [HE.out]
    go_enter Tryz.func47, Tryz.ntmps47
    go_wp2_with (go_at_call 84; refine (ring_any _ _ _ _ _).mono ?_; rintro e w1 ⟨rfl, hb1⟩; have HB1 := hid (show Below w.heap.size w w1 from below_oneG.trans (hb1.mono (by simp))); clear hb1)
    go_ret
    exact ⟨rfl, HB1.out⟩

def grE (zs : List (List Tm)) (i : Nat) : Int := if greatB (zs.getD i []) then 2 else 0
def grR (zs : List (List Tm)) (i : Nat) : List Tm := if greatB (zs.getD i []) then [] else zs.getD i []
theorem grE_first (zs : List (List Tm)) : ∀ (m k : Nat), k + m = zs.length → firstN (grE zs) m k = if (zs.drop k).any greatB then 2 else 0
  | 0, k, h => by rw [List.drop_eq_nil_of_le (by omega)]; rfl
  | m + 1, k, h => by
    have hk : k < zs.length := by omega
    have hu : firstN (grE zs) (m + 1) k = if grE zs k ≠ 0 then grE zs k else firstN (grE zs) m (k + 1) := rfl
    have e : zs.getD k [] = zs[k] := by simp [List.getD_eq_getElem?_getD, hk]
    rw [hu, grE_first zs m (k + 1) (by omega), List.drop_eq_getElem_cons hk, List.any_cons]
    unfold grE
    rw [e]
    cases hg : greatB zs[k] <;> simp
theorem gr_vis (zs : List (List Tm)) : firstN (grE zs) zs.length 0 = visE 0 zs ∧ eachR (grE zs) (grR zs) zs.length = visR 0 zs := by
  have h := grE_first zs zs.length 0 (by omega)
  rw [List.drop_zero] at h
  have e1 : firstN (grE zs) zs.length 0 = visE 0 zs := by rw [h]; unfold visE; simp
  refine ⟨e1, ?_⟩
  unfold eachR visR
  rw [e1]
  by_cases hz : visE 0 zs = 0
  · rw [if_pos hz, if_pos hz]
    have hany : zs.any greatB = false := by
      unfold visE at hz
      rw [if_neg (by simp)] at hz
      cases hg : zs.any greatB
      · rfl
      · rw [hg] at hz; simp at hz
    apply List.ext_getElem?
    intro i
    by_cases hi : i < zs.length
    · have hn := List.any_eq_false.1 hany _ (List.getElem_mem hi)
      simp [hi, grR, hn]
    · rw [List.getElem?_eq_none (by simp; omega), List.getElem?_eq_none (by omega)]
  · rw [if_neg hz, if_neg hz]
theorem wl_two {w : World} {x y : Value} {fss gss : List (List Tm)} {b c : Nat} (hf : Vl w x fss) (hg : Vl w y gss) (hlt : b < w.heap.size) (c0 : w.cell? ⟨b, 0, none⟩ = some x) (c1 : w.cell? ⟨b, 1, none⟩ = some y) : Wl w (.slice (some ⟨b, 0, none⟩) 2 c) [fss, gss] := by
  refine ⟨_, c, rfl, fun _ => ⟨b, 0, rfl, hlt, fun i hi => ?_⟩⟩
  simp only [List.length_cons, List.length_nil] at hi
  rcases i with _ | _ | i
  · exact ⟨x, c0, hf⟩
  · exact ⟨y, c1, hg⟩
  · omega
theorem wl_one {w : World} {x : Value} {fss : List (List Tm)} {b c : Nat} (hf : Vl w x fss) (hlt : b < w.heap.size) (c0 : w.cell? ⟨b, 0, none⟩ = some x) : Wl w (.slice (some ⟨b, 0, none⟩) 1 c) [fss] := by
  refine ⟨_, c, rfl, fun _ => ⟨b, 0, rfl, hlt, fun i hi => ?_⟩⟩
  simp only [List.length_cons, List.length_nil] at hi
  rcases i with _ | i
  · exact ⟨x, c0, hf⟩
  · omega
theorem alike_ok {p n o v : Int} {vss : List (List (List Tm))} (h : errAlike p n o v vss = 0) : errR p n o v = 0 ∧ ∀ fss ∈ vss, (1 ≤ fss.length ∧ fss.length ≤ 40) ∧ fss.length = (vss.getD 0 []).length ∧ ∀ f ∈ fss, errOne p n o f = 0 := by
  unfold errAlike at h
  by_cases hr : errR p n o v = 0
  · rw [if_neg (by simpa using hr)] at h
    cases h1 : vss.any badR
    · rw [h1, if_neg (by simp)] at h
      cases h2 : vss.any (unlV (vss.getD 0 []).length)
      · rw [h2, if_neg (by simp)] at h
        refine ⟨hr, fun fss hf => ?_⟩
        have a1 := List.any_eq_false.1 h1 fss hf
        have a2 := List.any_eq_false.1 h2 fss hf
        simp [badR, betweenB] at a1
        simp only [unlV, decide_eq_true_eq, Decidable.not_not] at a2
        exact ⟨by omega, a2, firstOne_ok (firstZ_ok h fss hf)⟩
      · rw [h2, if_pos rfl] at h; omega
    · rw [h1, if_pos rfl] at h; omega
  · rw [if_pos hr] at h; exact absurd h hr
theorem cur_zero {p n o v : Int} {fss : List (List Tm)} (hR : errR p n o v = 0) (h : ∀ f ∈ fss, errOne p n o f = 0) : cur p n o v fss = 0 := cur_mk (fun f hf => cur_iff.2 ⟨hR, h f hf⟩)
theorem addE_gr {p o : Int} {f g : List Tm} : addE 0 p o f g = if greatB (colL p o (f ++ g)) then 2 else 0 := by unfold addE; simp
theorem addR_gr {p o : Int} {f g : List Tm} : addR 0 p o f g = if greatB (colL p o (f ++ g)) then [] else colL p o (f ++ g) := by
  unfold addR; rw [addE_gr]; cases greatB (colL p o (f ++ g)) <;> simp
set_option maxRecDepth 100000 in
set_option maxHeartbeats 1000000 in
theorem vaddFn_any (p n o v : Int) (i rb wb : Nat) (fv : Value) (f : List Tm) (ya : Option Addr) (yc : Nat) (gss : List (List Tm)) (w : World) (hi : i < gss.length) (hE : cur p n o v [f, gss.getD i []] = 0) (bx : BoxAt w rb p n o v) (hc : w.cell? ⟨wb, 0, none⟩ = some (.slice ya gss.length yc)) (pf : Pl w fv f) (pg : Vl w (.slice ya gss.length yc) gss) :
    Calls Tryz.prog 53 #[.int .i64 i, fv, .pointer (some ⟨rb, 0, none⟩), .pointer (some ⟨wb, 0, none⟩)] w fun e w' => ∃ u, e = .returned (.tuple #[u, .int .i64 (addE 0 p o f (gss.getD i []))]) ∧ Pl w' u (addR 0 p o f (gss.getD i [])) ∧ Below w.heap.size w w' := by
  have HP := hid pf
  have HT := hid (tells p n o v)
  obtain ⟨b, off, ga, gc, rfl, hlt, c0, hpg⟩ := vl_at pg i hi
  obtain ⟨_, bx0, bx1, bx2, bx3⟩ := bx
  generalize gss.getD i [] = g at c0 hpg hE
  have HG := hid hpg
  have HE := hid hE
  obtain ⟨fa, fc, rfl, _, _⟩ := pf
  have KEEP : Hid (∀ W, Below w.heap.size w W → (Hid (Below w.heap.size w W) ∧ W.cell? ⟨rb, 0, none⟩ = some (.int .i64 p) ∧ W.cell? ⟨rb, 1, none⟩ = some (.int .i64 n) ∧ W.cell? ⟨rb, 2, none⟩ = some (.int .i64 o) ∧ W.cell? ⟨rb, 3, none⟩ = some (.int .i64 v) ∧ W.cell? ⟨wb, 0, none⟩ = some (.slice (some ⟨b, off, none⟩) gss.length yc) ∧ W.cell? ⟨b, off + i, none⟩ = some (.slice ga g.length gc))) :=
    fun W hb => ⟨hb, cell_keep bx0 hb, cell_keep bx1 hb, cell_keep bx2 hb, cell_keep bx3 hb, cell_keep hc hb, cell_keep c0 hb⟩
  have HB0 : Hid (Below w.heap.size w w.drew) := (Below.refl _ _).drew
  clear bx0 bx1 bx2 bx3 hc c0 hpg pg hE
  go_enter Tryz.func53, Tryz.ntmps53
  go_wp2_with fail
  go_region_held (fun W => Hid (Below w.heap.size w W) ∧ W.cell? ⟨rb, 0, none⟩ = some (.int .i64 p) ∧ W.cell? ⟨rb, 1, none⟩ = some (.int .i64 n) ∧ W.cell? ⟨rb, 2, none⟩ = some (.int .i64 o) ∧ W.cell? ⟨rb, 3, none⟩ = some (.int .i64 v) ∧ W.cell? ⟨wb, 0, none⟩ = some (.slice (some ⟨b, off, none⟩) gss.length yc) ∧ W.cell? ⟨b, off + i, none⟩ = some (.slice ga g.length gc))
    (first | exact KEEP.out _ HB0.out | exact KEEP.out _ HB9.out)
    (first | (go_at_call 54; refine (polyAdd_any p n o v _ HT.out _ _ f g _ ?_ ?_).mono ?_; exact HP.out.below HB0.out; exact HG.out.below HB0.out; rw [HE.out]; rintro e w9 ⟨u9, rfl, hu9, hb9⟩; have HU9 := hid hu9; have HB9 := hid (show Below w.heap.size w w9 from HB0.out.trans (hb9.mono HB0.out.size)); obtain ⟨ua9, uc9, rfl, _, _⟩ := hu9; clear hb9))
  go_wp2
  go_ret2
  exact ⟨_, rfl, HU9.out, HB9.out⟩
set_option maxRecDepth 100000 in
set_option maxHeartbeats 1000000 in
theorem vecAdd_any (p n o v : Int) (x y : Value) (fss gss : List (List Tm)) (w : World) (pf : Vl w x fss) (pg : Vl w y gss) :
    Calls Tryz.prog 15 #[ringV p n o v, x, y] w fun e w' => ∃ u, e = .returned (.tuple #[u, .int .i64 (visE (errAlike p n o v [fss, gss]) (sums p o fss gss))]) ∧ Vl w' u (visR (errAlike p n o v [fss, gss]) (sums p o fss gss)) ∧ Below w.heap.size w w' := by
  have HX := hid pf
  have HY := hid pg
  obtain ⟨ax, cx, rfl, _⟩ := pf
  obtain ⟨ay, cy, rfl, _⟩ := pg
  obtain ⟨w2, hw2⟩ : ∃ w2, w2 = (w.alloc (.cells #[.int .i64 p, .int .i64 n, .int .i64 o, .int .i64 v] 23)).alloc (.cells #[.slice ay gss.length cy] 25) := ⟨_, rfl⟩
  have hb2 : Below w.heap.size w w2 := by rw [hw2]; exact below_two
  have hbx : BoxAt w2 w.heap.size p n o v := by rw [hw2]; exact (BoxAt.new w p n o v _).below below_oneG
  have hcf : w2.cell? ⟨w.heap.size + 1, 0, none⟩ = some (.slice ay gss.length cy) := by rw [hw2]; simp [go_sem]
  have HB2 := hid hb2
  have HBX := hid hbx
  have HCF := hid hcf
  have HS2 : Hid (w2.heap.size = w.heap.size + 2) := by show _ = _; rw [hw2]; simp
  have HW2 : Hid (∀ T, Wl (w2.alloc (.cells #[.slice ax fss.length cx, .slice ay gss.length cy] T)) (.slice (some ⟨w2.heap.size, 0, none⟩) 2 2) [fss, gss]) := fun T => wl_two ((HX.out.below hb2).below below_oneG) ((HY.out.below hb2).below below_oneG) (by simp) (by simp [go_sem]) (by simp [go_sem])
  rw [HS2.out] at HW2
  clear hb2 hbx hcf
  cases hz : (errAlike p n o v [fss, gss] != 0)
  · have hz0 : errAlike p n o v [fss, gss] = 0 := by simpa using hz
    obtain ⟨hR, hall⟩ := alike_ok hz0
    obtain ⟨h1, _, h3⟩ := hall fss (by simp)
    obtain ⟨g1, g2, g3⟩ := hall gss (by simp)
    have hl : fss.length = gss.length := by simpa using g2.symm
    have HL := hid hl
    have HZ := hid hz0
    have HV := gr_vis (sums p o fss gss)
    have HK : Hid (∀ i, i < fss.length → cur p n o v [fss.getD i [], gss.getD i []] = 0) := fun i hi => cur_zero hR (fun f hf => by
      simp only [List.mem_cons, List.not_mem_nil, or_false] at hf
      rcases hf with rfl | rfl
      · exact h3 _ (getD_memL fss i hi)
      · exact g3 _ (getD_memL gss i (by omega)))
    have HEI : Hid (∀ i, i < fss.length → addE 0 p o (fss.getD i []) (gss.getD i []) = grE (sums p o fss gss) i ∧ addR 0 p o (fss.getD i []) (gss.getD i []) = grR (sums p o fss gss) i) := fun i hi => by
      unfold grE grR
      rw [sums_at hl hi]
      exact ⟨addE_gr, addR_gr⟩
    have HEA := hid (fun (W : World) (hb : Below w2.heap.size w2 W) => eachA_any w.heap.size (w.heap.size + 1) _ fss (grE (sums p o fss gss)) (grR (sums p o fss gss)) W (by omega) ((HX.out.below HB2.out).below hb) (fun i w' fa fc hi hb' hpf => by
      have h := vaddFn_any p n o v i w.heap.size (w.heap.size + 1) _ (fss.getD i []) ay cy gss w' (by omega) (HK.out i hi) ((HBX.out.below hb).below hb') (cell_keep (cell_keep HCF.out hb) hb') hpf (((HY.out.below HB2.out).below hb).below hb')
      rw [(HEI.out i hi).1, (HEI.out i hi).2] at h
      exact h))
    have hsl := sums_len (p := p) (o := o) hl
    rw [hsl] at HV
    rw [hz0, ← HV.1, ← HV.2]
    have hf40 : fss.length ≤ 40 := h1.2
    clear hR hall h1 h3 g1 g2 g3 hl hz0 HV hsl HK HEI
    obtain ⟨_, bx0, bx1, bx2, bx3⟩ := HBX.out
    have hcf := HCF.out
    go_enter Tryz.func15, Tryz.ntmps15
    go_wp2_with fail
    try rw [← hw2]
    refine (vecAll_any p n o v _ [fss, gss] _ (by simp) (HW2.out _)).mono ?_
    rw [HZ.out]
    rintro e w3 ⟨rfl, hb3⟩
    have HB3 := hid (show Below w2.heap.size w2 w3 from below_oneG.trans (hb3.mono (by simp)))
    clear hb3 bx0 bx1 bx2 bx3 hcf hw2
    go_wp2_with fail
    refine (HEA.out _ HB3.out).mono ?_
    rintro e w4 ⟨u, rfl, hu, hb4⟩
    have HU := hid hu
    have HB4 := hid (HB2.out.trans ((HB3.out.trans (hb4.mono HB3.out.size)).mono HB2.out.size))
    obtain ⟨ua, uc, rfl, _⟩ := hu
    clear hb4
    go_wp2
    go_ret2
    exact ⟨_, rfl, HU.out, HB4.out⟩
  · have hz0 : errAlike p n o v [fss, gss] ≠ 0 := by simpa using hz
    have he : visE (errAlike p n o v [fss, gss]) (sums p o fss gss) = errAlike p n o v [fss, gss] := by unfold visE; rw [if_pos hz0]
    have hr : visR (errAlike p n o v [fss, gss]) (sums p o fss gss) = [] := by unfold visR; rw [he, if_neg hz0]
    rw [he, hr]
    clear he hr hz0
    obtain ⟨_, bx0, bx1, bx2, bx3⟩ := HBX.out
    have hcf := HCF.out
    go_enter Tryz.func15, Tryz.ntmps15
    go_wp2_with fail
    try rw [← hw2]
    refine (vecAll_any p n o v _ [fss, gss] _ (by simp) (HW2.out _)).mono ?_
    rintro e w3 ⟨rfl, hb3⟩
    have HB3 := hid (HB2.out.trans ((show Below w2.heap.size w2 w3 from below_oneG.trans (hb3.mono (by simp))).mono HB2.out.size))
    clear hb3
    go_wp2
    go_ret2
    exact ⟨_, rfl, Vl.empty _, HB3.out⟩
abbrev Ld := Option (Nat × Tm)
def leadStep (o ov : Int) (st : Ld) (i : Nat) : List Tm → Ld
  | [] => st
  | t :: _ => match st with
    | none => some (i, t)
    | some (j, u) => if ov = 1 ∧ 0 < ordS o t.2 u.2 then some (i, t) else some (j, u)
def leadF (o ov : Int) (fss : List (List Tm)) : Nat → Ld
  | 0 => none
  | k + 1 => leadStep o ov (leadF o ov fss k) k (fss.getD k [])
theorem leadF_at {o ov : Int} {fss : List (List Tm)} : ∀ {k : Nat} {j : Nat} {u : Tm}, leadF o ov fss k = some (j, u) → j < k ∧ ∃ us, fss.getD j [] = u :: us
  | 0, j, u, h => by simp [leadF] at h
  | k + 1, j, u, h => by
    simp only [leadF] at h
    cases hf : fss.getD k [] with
    | nil =>
      rw [hf] at h
      simp only [leadStep] at h
      obtain ⟨h1, h2⟩ := leadF_at h
      exact ⟨by omega, h2⟩
    | cons t ts =>
      rw [hf] at h
      cases hs : leadF o ov fss k with
      | none =>
        rw [hs] at h
        simp only [leadStep, Option.some.injEq, Prod.mk.injEq] at h
        obtain ⟨rfl, rfl⟩ := h
        exact ⟨by omega, ts, hf⟩
      | some q =>
        obtain ⟨j', u'⟩ := q
        rw [hs] at h
        simp only [leadStep] at h
        split at h
        · simp only [Option.some.injEq, Prod.mk.injEq] at h
          obtain ⟨rfl, rfl⟩ := h
          exact ⟨by omega, ts, hf⟩
        · simp only [Option.some.injEq, Prod.mk.injEq] at h
          obtain ⟨rfl, rfl⟩ := h
          obtain ⟨h1, h2⟩ := leadF_at hs
          exact ⟨by omega, h2⟩
def plc : Ld → Int
  | none => -1
  | some (j, _) => j
theorem plc_some (j : Nat) (u : Tm) : plc (some (j, u)) = (j : Int) := rfl
theorem pl_first {w : World} {fa : Option Addr} {fc : Nat} {t : Tm} {ts : List Tm} (h : Pl w (.slice fa (t :: ts).length fc) (t :: ts)) : ∃ b off ea ec, fa = some ⟨b, off, none⟩ ∧ b < w.heap.size ∧ w.cell? ⟨b, off, none⟩ = some (.int .i64 t.1) ∧ w.cell? ⟨b, off + 1, none⟩ = some (.slice ea t.2.length ec) ∧ Sl w (.slice ea t.2.length ec) t.2 := by
  obtain ⟨a, c, e, _, h1⟩ := h
  obtain ⟨b, off, rfl, hlt, hat⟩ := h1 (by simp)
  simp only [Value.slice.injEq, true_and] at e
  obtain ⟨rfl, rfl⟩ := e
  obtain ⟨h2, u, h3, h4⟩ := hat 0 (by simp)
  simp at h2 h3 h4
  have h5 := h4
  obtain ⟨ea, ec, rfl, _⟩ := h4
  exact ⟨b, off, ea, ec, rfl, hlt, h2, h3, h5⟩

set_option maxRecDepth 100000 in
set_option maxHeartbeats 4000000 in
theorem leadPlace_any (p n o v : Int) (N : Nat) (x : Value) (fss : List (List Tm)) (w : World) (ho : o = 1 ∨ o = 2) (hN0 : 0 < N) (hN : N ≤ 3) (hm : fss.length ≤ 1000) (hf : ∀ f ∈ fss, Right p o N f) (pf : Vl w x fss) :
    Calls Tryz.prog 77 #[ringV p n o v, x] w fun e w' => e = .returned (.int .i64 (plc (leadF o v fss fss.length))) ∧ Below w.heap.size w w' := by
  have HX := hid pf
  have HF := hid hf
  have HO := hid ho
  obtain ⟨ax, cx, rfl, _⟩ := pf
  obtain ⟨w1, hw1⟩ : ∃ w1, w1 = w.alloc (.cells #[.int .i64 p, .int .i64 n, .int .i64 o, .int .i64 v] 23) := ⟨_, rfl⟩
  have hbx : BoxAt w1 w.heap.size p n o v := by rw [hw1]; exact BoxAt.new w p n o v _
  have hbw : Below w.heap.size w w1 := by rw [hw1]; exact below_oneG
  have HBX := hid hbx
  have HBW := hid hbw
  have HX1 := hid (HX.out.below hbw)
  clear hf ho hbx hbw
  go_enter Tryz.func77, Tryz.ntmps77
  go_wp2_with fail
  rw [← hw1]
  clear hw1
  go_loopw [5, 10] (fun s i wr => ∃ k : Nat, k ≤ fss.length ∧ i = .int .i64 k ∧ s = .int .i64 (plc (leadF o v fss k)) ∧ Below w1.heap.size w1 wr) (fun _ i _ => fss.length - (intOf i).toNat)
  case atStart => exact ⟨0, Nat.zero_le _, rfl, rfl, Below.refl _ _⟩
  case round =>
    obtain ⟨k, hk, rfl, rfl, hbr⟩ := hrel
    have HBR := hid hbr
    clear hbr
    by_cases hk2 : k < fss.length
    · obtain ⟨b, off, fa, fc, rfl, hlt, c0, hpf⟩ := vl_at HX1.out k hk2
      have HST : Hid (leadF o v fss (k + 1) = leadStep o v (leadF o v fss k) k (fss.getD k [])) := rfl
      have HRT := hid (HF.out _ (getD_memL fss k hk2))
      have HLA := hid (fun j u => leadF_at (o := o) (ov := v) (fss := fss) (k := k) (j := j) (u := u))
      generalize leadF o v fss k = st at HST HLA
      generalize fss.getD k [] = f at c0 hpf HST HRT
      have d0 := cell_keep c0 HBR.out
      cases f with
      | nil =>
        go_wp2_with fail
        go_roundw
        case rel => exact ⟨k + 1, by omega, by go_num, by rw [HST.out]; rfl, HBR.out⟩
        case measure => simp [intOf]; omega
      | cons t ts =>
        obtain ⟨b2, off2, ea, ec, rfl, hlt2, e0, e1, hse⟩ := pl_first hpf
        have HTE := hid (And.intro (HRT.out.canon.len t (by simp)) (HRT.out.bd.bd t (by simp)))
        have HSE := hid hse
        have hfl : (t :: ts).length = ts.length + 1 := rfl
        cases st with
        | none =>
          have HS1 : Hid (leadF o v fss (k + 1) = some (k, t)) := HST.out
          obtain ⟨m, hm1⟩ : ∃ m : Int, plc none = m := ⟨_, rfl⟩
          have hm0 : m < 0 := by rw [← hm1]; decide
          rw [hm1]
          clear hm1
          have hd : decide (m < 0) = true := decide_eq_true hm0
          go_wp2_with fail
          go_quiet (fail)
          have HQ1 := hid (below_drewN HBR.out nq)
          go_wp2
          go_roundw
          case rel => exact ⟨k + 1, by omega, by go_num, by rw [HS1.out]; rfl, HQ1.out⟩
          case measure => simp [intOf]; omega
        | some q =>
          obtain ⟨j, u⟩ := q
          obtain ⟨hjk, us, hus⟩ := HLA.out j u rfl
          obtain ⟨m, hmj⟩ : ∃ m : Int, (j : Int) = m := ⟨_, rfl⟩
          have hm0 : ¬ m < 0 := by omega
          have hm1 : 0 ≤ m := by omega
          have hm2 : m < (fss.length : Int) := by omega
          have hmt : m.toNat = j := by omega
          rw [plc_some, hmj]
          have hj2 : j < fss.length := by omega
          obtain ⟨b3, off3, ga, gc, hga, hlt3, g0, hpg⟩ := vl_at HX1.out j hj2
          simp only [Option.some.injEq, Addr.mk.injEq, and_true] at hga
          obtain ⟨e1', e2'⟩ := hga
          subst e1'
          subst e2'
          have HRU := hid (HF.out _ (getD_memL fss j hj2))
          rw [hus] at g0 hpg HRU
          obtain ⟨b4, off4, ea4, ec4, rfl, hlt4, q0, q1, hsu⟩ := pl_first hpg
          have HUE := hid (And.intro (HRU.out.canon.len u (by simp)) (HRU.out.bd.bd u (by simp)))
          have HSU := hid hsu
          rw [← hmt] at g0
          have HMJ := hid hmj
          clear hmj hmt
          cases hv : (v == 1)
          · have HS1 : Hid (leadF o v fss (k + 1) = some (j, u)) := by
              show _ = _
              rw [HST.out]
              simp only [leadStep]
              rw [if_neg (by have : ¬ v = 1 := (by simpa using hv); exact fun h => this h.1)]
            obtain ⟨_, bx0, bx1, bx2, bx3⟩ := HBX.out.below HBR.out
            have hd : decide (m < 0) = false := decide_eq_false hm0
            clear c0 hpf e0 e1 hse g0 hpg q0 q1 hsu hus
            go_wp2_with fail
            go_quiet (fail)
            have HB0 := hid (below_drewN HBR.out nq)
            go_wp2
            go_roundw
            case rel => exact ⟨k + 1, by omega, by go_num, by rw [HS1.out, plc_some, HMJ.out], HB0.out⟩
            case measure => simp [intOf]; omega
          · have hv1 : v = 1 := by simpa using hv
            have HLL : Hid (t.2.length = u.2.length) := HTE.out.1.trans HUE.out.1.symm
            have ht0 : 0 < t.2.length := by rw [HTE.out.1]; exact hN0
            have ht3 : t.2.length ≤ 3 := by rw [HTE.out.1]; exact hN
            obtain ⟨_, bx0, bx1, bx2, bx3⟩ := HBX.out
            have KEEP : Hid (∀ W, Below w1.heap.size w1 W → (Hid (Below w1.heap.size w1 W) ∧ W.cell? ⟨w.heap.size, 0, none⟩ = some (.int .i64 p) ∧ W.cell? ⟨w.heap.size, 1, none⟩ = some (.int .i64 n) ∧ W.cell? ⟨w.heap.size, 2, none⟩ = some (.int .i64 o) ∧ W.cell? ⟨w.heap.size, 3, none⟩ = some (.int .i64 v) ∧ W.cell? ⟨b2, off2 + 1, none⟩ = some (.slice ea t.2.length ec) ∧ W.cell? ⟨b, off + m.toNat, none⟩ = some (.slice (some ⟨b4, off4, none⟩) (us.length + 1) gc) ∧ W.cell? ⟨b4, off4 + 1, none⟩ = some (.slice ea4 u.2.length ec4))) :=
              fun W hb => ⟨hb, cell_keep bx0 hb, cell_keep bx1 hb, cell_keep bx2 hb, cell_keep bx3 hb, cell_keep e1 hb, cell_keep g0 hb, cell_keep q1 hb⟩
            have HB0 : Hid (Below w1.heap.size w1 wr.drew) := HBR.out.drew
            have hv2 : (v == 1) = true := hv
            have hd : decide (m < 0) = false := decide_eq_false hm0
            clear bx0 bx1 bx2 bx3 c0 hpf e0 e1 hse g0 hpg q0 q1 hsu hus hv1
            by_cases hgt : 0 < ordS o t.2 u.2
            · have HS1 : Hid (leadF o v fss (k + 1) = some (k, t)) := by
                show _ = _
                rw [HST.out]
                simp only [leadStep]
                rw [if_pos ⟨by simpa using hv2, hgt⟩]
              go_wp2_with fail
              go_region_held (fun W => Hid (Below w1.heap.size w1 W) ∧ W.cell? ⟨w.heap.size, 0, none⟩ = some (.int .i64 p) ∧ W.cell? ⟨w.heap.size, 1, none⟩ = some (.int .i64 n) ∧ W.cell? ⟨w.heap.size, 2, none⟩ = some (.int .i64 o) ∧ W.cell? ⟨w.heap.size, 3, none⟩ = some (.int .i64 v) ∧ W.cell? ⟨b2, off2 + 1, none⟩ = some (.slice ea t.2.length ec) ∧ W.cell? ⟨b, off + m.toNat, none⟩ = some (.slice (some ⟨b4, off4, none⟩) (us.length + 1) gc) ∧ W.cell? ⟨b4, off4 + 1, none⟩ = some (.slice ea4 u.2.length ec4))
                (first | exact KEEP.out _ HB0.out | exact KEEP.out _ (HB0.out.trans (hb9.mono HB0.out.size)))
                (first | (go_at_call 109; refine (bareCompare_any p n o v _ _ t.2 u.2 _ HO.out ht0 ht3 HLL.out HTE.out.2 HUE.out.2 ?_ ?_).mono ?_; exact HSE.out.below HB0.out; exact HSU.out.below HB0.out; rintro e w9 ⟨rfl, hb9⟩))
              have HB9 := hid (show Below w1.heap.size w1 w9 from HB0.out.trans (hb9.mono HB0.out.size))
              clear hb9
              go_wp2_with fail
              go_roundw
              case rel => exact ⟨k + 1, by omega, by go_num, by rw [HS1.out]; rfl, HB9.out⟩
              case measure => simp [intOf]; omega
            · have HS1 : Hid (leadF o v fss (k + 1) = some (j, u)) := by
                show _ = _
                rw [HST.out]
                simp only [leadStep]
                rw [if_neg (fun h => hgt h.2)]
              go_wp2_with fail
              go_region_held (fun W => Hid (Below w1.heap.size w1 W) ∧ W.cell? ⟨w.heap.size, 0, none⟩ = some (.int .i64 p) ∧ W.cell? ⟨w.heap.size, 1, none⟩ = some (.int .i64 n) ∧ W.cell? ⟨w.heap.size, 2, none⟩ = some (.int .i64 o) ∧ W.cell? ⟨w.heap.size, 3, none⟩ = some (.int .i64 v) ∧ W.cell? ⟨b2, off2 + 1, none⟩ = some (.slice ea t.2.length ec) ∧ W.cell? ⟨b, off + m.toNat, none⟩ = some (.slice (some ⟨b4, off4, none⟩) (us.length + 1) gc) ∧ W.cell? ⟨b4, off4 + 1, none⟩ = some (.slice ea4 u.2.length ec4))
                (first | exact KEEP.out _ HB0.out | exact KEEP.out _ (HB0.out.trans (hb9.mono HB0.out.size)))
                (first | (go_at_call 109; refine (bareCompare_any p n o v _ _ t.2 u.2 _ HO.out ht0 ht3 HLL.out HTE.out.2 HUE.out.2 ?_ ?_).mono ?_; exact HSE.out.below HB0.out; exact HSU.out.below HB0.out; rintro e w9 ⟨rfl, hb9⟩))
              have HB9 := hid (show Below w1.heap.size w1 w9 from HB0.out.trans (hb9.mono HB0.out.size))
              clear hb9
              go_wp2_with fail
              go_roundw
              case rel => exact ⟨k + 1, by omega, by go_num, by rw [HS1.out, plc_some, HMJ.out], HB9.out⟩
              case measure => simp [intOf]; omega
    · have e : k = fss.length := by omega
      subst e
      go_wp2
      go_ret
      exact ⟨rfl, HBW.out.trans (HBR.out.mono HBW.out.size)⟩
end Go.Proofs.YtilogbggilchaaaGreat
