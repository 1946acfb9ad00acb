/- vector.Check, Add, Scale. -/
import Derived.Test.YtkmjmmnnnbjghaaPQ
import Derived.BigQuiet
import Derived.Test.YtkmjmmnnnbjghaaPN
import Derived.Test.YtkmjmmnnnbjghaaM
namespace Go.Proofs.Ytkmjmmnnnbjghaa
set_option linter.unusedSimpArgs false
set_option linter.unusedVariables false
open Go.RowKit

set_option maxRecDepth 100000 in
set_option maxHeartbeats 2000000 in
theorem vecCheck_any (p n o v rank : Int) (lv : Value) (vss : List (List (List Tm))) (w : World) (hs : Wl w lv vss) :
    Calls Try.prog 46 #[ringV p n o v, .int .i64 rank, lv] w fun e w' => e = .returned (.int .i64 (errVecs p n o v rank vss)) ∧ Below w.heap.size w w' := by
  have HS := hid hs
  obtain ⟨la, lc, rfl, _⟩ := hs
  cases hR : (errR p n o v != 0)
  · have hR0 : errR p n o v = 0 := by simpa using hR
    have HR := hid hR0
    have HE : Hid (errVecs p n o v rank vss = errList p n o rank vss) := by show _ = _; unfold errVecs; rw [if_neg (by simpa using hR0)]
    clear hR0
    cases hbt : betweenB rank 1 40
    · have HE2 : Hid (errVecs p n o v rank vss = 3) := by show _ = _; rw [HE.out]; unfold errList; rw [if_pos hbt]
      rw [HE2.out]
      go_enter Try.func46, Try.ntmps46
      go_wp2_with (first
        | (go_at_call 32; refine (ring_any _ _ _ _ _).mono ?_; rintro e w1 ⟨rfl, hb1⟩; have HB1 := hid (show Below w.heap.size w w1 from below_oneG.trans (hb1.mono (by simp))); clear hb1)
        | (go_at_call 87; refine (isRank_any _ _).mono ?_; rw [hbt]; rintro e w' ⟨rfl, rfl⟩))
      go_ret
      exact ⟨rfl, HB1.out⟩
    · by_cases hlen : 60 < vss.length
      · have HE2 : Hid (errVecs p n o v rank vss = 2) := by show _ = _; rw [HE.out]; unfold errList; rw [if_neg (by rw [hbt]; simp), if_pos hlen]
        rw [HE2.out]
        go_enter Try.func46, Try.ntmps46
        go_wp2_with (first
          | (go_at_call 32; refine (ring_any _ _ _ _ _).mono ?_; rintro e w1 ⟨rfl, hb1⟩; have HB1 := hid (show Below w.heap.size w w1 from below_oneG.trans (hb1.mono (by simp))); clear hb1)
          | (go_at_call 87; refine (isRank_any _ _).mono ?_; rw [hbt]; rintro e w' ⟨rfl, rfl⟩))
        go_ret
        exact ⟨rfl, HB1.out⟩
      · have HE2 : Hid (errVecs p n o v rank vss = firstZ (errVec p n o rank) vss) := by show _ = _; rw [HE.out]; unfold errList; rw [if_neg (by rw [hbt]; simp), if_neg hlen]
        rw [HE2.out]
        have HRK : Hid (1 ≤ rank ∧ rank ≤ 40) := by simpa [betweenB, Hid] using hbt
        clear HE HE2
        go_enter Try.func46, Try.ntmps46
        go_wp2_with fail
        refine (ring_any _ _ _ _ _).mono ?_
        rintro e w1 ⟨rfl, hb1⟩
        have HB1 := hid (show Below w.heap.size w w1 from below_oneG.trans (hb1.mono (by simp)))
        have HBX := hid ((BoxAt.new w p n o v 39).below hb1)
        clear hb1
        go_wp2_with fail
        refine (isRank_any _ _).mono ?_
        rw [hbt]
        rintro e w2 ⟨rfl, rfl⟩
        have HS1 := hid (HS.out.below HB1.out)
        go_wp2_with fail
        obtain ⟨wo, hwo⟩ : ∃ wo, wo = w2 := ⟨_, rfl⟩
        subst hwo
        clear hbt
        go_loopw [24] (fun i wr => ∃ k : Nat, k ≤ vss.length ∧ i = .int .i64 k ∧ firstZ (errVec p n o rank) vss = firstZ (errVec p n o rank) (vss.drop k) ∧ Below wo.heap.size wo wr) (fun i _ => vss.length - (intOf i).toNat)
        case atStart => exact ⟨0, Nat.zero_le _, rfl, rfl, Below.refl _ _⟩
        case round =>
          obtain ⟨k, hk, rfl, her, hbr⟩ := hrel
          have HBR := hid hbr
          have HER0 := hid her
          clear hbr her
          by_cases hk2 : k < vss.length
          · have HER := hid (HER0.out.trans (firstZ_drop (errVec p n o rank) vss k hk2))
            obtain ⟨b, off, va, vc, rfl, hlt, c0, hvl⟩ := wl_at HS1.out k hk2
            generalize vss.getD k [] = fss at c0 hvl HER
            have HVL := hid (hvl.below HBR.out)
            have d0 := cell_keep c0 HBR.out
            obtain ⟨_, bx0, bx1, bx2, bx3⟩ := HBX.out.below HBR.out
            clear c0 hvl
            cases hln : ((fss.length : Int) != rank)
            · have hrk : (fss.length : Int) = rank := by simpa using hln
              subst hrk
              have HEV : Hid (errVec p n o (fss.length : Int) fss = firstOne p n o fss) := by show _ = _; unfold errVec; rw [if_neg (by simp)]
              have hf40 : fss.length ≤ 40 := by have := HRK.out; omega
              have HVP := hid (vecPolys_any p n o v _ fss wr HR.out (by omega) HVL.out)
              clear hln
              cases hz : (firstOne p n o fss != 0)
              · have HZ : Hid (firstOne p n o fss = 0) := by simpa [Hid] using hz
                go_wp2_with (go_at_call 88; refine HVP.out.mono ?_; rintro e w4 ⟨rfl, hb4⟩; have HB4 := hid (HBR.out.trans (hb4.mono HBR.out.size)); clear hb4)
                go_roundw
                case rel => exact ⟨k + 1, by omega, by go_num, by rw [HER.out, HEV.out, if_pos HZ.out], HB4.out⟩
                case measure => simp [intOf]; omega
              · have HZ : Hid (firstOne p n o fss ≠ 0) := by simpa [Hid] using hz
                go_wp2_with (go_at_call 88; refine HVP.out.mono ?_; rintro e w4 ⟨rfl, hb4⟩; have HB4 := hid (HBR.out.trans (hb4.mono HBR.out.size)); clear hb4)
                go_ret
                exact ⟨ret_int (by rw [HER.out, HEV.out, if_neg HZ.out]), HB1.out.trans (HB4.out.mono HB1.out.size)⟩
            · have HEV : Hid (errVec p n o rank fss = 1) := by show _ = _; unfold errVec; rw [if_pos (by simpa using hln)]
              go_wp2_with fail
              go_ret
              exact ⟨ret_int (by rw [HER.out, HEV.out]; simp), HB1.out.trans (HBR.out.mono HB1.out.size)⟩
          · go_wp2
            go_ret
            exact ⟨ret_int (by rw [HER0.out, List.drop_eq_nil_of_le (by omega)]; rfl), HB1.out.trans (HBR.out.mono HB1.out.size)⟩
  · have HE : Hid (errVecs p n o v rank vss = errR p n o v) := by show _ = _; unfold errVecs; rw [if_pos (by simpa using hR)]
    rw [HE.out]
    go_enter Try.func46, Try.ntmps46
    go_wp2_with (go_at_call 32; refine (ring_any _ _ _ _ _).mono ?_; rintro e w1 ⟨rfl, hb1⟩; have HB1 := hid (show Below w.heap.size w w1 from below_oneG.trans (hb1.mono (by simp))); clear hb1)
    go_ret
    exact ⟨rfl, HB1.out⟩

/-! What each tells of sums that may be too great. -/
def grE (zs : List (List Tm)) (i : Nat) : Int := if greatB (zs.getD i []) then 2 else 0
def grR (zs : List (List Tm)) (i : Nat) : List Tm := if greatB (zs.getD i []) then [] else zs.getD i []
theorem grE_first (zs : List (List Tm)) : ∀ (m k : Nat), k + m = zs.length → firstN (grE zs) m k = if (zs.drop k).any greatB then 2 else 0
  | 0, k, h => by rw [List.drop_eq_nil_of_le (by omega)]; rfl
  | m + 1, k, h => by
    have hk : k < zs.length := by omega
    have hu : firstN (grE zs) (m + 1) k = if grE zs k ≠ 0 then grE zs k else firstN (grE zs) m (k + 1) := rfl
    have e : zs.getD k [] = zs[k] := by simp [List.getD_eq_getElem?_getD, hk]
    rw [hu, grE_first zs m (k + 1) (by omega), List.drop_eq_getElem_cons hk, List.any_cons]
    unfold grE
    rw [e]
    cases hg : greatB zs[k] <;> simp
theorem gr_vis (zs : List (List Tm)) : firstN (grE zs) zs.length 0 = visE 0 zs ∧ eachR (grE zs) (grR zs) zs.length = visR 0 zs := by
  have h := grE_first zs zs.length 0 (by omega)
  rw [List.drop_zero] at h
  have e1 : firstN (grE zs) zs.length 0 = visE 0 zs := by rw [h]; unfold visE; simp
  refine ⟨e1, ?_⟩
  unfold eachR visR
  rw [e1]
  by_cases hz : visE 0 zs = 0
  · rw [if_pos hz, if_pos hz]
    have hany : zs.any greatB = false := by
      unfold visE at hz
      rw [if_neg (by simp)] at hz
      cases hg : zs.any greatB
      · rfl
      · rw [hg] at hz; simp at hz
    apply List.ext_getElem?
    intro i
    by_cases hi : i < zs.length
    · have hn := List.any_eq_false.1 hany _ (List.getElem_mem hi)
      simp [hi, grR, hn]
    · rw [List.getElem?_eq_none (by simp; omega), List.getElem?_eq_none (by omega)]
  · rw [if_neg hz, if_neg hz]
theorem wl_two {w : World} {x y : Value} {fss gss : List (List Tm)} {b c : Nat} (hf : Vl w x fss) (hg : Vl w y gss) (hlt : b < w.heap.size) (c0 : w.cell? ⟨b, 0, none⟩ = some x) (c1 : w.cell? ⟨b, 1, none⟩ = some y) : Wl w (.slice (some ⟨b, 0, none⟩) 2 c) [fss, gss] := by
  refine ⟨_, c, rfl, fun _ => ⟨b, 0, rfl, hlt, fun i hi => ?_⟩⟩
  simp only [List.length_cons, List.length_nil] at hi
  rcases i with _ | _ | i
  · exact ⟨x, c0, hf⟩
  · exact ⟨y, c1, hg⟩
  · omega
theorem wl_one {w : World} {x : Value} {fss : List (List Tm)} {b c : Nat} (hf : Vl w x fss) (hlt : b < w.heap.size) (c0 : w.cell? ⟨b, 0, none⟩ = some x) : Wl w (.slice (some ⟨b, 0, none⟩) 1 c) [fss] := by
  refine ⟨_, c, rfl, fun _ => ⟨b, 0, rfl, hlt, fun i hi => ?_⟩⟩
  simp only [List.length_cons, List.length_nil] at hi
  rcases i with _ | i
  · exact ⟨x, c0, hf⟩
  · omega
/-- What may go together. -/
theorem alike_ok {p n o v : Int} {vss : List (List (List Tm))} (h : errAlike p n o v vss = 0) : errR p n o v = 0 ∧ ∀ fss ∈ vss, (1 ≤ fss.length ∧ fss.length ≤ 40) ∧ fss.length = (vss.getD 0 []).length ∧ ∀ f ∈ fss, errOne p n o f = 0 := by
  unfold errAlike at h
  by_cases hr : errR p n o v = 0
  · rw [if_neg (by simpa using hr)] at h
    cases h1 : vss.any badR
    · rw [h1, if_neg (by simp)] at h
      cases h2 : vss.any (unlV (vss.getD 0 []).length)
      · rw [h2, if_neg (by simp)] at h
        refine ⟨hr, fun fss hf => ?_⟩
        have a1 := List.any_eq_false.1 h1 fss hf
        have a2 := List.any_eq_false.1 h2 fss hf
        simp [badR, betweenB] at a1
        simp only [unlV, decide_eq_true_eq, Decidable.not_not] at a2
        exact ⟨by omega, a2, firstOne_ok (firstZ_ok h fss hf)⟩
      · rw [h2, if_pos rfl] at h; omega
    · rw [h1, if_pos rfl] at h; omega
  · rw [if_pos hr] at h; exact absurd h hr
theorem cur_zero {p n o v : Int} {fss : List (List Tm)} (hR : errR p n o v = 0) (h : ∀ f ∈ fss, errOne p n o f = 0) : cur p n o v fss = 0 := cur_mk (fun f hf => cur_iff.2 ⟨hR, h f hf⟩)
theorem addE_gr {p o : Int} {f g : List Tm} : addE 0 p o f g = if greatB (colL p o (f ++ g)) then 2 else 0 := by unfold addE; simp
theorem addR_gr {p o : Int} {f g : List Tm} : addR 0 p o f g = if greatB (colL p o (f ++ g)) then [] else colL p o (f ++ g) := by
  unfold addR; rw [addE_gr]; cases greatB (colL p o (f ++ g)) <;> simp
theorem mulE_gr {p o : Int} {f g : List Tm} : mulE 0 p o f g = if greatB (colL p o (prodL p f g)) then 2 else 0 := by unfold mulE; simp
theorem mulR_gr {p o : Int} {f g : List Tm} : mulR 0 p o f g = if greatB (colL p o (prodL p f g)) then [] else colL p o (prodL p f g) := by
  unfold mulR; rw [mulE_gr]; cases greatB (colL p o (prodL p f g)) <;> simp

set_option maxRecDepth 100000 in
set_option maxHeartbeats 1000000 in
theorem vaddFn_any (p n o v : Int) (i rb wb : Nat) (fv : Value) (f : List Tm) (ya : Option Addr) (yc : Nat) (gss : List (List Tm)) (w : World) (hi : i < gss.length) (hE : cur p n o v [f, gss.getD i []] = 0) (bx : BoxAt w rb p n o v) (hc : w.cell? ⟨wb, 0, none⟩ = some (.slice ya gss.length yc)) (pf : Pl w fv f) (pg : Vl w (.slice ya gss.length yc) gss) :
    Calls Try.prog 75 #[.int .i64 i, fv, .pointer (some ⟨rb, 0, none⟩), .pointer (some ⟨wb, 0, none⟩)] w fun e w' => ∃ u, e = .returned (.tuple #[u, .int .i64 (addE 0 p o f (gss.getD i []))]) ∧ Pl w' u (addR 0 p o f (gss.getD i [])) ∧ Below w.heap.size w w' := by
  have HP := hid pf
  have HT := hid (tells p n o v)
  obtain ⟨b, off, ga, gc, rfl, hlt, c0, hpg⟩ := vl_at pg i hi
  obtain ⟨_, bx0, bx1, bx2, bx3⟩ := bx
  generalize gss.getD i [] = g at c0 hpg hE
  have HG := hid hpg
  have HE := hid hE
  obtain ⟨fa, fc, rfl, _, _⟩ := pf
  have KEEP : Hid (∀ W, Below w.heap.size w W → (Hid (Below w.heap.size w W) ∧ W.cell? ⟨rb, 0, none⟩ = some (.int .i64 p) ∧ W.cell? ⟨rb, 1, none⟩ = some (.int .i64 n) ∧ W.cell? ⟨rb, 2, none⟩ = some (.int .i64 o) ∧ W.cell? ⟨rb, 3, none⟩ = some (.int .i64 v) ∧ W.cell? ⟨wb, 0, none⟩ = some (.slice (some ⟨b, off, none⟩) gss.length yc) ∧ W.cell? ⟨b, off + i, none⟩ = some (.slice ga g.length gc))) :=
    fun W hb => ⟨hb, cell_keep bx0 hb, cell_keep bx1 hb, cell_keep bx2 hb, cell_keep bx3 hb, cell_keep hc hb, cell_keep c0 hb⟩
  have HB0 : Hid (Below w.heap.size w w.drew) := (Below.refl _ _).drew
  clear bx0 bx1 bx2 bx3 hc c0 hpg pg hE
  go_enter Try.func75, Try.ntmps75
  go_wp2_with fail
  go_region_held (fun W => Hid (Below w.heap.size w W) ∧ W.cell? ⟨rb, 0, none⟩ = some (.int .i64 p) ∧ W.cell? ⟨rb, 1, none⟩ = some (.int .i64 n) ∧ W.cell? ⟨rb, 2, none⟩ = some (.int .i64 o) ∧ W.cell? ⟨rb, 3, none⟩ = some (.int .i64 v) ∧ W.cell? ⟨wb, 0, none⟩ = some (.slice (some ⟨b, off, none⟩) gss.length yc) ∧ W.cell? ⟨b, off + i, none⟩ = some (.slice ga g.length gc))
    (first | exact KEEP.out _ HB0.out | exact KEEP.out _ HB9.out)
    (first | (go_at_call 76; refine (polyAdd_any p n o v _ HT.out _ _ f g _ ?_ ?_).mono ?_; exact HP.out.below HB0.out; exact HG.out.below HB0.out; rw [HE.out]; rintro e w9 ⟨u9, rfl, hu9, hb9⟩; have HU9 := hid hu9; have HB9 := hid (show Below w.heap.size w w9 from HB0.out.trans (hb9.mono HB0.out.size)); obtain ⟨ua9, uc9, rfl, _, _⟩ := hu9; clear hb9))
  go_wp2
  go_ret2
  exact ⟨_, rfl, HU9.out, HB9.out⟩
set_option maxRecDepth 100000 in
set_option maxHeartbeats 1000000 in
theorem vscaleFn_any (p n o v : Int) (i rb fb : Nat) (fv gv : Value) (f g : List Tm) (w : World) (hE : cur p n o v [f, g] = 0) (bx : BoxAt w rb p n o v) (hc : w.cell? ⟨fb, 0, none⟩ = some fv) (pf : Pl w fv f) (pg : Pl w gv g) :
    Calls Try.prog 78 #[.int .i64 i, gv, .pointer (some ⟨rb, 0, none⟩), .pointer (some ⟨fb, 0, none⟩)] w fun e w' => ∃ u, e = .returned (.tuple #[u, .int .i64 (mulE 0 p o f g)]) ∧ Pl w' u (mulR 0 p o f g) ∧ Below w.heap.size w w' := by
  have HP := hid pf
  have HG := hid pg
  have HT := hid (tells p n o v)
  have HE := hid hE
  obtain ⟨_, bx0, bx1, bx2, bx3⟩ := bx
  obtain ⟨fa, fc, rfl, _, _⟩ := pf
  obtain ⟨ga, gc, rfl, _, _⟩ := pg
  clear hE
  go_enter Try.func78, Try.ntmps78
  go_wp2_with (go_at_call 79; refine (polyMul_any p n o v _ HT.out _ _ f g _ HP.out HG.out).mono ?_; rw [HE.out]; rintro e w9 ⟨u9, rfl, hu9, hb9⟩; have HU9 := hid hu9; have HB9 := hid hb9; obtain ⟨ua9, uc9, rfl, _, _⟩ := hu9; clear hb9)
  go_ret2
  exact ⟨_, rfl, HU9.out, HB9.out⟩

set_option maxRecDepth 100000 in
set_option maxHeartbeats 1000000 in
theorem vecAdd_any (p n o v : Int) (x y : Value) (fss gss : List (List Tm)) (w : World) (pf : Vl w x fss) (pg : Vl w y gss) :
    Calls Try.prog 37 #[ringV p n o v, x, y] w fun e w' => ∃ u, e = .returned (.tuple #[u, .int .i64 (visE (errAlike p n o v [fss, gss]) (sums p o fss gss))]) ∧ Vl w' u (visR (errAlike p n o v [fss, gss]) (sums p o fss gss)) ∧ Below w.heap.size w w' := by
  have HX := hid pf
  have HY := hid pg
  obtain ⟨ax, cx, rfl, _⟩ := pf
  obtain ⟨ay, cy, rfl, _⟩ := pg
  obtain ⟨w2, hw2⟩ : ∃ w2, w2 = (w.alloc (.cells #[.int .i64 p, .int .i64 n, .int .i64 o, .int .i64 v] 39)).alloc (.cells #[.slice ay gss.length cy] 56) := ⟨_, rfl⟩
  have hb2 : Below w.heap.size w w2 := by rw [hw2]; exact below_two
  have hbx : BoxAt w2 w.heap.size p n o v := by rw [hw2]; exact (BoxAt.new w p n o v _).below below_oneG
  have hcf : w2.cell? ⟨w.heap.size + 1, 0, none⟩ = some (.slice ay gss.length cy) := by rw [hw2]; simp [go_sem]
  have HB2 := hid hb2
  have HBX := hid hbx
  have HCF := hid hcf
  have HS2 : Hid (w2.heap.size = w.heap.size + 2) := by show _ = _; rw [hw2]; simp
  have HW2 : Hid (∀ T, Wl (w2.alloc (.cells #[.slice ax fss.length cx, .slice ay gss.length cy] T)) (.slice (some ⟨w2.heap.size, 0, none⟩) 2 2) [fss, gss]) := fun T => wl_two ((HX.out.below hb2).below below_oneG) ((HY.out.below hb2).below below_oneG) (by simp) (by simp [go_sem]) (by simp [go_sem])
  rw [HS2.out] at HW2
  clear hb2 hbx hcf
  cases hz : (errAlike p n o v [fss, gss] != 0)
  · have hz0 : errAlike p n o v [fss, gss] = 0 := by simpa using hz
    obtain ⟨hR, hall⟩ := alike_ok hz0
    obtain ⟨h1, _, h3⟩ := hall fss (by simp)
    obtain ⟨g1, g2, g3⟩ := hall gss (by simp)
    have hl : fss.length = gss.length := by simpa using g2.symm
    have HL := hid hl
    have HZ := hid hz0
    have HV := gr_vis (sums p o fss gss)
    have HK : Hid (∀ i, i < fss.length → cur p n o v [fss.getD i [], gss.getD i []] = 0) := fun i hi => cur_zero hR (fun f hf => by
      simp only [List.mem_cons, List.not_mem_nil, or_false] at hf
      rcases hf with rfl | rfl
      · exact h3 _ (getD_memL fss i hi)
      · exact g3 _ (getD_memL gss i (by omega)))
    have HEI : Hid (∀ i, i < fss.length → addE 0 p o (fss.getD i []) (gss.getD i []) = grE (sums p o fss gss) i ∧ addR 0 p o (fss.getD i []) (gss.getD i []) = grR (sums p o fss gss) i) := fun i hi => by
      unfold grE grR
      rw [sums_at hl hi]
      exact ⟨addE_gr, addR_gr⟩
    have HEA := hid (fun (W : World) (hb : Below w2.heap.size w2 W) => eachA_any w.heap.size (w.heap.size + 1) _ fss (grE (sums p o fss gss)) (grR (sums p o fss gss)) W (by omega) ((HX.out.below HB2.out).below hb) (fun i w' fa fc hi hb' hpf => by
      have h := vaddFn_any p n o v i w.heap.size (w.heap.size + 1) _ (fss.getD i []) ay cy gss w' (by omega) (HK.out i hi) ((HBX.out.below hb).below hb') (cell_keep (cell_keep HCF.out hb) hb') hpf (((HY.out.below HB2.out).below hb).below hb')
      rw [(HEI.out i hi).1, (HEI.out i hi).2] at h
      exact h))
    have hsl := sums_len (p := p) (o := o) hl
    rw [hsl] at HV
    rw [hz0, ← HV.1, ← HV.2]
    have hf40 : fss.length ≤ 40 := h1.2
    clear hR hall h1 h3 g1 g2 g3 hl hz0 HV hsl HK HEI
    obtain ⟨_, bx0, bx1, bx2, bx3⟩ := HBX.out
    have hcf := HCF.out
    go_enter Try.func37, Try.ntmps37
    go_wp2_with fail
    try rw [← hw2]
    refine (vecAll_any p n o v _ [fss, gss] _ (by simp) (HW2.out _)).mono ?_
    rw [HZ.out]
    rintro e w3 ⟨rfl, hb3⟩
    have HB3 := hid (show Below w2.heap.size w2 w3 from below_oneG.trans (hb3.mono (by simp)))
    clear hb3 bx0 bx1 bx2 bx3 hcf hw2
    go_wp2_with fail
    refine (HEA.out _ HB3.out).mono ?_
    rintro e w4 ⟨u, rfl, hu, hb4⟩
    have HU := hid hu
    have HB4 := hid (HB2.out.trans ((HB3.out.trans (hb4.mono HB3.out.size)).mono HB2.out.size))
    obtain ⟨ua, uc, rfl, _⟩ := hu
    clear hb4
    go_wp2
    go_ret2
    exact ⟨_, rfl, HU.out, HB4.out⟩
  · have hz0 : errAlike p n o v [fss, gss] ≠ 0 := by simpa using hz
    have he : visE (errAlike p n o v [fss, gss]) (sums p o fss gss) = errAlike p n o v [fss, gss] := by unfold visE; rw [if_pos hz0]
    have hr : visR (errAlike p n o v [fss, gss]) (sums p o fss gss) = [] := by unfold visR; rw [he, if_neg hz0]
    rw [he, hr]
    clear he hr hz0
    obtain ⟨_, bx0, bx1, bx2, bx3⟩ := HBX.out
    have hcf := HCF.out
    go_enter Try.func37, Try.ntmps37
    go_wp2_with fail
    try rw [← hw2]
    refine (vecAll_any p n o v _ [fss, gss] _ (by simp) (HW2.out _)).mono ?_
    rintro e w3 ⟨rfl, hb3⟩
    have HB3 := hid (HB2.out.trans ((show Below w2.heap.size w2 w3 from below_oneG.trans (hb3.mono (by simp))).mono HB2.out.size))
    clear hb3
    go_wp2
    go_ret2
    exact ⟨_, rfl, Vl.empty _, HB3.out⟩

set_option maxRecDepth 100000 in
set_option maxHeartbeats 1000000 in
theorem vecScale_any (p n o v : Int) (x y : Value) (f : List Tm) (gss : List (List Tm)) (w : World) (pf : Pl w x f) (pg : Vl w y gss) (E : Int) (hEd : E = if errPolys p n o v [f] = 0 then errAlike p n o v [gss] else errPolys p n o v [f]) :
    Calls Try.prog 38 #[ringV p n o v, x, y] w fun e w' => ∃ u, e = .returned (.tuple #[u, .int .i64 (visE E (prods p o f gss))]) ∧ Vl w' u (visR E (prods p o f gss)) ∧ Below w.heap.size w w' := by
  have HX := hid pf
  have HY := hid pg
  have HT := hid (tells p n o v)
  have hC1 := cur_eq (p := p) (n := n) (o := o) (v := v) (fss := [f]) (by simp)
  obtain ⟨ax, cx, rfl, _, _⟩ := pf
  obtain ⟨ay, cy, rfl, _⟩ := pg
  obtain ⟨w2, hw2⟩ : ∃ w2, w2 = (w.alloc (.cells #[.int .i64 p, .int .i64 n, .int .i64 o, .int .i64 v] 39)).alloc (.cells #[.slice ax f.length cx] 54) := ⟨_, rfl⟩
  have hb2 : Below w.heap.size w w2 := by rw [hw2]; exact below_two
  have hbx : BoxAt w2 w.heap.size p n o v := by rw [hw2]; exact (BoxAt.new w p n o v _).below below_oneG
  have hcf : w2.cell? ⟨w.heap.size + 1, 0, none⟩ = some (.slice ax f.length cx) := by rw [hw2]; simp [go_sem]
  have HB2 := hid hb2
  have HBX := hid hbx
  have HCF := hid hcf
  have HC := hid hC1
  have HPC := hid (polyCheck_any p n o v _ HT.out _ f w2 (HX.out.below hb2))
  rw [hC1] at HPC
  clear hb2 hC1
  obtain ⟨_, bx0, bx1, bx2, bx3⟩ := hbx
  cases hy : (errPolys p n o v [f] != 0)
  · have hy0 : errPolys p n o v [f] = 0 := by simpa using hy
    rw [if_pos hy0] at hEd
    subst hEd
    have HY0 := hid hy0
    cases hz : (errAlike p n o v [gss] != 0)
    · have hz0 : errAlike p n o v [gss] = 0 := by simpa using hz
      obtain ⟨hR, hall⟩ := alike_ok hz0
      obtain ⟨g1, _, g3⟩ := hall gss (by simp)
      have hf1 : errOne p n o f = 0 := (errPolys_ok hy0).2 f (by simp)
      have HZ := hid hz0
      have HV := gr_vis (prods p o f gss)
      have HK : Hid (∀ i, i < gss.length → cur p n o v [f, gss.getD i []] = 0) := fun i hi => cur_zero hR (fun h hf => by
        simp only [List.mem_cons, List.not_mem_nil, or_false] at hf
        rcases hf with rfl | rfl
        · exact hf1
        · exact g3 _ (getD_memL gss i hi))
      have HEI : Hid (∀ i, i < gss.length → mulE 0 p o f (gss.getD i []) = grE (prods p o f gss) i ∧ mulR 0 p o f (gss.getD i []) = grR (prods p o f gss) i) := fun i hi => by
        unfold grE grR prods
        rw [getD_mapL (fun g => colL p o (prodL p f g)) _ _ hi]
        exact ⟨mulE_gr, mulR_gr⟩
      have HEA := hid (fun (W : World) (hb : Below w2.heap.size w2 W) => eachS_any w.heap.size (w.heap.size + 1) _ gss (grE (prods p o f gss)) (grR (prods p o f gss)) W (by omega) ((HY.out.below HB2.out).below hb) (fun i w' fa fc hi hb' hpf => by
        have h := vscaleFn_any p n o v i w.heap.size (w.heap.size + 1) _ _ f (gss.getD i []) w' (HK.out i hi) ((HBX.out.below hb).below hb') (cell_keep (cell_keep HCF.out hb) hb') (((HX.out.below HB2.out).below hb).below hb') hpf
        rw [(HEI.out i hi).1, (HEI.out i hi).2] at h
        exact h))
      have hsl : (prods p o f gss).length = gss.length := by unfold prods; rw [List.length_map]
      rw [hsl] at HV
      rw [hz0, ← HV.1, ← HV.2]
      have hg40 : gss.length ≤ 40 := g1.2
      clear hR hall g1 g3 hz0 HV hsl HK HEI hf1 hy0
      go_enter Try.func38, Try.ntmps38
      go_wp2_with fail
      try rw [← hw2]
      refine HPC.out.mono ?_
      rw [HY0.out]
      rintro e w3 ⟨rfl, hb3⟩
      have HB3 := hid hb3
      have HB3w := hid (HB2.out.trans (hb3.mono HB2.out.size))
      clear bx0 bx1 bx2 bx3 hcf hw2
      obtain ⟨_, bx0, bx1, bx2, bx3⟩ := HBX.out.below hb3
      clear hb3
      have HW3 : Hid (∀ T, Wl (w3.alloc (.cells #[.slice ay gss.length cy] T)) (.slice (some ⟨w3.heap.size, 0, none⟩) 1 1) [gss]) := fun T => wl_one ((HY.out.below HB3w.out).below below_oneG) (by simp) (by simp [go_sem])
      go_wp2_with fail
      refine (vecAll_any p n o v _ [gss] _ (by simp) (HW3.out _)).mono ?_
      rw [HZ.out]
      rintro e w4 ⟨rfl, hb4⟩
      have HB4 := hid (HB3.out.trans ((show Below w3.heap.size w3 w4 from below_oneG.trans (hb4.mono (by simp))).mono HB3.out.size))
      clear hb4 bx0 bx1 bx2 bx3
      go_wp2_with fail
      refine (HEA.out _ HB4.out).mono ?_
      rintro e w5 ⟨u, rfl, hu, hb5⟩
      have HU := hid hu
      have HB5 := hid (HB2.out.trans ((HB4.out.trans (hb5.mono HB4.out.size)).mono HB2.out.size))
      obtain ⟨ua, uc, rfl, _⟩ := hu
      clear hb5
      go_wp2
      go_ret2
      exact ⟨_, rfl, HU.out, HB5.out⟩
    · have hz0 : errAlike p n o v [gss] ≠ 0 := by simpa using hz
      have he : visE (errAlike p n o v [gss]) (prods p o f gss) = errAlike p n o v [gss] := by unfold visE; rw [if_pos hz0]
      have hr : visR (errAlike p n o v [gss]) (prods p o f gss) = [] := by unfold visR; rw [he, if_neg hz0]
      rw [he, hr]
      clear he hr hz0 hy0
      go_enter Try.func38, Try.ntmps38
      go_wp2_with fail
      try rw [← hw2]
      refine HPC.out.mono ?_
      rw [HY0.out]
      rintro e w3 ⟨rfl, hb3⟩
      have HB3w := hid (HB2.out.trans (hb3.mono HB2.out.size))
      clear bx0 bx1 bx2 bx3 hcf hw2
      obtain ⟨_, bx0, bx1, bx2, bx3⟩ := HBX.out.below hb3
      clear hb3
      have HW3 : Hid (∀ T, Wl (w3.alloc (.cells #[.slice ay gss.length cy] T)) (.slice (some ⟨w3.heap.size, 0, none⟩) 1 1) [gss]) := fun T => wl_one ((HY.out.below HB3w.out).below below_oneG) (by simp) (by simp [go_sem])
      go_wp2_with fail
      refine (vecAll_any p n o v _ [gss] _ (by simp) (HW3.out _)).mono ?_
      rintro e w4 ⟨rfl, hb4⟩
      have HB4 := hid (HB3w.out.trans ((show Below w3.heap.size w3 w4 from below_oneG.trans (hb4.mono (by simp))).mono HB3w.out.size))
      clear hb4
      go_wp2
      go_ret2
      exact ⟨_, rfl, Vl.empty _, HB4.out⟩
  · have hy0 : errPolys p n o v [f] ≠ 0 := by simpa using hy
    rw [if_neg hy0] at hEd
    subst hEd
    have he : visE (errPolys p n o v [f]) (prods p o f gss) = errPolys p n o v [f] := by unfold visE; rw [if_pos hy0]
    have hr : visR (errPolys p n o v [f]) (prods p o f gss) = [] := by unfold visR; rw [he, if_neg hy0]
    rw [he, hr]
    clear he hr hy0
    go_enter Try.func38, Try.ntmps38
    go_wp2_with fail
    try rw [← hw2]
    refine HPC.out.mono ?_
    rintro e w3 ⟨rfl, hb3⟩
    have HB3w := hid (HB2.out.trans (hb3.mono HB2.out.size))
    clear hb3
    go_wp2
    go_ret2
    exact ⟨_, rfl, Vl.empty _, HB3w.out⟩

end Go.Proofs.Ytkmjmmnnnbjghaa

/- Leads: plain mathematics; vector.leadPlace. -/
namespace Go.Proofs.Ytkmjmmnnnbjghaa
set_option linter.unusedSimpArgs false
set_option linter.unusedVariables false
open Go.RowKit

abbrev Ld := Option (Nat × Tm)
/-- What is the lead so far, once a polynomial at a place has been looked at. -/
def leadStep (o ov : Int) (st : Ld) (i : Nat) : List Tm → Ld
  | [] => st
  | t :: _ => match st with
    | none => some (i, t)
    | some (j, u) => if ov = 1 ∧ 0 < ordS o t.2 u.2 then some (i, t) else some (j, u)
def leadF (o ov : Int) (fss : List (List Tm)) : Nat → Ld
  | 0 => none
  | k + 1 => leadStep o ov (leadF o ov fss k) k (fss.getD k [])
theorem leadF_at {o ov : Int} {fss : List (List Tm)} : ∀ {k : Nat} {j : Nat} {u : Tm}, leadF o ov fss k = some (j, u) → j < k ∧ ∃ us, fss.getD j [] = u :: us
  | 0, j, u, h => by simp [leadF] at h
  | k + 1, j, u, h => by
    simp only [leadF] at h
    cases hf : fss.getD k [] with
    | nil =>
      rw [hf] at h
      simp only [leadStep] at h
      obtain ⟨h1, h2⟩ := leadF_at h
      exact ⟨by omega, h2⟩
    | cons t ts =>
      rw [hf] at h
      cases hs : leadF o ov fss k with
      | none =>
        rw [hs] at h
        simp only [leadStep, Option.some.injEq, Prod.mk.injEq] at h
        obtain ⟨rfl, rfl⟩ := h
        exact ⟨by omega, ts, hf⟩
      | some q =>
        obtain ⟨j', u'⟩ := q
        rw [hs] at h
        simp only [leadStep] at h
        split at h
        · simp only [Option.some.injEq, Prod.mk.injEq] at h
          obtain ⟨rfl, rfl⟩ := h
          exact ⟨by omega, ts, hf⟩
        · simp only [Option.some.injEq, Prod.mk.injEq] at h
          obtain ⟨rfl, rfl⟩ := h
          obtain ⟨h1, h2⟩ := leadF_at hs
          exact ⟨by omega, h2⟩
def plc : Ld → Int
  | none => -1
  | some (j, _) => j
theorem plc_none : plc none = -1 := rfl
theorem plc_some (j : Nat) (u : Tm) : plc (some (j, u)) = (j : Int) := rfl
theorem pl_first {w : World} {fa : Option Addr} {fc : Nat} {t : Tm} {ts : List Tm} (h : Pl w (.slice fa (t :: ts).length fc) (t :: ts)) : ∃ b off ea ec, fa = some ⟨b, off, none⟩ ∧ b < w.heap.size ∧ w.cell? ⟨b, off, none⟩ = some (.int .i64 t.1) ∧ w.cell? ⟨b, off + 1, none⟩ = some (.slice ea t.2.length ec) ∧ Sl w (.slice ea t.2.length ec) t.2 := by
  obtain ⟨a, c, e, _, h1⟩ := h
  obtain ⟨b, off, rfl, hlt, hat⟩ := h1 (by simp)
  simp only [Value.slice.injEq, true_and] at e
  obtain ⟨rfl, rfl⟩ := e
  obtain ⟨h2, u, h3, h4⟩ := hat 0 (by simp)
  simp at h2 h3 h4
  have h5 := h4
  obtain ⟨ea, ec, rfl, _⟩ := h4
  exact ⟨b, off, ea, ec, rfl, hlt, h2, h3, h5⟩

set_option maxRecDepth 100000 in
set_option maxHeartbeats 4000000 in
theorem leadPlace_any (p n o v : Int) (N : Nat) (x : Value) (fss : List (List Tm)) (w : World) (ho : o = 1 ∨ o = 2) (hN0 : 0 < N) (hN : N ≤ 3) (hm : fss.length ≤ 1000) (hf : ∀ f ∈ fss, Right p o N f) (pf : Vl w x fss) :
    Calls Try.prog 80 #[ringV p n o v, x] w fun e w' => e = .returned (.int .i64 (plc (leadF o v fss fss.length))) ∧ Below w.heap.size w w' := by
  have HX := hid pf
  have HF := hid hf
  have HO := hid ho
  obtain ⟨ax, cx, rfl, _⟩ := pf
  obtain ⟨w1, hw1⟩ : ∃ w1, w1 = w.alloc (.cells #[.int .i64 p, .int .i64 n, .int .i64 o, .int .i64 v] 39) := ⟨_, rfl⟩
  have hbx : BoxAt w1 w.heap.size p n o v := by rw [hw1]; exact BoxAt.new w p n o v _
  have hbw : Below w.heap.size w w1 := by rw [hw1]; exact below_oneG
  have HBX := hid hbx
  have HBW := hid hbw
  have HX1 := hid (HX.out.below hbw)
  clear hf ho hbx hbw
  go_enter Try.func80, Try.ntmps80
  go_wp2_with fail
  rw [← hw1]
  clear hw1
  go_loopw [5, 10] (fun s i wr => ∃ k : Nat, k ≤ fss.length ∧ i = .int .i64 k ∧ s = .int .i64 (plc (leadF o v fss k)) ∧ Below w1.heap.size w1 wr) (fun _ i _ => fss.length - (intOf i).toNat)
  case atStart => exact ⟨0, Nat.zero_le _, rfl, rfl, Below.refl _ _⟩
  case round =>
    obtain ⟨k, hk, rfl, rfl, hbr⟩ := hrel
    have HBR := hid hbr
    clear hbr
    by_cases hk2 : k < fss.length
    · obtain ⟨b, off, fa, fc, rfl, hlt, c0, hpf⟩ := vl_at HX1.out k hk2
      have HST : Hid (leadF o v fss (k + 1) = leadStep o v (leadF o v fss k) k (fss.getD k [])) := rfl
      have HRT := hid (HF.out _ (getD_memL fss k hk2))
      have HLA := hid (fun j u => leadF_at (o := o) (ov := v) (fss := fss) (k := k) (j := j) (u := u))
      generalize leadF o v fss k = st at HST HLA
      generalize fss.getD k [] = f at c0 hpf HST HRT
      have d0 := cell_keep c0 HBR.out
      cases f with
      | nil =>
        go_wp2_with fail
        go_roundw
        case rel => exact ⟨k + 1, by omega, by go_num, by rw [HST.out]; rfl, HBR.out⟩
        case measure => simp [intOf]; omega
      | cons t ts =>
        obtain ⟨b2, off2, ea, ec, rfl, hlt2, e0, e1, hse⟩ := pl_first hpf
        have HTE := hid (And.intro (HRT.out.canon.len t (by simp)) (HRT.out.bd.bd t (by simp)))
        have HSE := hid hse
        have hfl : (t :: ts).length = ts.length + 1 := rfl
        cases st with
        | none =>
          have HS1 : Hid (leadF o v fss (k + 1) = some (k, t)) := HST.out
          obtain ⟨m, hm1⟩ : ∃ m : Int, plc none = m := ⟨_, rfl⟩
          have hm0 : m < 0 := by rw [← hm1]; decide
          rw [hm1]
          clear hm1
          have hd : decide (m < 0) = true := decide_eq_true hm0
          go_wp2_with fail
          go_quiet (fail)
          have HQ1 := hid (below_drewN HBR.out nq)
          go_wp2
          go_roundw
          case rel => exact ⟨k + 1, by omega, by go_num, by rw [HS1.out]; rfl, HQ1.out⟩
          case measure => simp [intOf]; omega
        | some q =>
          obtain ⟨j, u⟩ := q
          obtain ⟨hjk, us, hus⟩ := HLA.out j u rfl
          obtain ⟨m, hmj⟩ : ∃ m : Int, (j : Int) = m := ⟨_, rfl⟩
          have hm0 : ¬ m < 0 := by omega
          have hm1 : 0 ≤ m := by omega
          have hm2 : m < (fss.length : Int) := by omega
          have hmt : m.toNat = j := by omega
          rw [plc_some, hmj]
          have hj2 : j < fss.length := by omega
          obtain ⟨b3, off3, ga, gc, hga, hlt3, g0, hpg⟩ := vl_at HX1.out j hj2
          simp only [Option.some.injEq, Addr.mk.injEq, and_true] at hga
          obtain ⟨e1', e2'⟩ := hga
          subst e1'
          subst e2'
          have HRU := hid (HF.out _ (getD_memL fss j hj2))
          rw [hus] at g0 hpg HRU
          obtain ⟨b4, off4, ea4, ec4, rfl, hlt4, q0, q1, hsu⟩ := pl_first hpg
          have HUE := hid (And.intro (HRU.out.canon.len u (by simp)) (HRU.out.bd.bd u (by simp)))
          have HSU := hid hsu
          rw [← hmt] at g0
          have HMJ := hid hmj
          clear hmj hmt
          cases hv : (v == 1)
          · have HS1 : Hid (leadF o v fss (k + 1) = some (j, u)) := by
              show _ = _
              rw [HST.out]
              simp only [leadStep]
              rw [if_neg (by have : ¬ v = 1 := by simpa using hv
                             exact fun h => this h.1)]
            obtain ⟨_, bx0, bx1, bx2, bx3⟩ := HBX.out.below HBR.out
            have hd : decide (m < 0) = false := decide_eq_false hm0
            clear c0 hpf e0 e1 hse g0 hpg q0 q1 hsu hus
            go_wp2_with fail
            go_quiet (fail)
            have HB0 := hid (below_drewN HBR.out nq)
            go_wp2
            go_roundw
            case rel => exact ⟨k + 1, by omega, by go_num, by rw [HS1.out, plc_some, HMJ.out], HB0.out⟩
            case measure => simp [intOf]; omega
          · have hv1 : v = 1 := by simpa using hv
            have HLL : Hid (t.2.length = u.2.length) := HTE.out.1.trans HUE.out.1.symm
            have ht0 : 0 < t.2.length := by rw [HTE.out.1]; exact hN0
            have ht3 : t.2.length ≤ 3 := by rw [HTE.out.1]; exact hN
            obtain ⟨_, bx0, bx1, bx2, bx3⟩ := HBX.out
            have KEEP : Hid (∀ W, Below w1.heap.size w1 W → (Hid (Below w1.heap.size w1 W) ∧ W.cell? ⟨w.heap.size, 0, none⟩ = some (.int .i64 p) ∧ W.cell? ⟨w.heap.size, 1, none⟩ = some (.int .i64 n) ∧ W.cell? ⟨w.heap.size, 2, none⟩ = some (.int .i64 o) ∧ W.cell? ⟨w.heap.size, 3, none⟩ = some (.int .i64 v) ∧ W.cell? ⟨b2, off2 + 1, none⟩ = some (.slice ea t.2.length ec) ∧ W.cell? ⟨b, off + m.toNat, none⟩ = some (.slice (some ⟨b4, off4, none⟩) (us.length + 1) gc) ∧ W.cell? ⟨b4, off4 + 1, none⟩ = some (.slice ea4 u.2.length ec4))) :=
              fun W hb => ⟨hb, cell_keep bx0 hb, cell_keep bx1 hb, cell_keep bx2 hb, cell_keep bx3 hb, cell_keep e1 hb, cell_keep g0 hb, cell_keep q1 hb⟩
            have HB0 : Hid (Below w1.heap.size w1 wr.drew) := HBR.out.drew
            have hv2 : (v == 1) = true := hv
            have hd : decide (m < 0) = false := decide_eq_false hm0
            clear bx0 bx1 bx2 bx3 c0 hpf e0 e1 hse g0 hpg q0 q1 hsu hus hv1
            by_cases hgt : 0 < ordS o t.2 u.2
            · have HS1 : Hid (leadF o v fss (k + 1) = some (k, t)) := by
                show _ = _
                rw [HST.out]
                simp only [leadStep]
                rw [if_pos ⟨by simpa using hv2, hgt⟩]
              go_wp2_with fail
              go_region_held (fun W => Hid (Below w1.heap.size w1 W) ∧ W.cell? ⟨w.heap.size, 0, none⟩ = some (.int .i64 p) ∧ W.cell? ⟨w.heap.size, 1, none⟩ = some (.int .i64 n) ∧ W.cell? ⟨w.heap.size, 2, none⟩ = some (.int .i64 o) ∧ W.cell? ⟨w.heap.size, 3, none⟩ = some (.int .i64 v) ∧ W.cell? ⟨b2, off2 + 1, none⟩ = some (.slice ea t.2.length ec) ∧ W.cell? ⟨b, off + m.toNat, none⟩ = some (.slice (some ⟨b4, off4, none⟩) (us.length + 1) gc) ∧ W.cell? ⟨b4, off4 + 1, none⟩ = some (.slice ea4 u.2.length ec4))
                (first | exact KEEP.out _ HB0.out | exact KEEP.out _ (HB0.out.trans (hb9.mono HB0.out.size)))
                (first | (go_at_call 69; refine (bareCompare_any p n o v _ _ t.2 u.2 _ HO.out ht0 ht3 HLL.out HTE.out.2 HUE.out.2 ?_ ?_).mono ?_; exact HSE.out.below HB0.out; exact HSU.out.below HB0.out; rintro e w9 ⟨rfl, hb9⟩))
              have HB9 := hid (show Below w1.heap.size w1 w9 from HB0.out.trans (hb9.mono HB0.out.size))
              clear hb9
              go_wp2_with fail
              go_roundw
              case rel => exact ⟨k + 1, by omega, by go_num, by rw [HS1.out]; rfl, HB9.out⟩
              case measure => simp [intOf]; omega
            · have HS1 : Hid (leadF o v fss (k + 1) = some (j, u)) := by
                show _ = _
                rw [HST.out]
                simp only [leadStep]
                rw [if_neg (fun h => hgt h.2)]
              go_wp2_with fail
              go_region_held (fun W => Hid (Below w1.heap.size w1 W) ∧ W.cell? ⟨w.heap.size, 0, none⟩ = some (.int .i64 p) ∧ W.cell? ⟨w.heap.size, 1, none⟩ = some (.int .i64 n) ∧ W.cell? ⟨w.heap.size, 2, none⟩ = some (.int .i64 o) ∧ W.cell? ⟨w.heap.size, 3, none⟩ = some (.int .i64 v) ∧ W.cell? ⟨b2, off2 + 1, none⟩ = some (.slice ea t.2.length ec) ∧ W.cell? ⟨b, off + m.toNat, none⟩ = some (.slice (some ⟨b4, off4, none⟩) (us.length + 1) gc) ∧ W.cell? ⟨b4, off4 + 1, none⟩ = some (.slice ea4 u.2.length ec4))
                (first | exact KEEP.out _ HB0.out | exact KEEP.out _ (HB0.out.trans (hb9.mono HB0.out.size)))
                (first | (go_at_call 69; refine (bareCompare_any p n o v _ _ t.2 u.2 _ HO.out ht0 ht3 HLL.out HTE.out.2 HUE.out.2 ?_ ?_).mono ?_; exact HSE.out.below HB0.out; exact HSU.out.below HB0.out; rintro e w9 ⟨rfl, hb9⟩))
              have HB9 := hid (show Below w1.heap.size w1 w9 from HB0.out.trans (hb9.mono HB0.out.size))
              clear hb9
              go_wp2_with fail
              go_roundw
              case rel => exact ⟨k + 1, by omega, by go_num, by rw [HS1.out, plc_some, HMJ.out], HB9.out⟩
              case measure => simp [intOf]; omega
    · have e : k = fss.length := by omega
      subst e
      go_wp2
      go_ret
      exact ⟨rfl, HBW.out.trans (HBR.out.mono HBW.out.size)⟩

end Go.Proofs.Ytkmjmmnnnbjghaa

/- Ahead of the reference. -/
namespace Go.Proofs.Ytkmjmmnnnbjghaa
set_option linter.unusedSimpArgs false
set_option linter.unusedVariables false
open Go.RowKit

def aheadB (o ov i : Int) (xs : List Int) (k : Int) (ys : List Int) : Bool := if ov = 2 ∧ i ≠ k then decide (i < k) else if sameB xs ys then decide (i < k) else moreB o xs ys

set_option maxRecDepth 100000 in
set_option maxHeartbeats 1000000 in
theorem ahead_any (p n o v i k : Int) (x y : Value) (xs ys : List Int) (w : World) (ho : o = 1 ∨ o = 2) (h0 : 0 < xs.length) (hm : xs.length ≤ 3) (hxy : xs.length = ys.length)
    (hbx : ∀ x ∈ xs, 0 ≤ x ∧ x ≤ 400) (hby : ∀ x ∈ ys, 0 ≤ x ∧ x ≤ 400) (hs : Sl w x xs) (hs2 : Sl w y ys) :
    Calls Try.prog 85 #[ringV p n o v, .int .i64 i, x, .int .i64 k, y] w fun e w' => e = .returned (.bool (aheadB o v i xs k ys)) ∧ Below w.heap.size w w' := by
  have HS := hid hs
  have HS2 := hid hs2
  have HO := hid ho
  have HXY := hid hxy
  have HBB := hid (And.intro hbx hby)
  obtain ⟨xa, xc, rfl, _⟩ := hs
  obtain ⟨ya, yc, rfl, _⟩ := hs2
  clear ho hxy hbx hby
  have HBN : Hid (∀ A, Below w.heap.size w (w.alloc A)) := fun A => below_oneG
  cases hc : ((v == 2) && (i != k))
  · have HE : Hid (aheadB o v i xs k ys = if sameB xs ys then decide (i < k) else moreB o xs ys) := by
      show _ = _
      unfold aheadB
      rw [if_neg]
      intro h
      have : ((v == 2) && (i != k)) = true := by simp [h.1, h.2]
      rw [hc] at this; simp at this
    rw [HE.out]
    have HTAIL : Hid (∀ (b : Bool), sameB xs ys = b → True) := fun _ _ => trivial
    cases hsm : sameB xs ys
    · have HE2 : Hid ((if false = true then decide (i < k) else moreB o xs ys) = moreB o xs ys) := by show _ = _; simp
      rw [HE2.out]
      cases hv : (v == 2)
      · go_enter Try.func85, Try.ntmps85
        go_wp2_with (first
          | (go_at_call 36; refine (sameInts_any _ _ xs ys _ hm (HS.out.below (HBN.out _)) (HS2.out.below (HBN.out _))).mono ?_; rw [hsm]; rintro e w1 ⟨rfl, hd1⟩; have HB1 := hid (below_ndraws (HBN.out _) hd1); have HBX := hid ((BoxAt.new w p n o v 39).below (below_ndraws (Below.refl _ _) hd1)); obtain ⟨_, bx0, bx1, bx2, bx3⟩ := HBX.out; clear hd1)
          | (go_at_call 71; refine (more_any p n o v _ _ xs ys _ HO.out h0 hm HXY.out HBB.out.1 HBB.out.2 (HS.out.below HB1.out) (HS2.out.below HB1.out)).mono ?_; rintro e w2 ⟨rfl, hb2⟩; have HB2 := hid (HB1.out.trans (hb2.mono HB1.out.size)); clear hb2))
        go_ret
        exact ⟨rfl, HB2.out⟩
      · have hik : (i != k) = false := by rw [hv] at hc; simpa using hc
        go_enter Try.func85, Try.ntmps85
        go_wp2_with (first
          | (go_at_call 36; refine (sameInts_any _ _ xs ys _ hm (HS.out.below (HBN.out _)) (HS2.out.below (HBN.out _))).mono ?_; rw [hsm]; rintro e w1 ⟨rfl, hd1⟩; have HB1 := hid (below_ndraws (HBN.out _) hd1); have HBX := hid ((BoxAt.new w p n o v 39).below (below_ndraws (Below.refl _ _) hd1)); obtain ⟨_, bx0, bx1, bx2, bx3⟩ := HBX.out; clear hd1)
          | (go_at_call 71; refine (more_any p n o v _ _ xs ys _ HO.out h0 hm HXY.out HBB.out.1 HBB.out.2 (HS.out.below HB1.out) (HS2.out.below HB1.out)).mono ?_; rintro e w2 ⟨rfl, hb2⟩; have HB2 := hid (HB1.out.trans (hb2.mono HB1.out.size)); clear hb2))
        go_ret
        exact ⟨rfl, HB2.out⟩
    · have HE2 : Hid ((if true = true then decide (i < k) else moreB o xs ys) = decide (i < k)) := by show _ = _; simp
      rw [HE2.out]
      cases hv : (v == 2)
      · go_enter Try.func85, Try.ntmps85
        go_wp2_with (go_at_call 36; refine (sameInts_any _ _ xs ys _ hm (HS.out.below (HBN.out _)) (HS2.out.below (HBN.out _))).mono ?_; rw [hsm]; rintro e w1 ⟨rfl, hd1⟩; have HB1 := hid (below_ndraws (HBN.out _) hd1); clear hd1)
        go_ret
        exact ⟨rfl, HB1.out⟩
      · have hik : (i != k) = false := by rw [hv] at hc; simpa using hc
        go_enter Try.func85, Try.ntmps85
        go_wp2_with (go_at_call 36; refine (sameInts_any _ _ xs ys _ hm (HS.out.below (HBN.out _)) (HS2.out.below (HBN.out _))).mono ?_; rw [hsm]; rintro e w1 ⟨rfl, hd1⟩; have HB1 := hid (below_ndraws (HBN.out _) hd1); clear hd1)
        go_ret
        exact ⟨rfl, HB1.out⟩
  · have hv : (v == 2) = true := by cases h : (v == 2) <;> simp_all
    have hik : (i != k) = true := by cases h : (i != k) <;> simp_all
    have HE : Hid (aheadB o v i xs k ys = decide (i < k)) := by
      show _ = _
      unfold aheadB
      rw [if_pos ⟨by simpa using hv, by simpa using hik⟩]
    rw [HE.out]
    clear hc
    go_enter Try.func85, Try.ntmps85
    go_wp2_with fail
    go_ret
    exact ⟨rfl, HBN.out _⟩

end Go.Proofs.Ytkmjmmnnnbjghaa

/- poly.Of. -/
namespace Go.Proofs.Ytkmjmmnnnbjghaa
set_option linter.unusedSimpArgs false
set_option linter.unusedVariables false
open Go.RowKit

theorem Try.infoPoly : (Try.prog.info? 54).map (fun i => (i.zero, i.size, i.bytes)) = some (some (.slice none 0 0), 1, 24) := by kernel_rfl

def errOf (p n o v : Int) (ts : List Tm) : Int := errTs p n o v ts.length (fun k => errTm 0 p n (ts.getD k noT))
theorem firstN_zero {E : Nat → Int} : ∀ (m k : Nat), firstN E m k = 0 → ∀ j, k ≤ j → j < k + m → E j = 0
  | 0, k, _, j, h1, h2 => by omega
  | m + 1, k, h, j, h1, h2 => by
    have hu : firstN E (m + 1) k = if E k ≠ 0 then E k else firstN E m (k + 1) := rfl
    rw [hu] at h
    by_cases hz : E k = 0
    · rw [if_neg (by simpa using hz)] at h
      rcases Nat.eq_or_lt_of_le h1 with rfl | hlt
      · exact hz
      · exact firstN_zero m (k + 1) h j (by omega) (by omega)
    · rw [if_pos hz] at h; exact absurd h hz
theorem errTm_ok {p n : Int} {t : Tm} (h : errTm 0 p n t = 0) : (0 ≤ t.1 ∧ t.1 < p) ∧ errM n t.2 = 0 := by
  unfold errTm at h
  split at h
  · omega
  · rename_i hc
    exact ⟨by omega, h⟩
theorem errOf_ok {p n o v : Int} {ts : List Tm} (h : errOf p n o v ts = 0) : errR p n o v = 0 ∧ ts.length ≤ 2000 ∧ ∀ t ∈ ts, (0 ≤ t.1 ∧ t.1 < p) ∧ errM n t.2 = 0 := by
  unfold errOf errTs at h
  by_cases hr : errR p n o v = 0
  · rw [if_neg (by simpa using hr)] at h
    by_cases hl : 2000 < ts.length
    · rw [if_pos hl] at h; omega
    · rw [if_neg hl] at h
      refine ⟨hr, by omega, fun t ht => ?_⟩
      obtain ⟨j, hj, rfl⟩ := List.getElem_of_mem ht
      have := firstN_zero _ _ h j (by omega) (by omega)
      rw [List.getD_eq_getElem?_getD, List.getElem?_eq_getElem hj] at this
      exact errTm_ok this
  · rw [if_pos hr] at h; exact absurd h hr
theorem of_right {p n o v : Int} {ts : List Tm} (h : errOf p n o v ts = 0) : (∀ t ∈ ts, Tok p n.toNat t) ∧ (∀ t ∈ ts, sumI t.2 ≤ 200) ∧ ts.length ≤ 2000 ∧ 0 < n.toNat ∧ n.toNat ≤ 3 ∧ (2 ≤ p ∧ p ≤ 101) ∧ (o = 1 ∨ o = 2) := by
  obtain ⟨hr, hl, hall⟩ := errOf_ok h
  obtain ⟨h1, h2, h3, h4, _⟩ := ring_ok hr
  refine ⟨fun t ht => ?_, fun t ht => (errM_ok (hall t ht).2).2.2, hl, by omega, by omega, errP_bd h1, h4⟩
  have hm := errM_ok (hall t ht).2
  exact ⟨by have := hm.1; omega, fun x hx => by have := hm.2.1 x hx; omega, (hall t ht).1⟩
/-- Those whose coefficient is not 0. -/
def nzT (ts : List Tm) : List Tm := ts.filter fun t => t.1 != 0
theorem nzT_snoc (ts : List Tm) (t : Tm) : nzT (ts ++ [t]) = if t.1 = 0 then nzT ts else nzT ts ++ [t] := by
  unfold nzT
  rw [List.filter_append]
  by_cases h : t.1 = 0
  · rw [if_pos h]; simp [h]
  · rw [if_neg h]; simp [h]
theorem lin_nzT (φ : List Int → Int) : ∀ ts : List Tm, lin φ (nzT ts) = lin φ ts
  | [] => rfl
  | t :: ts => by
    have ih := lin_nzT φ ts
    unfold nzT at ih ⊢
    by_cases h : t.1 = 0
    · rw [List.filter_cons_of_neg (by simp [h]), ih]; simp [lin, h]
    · rw [List.filter_cons_of_pos (by simp [h])]; simp only [lin]; rw [ih]
theorem col_nzT {p o : Int} {N : Nat} {ts : List Tm} (hp : 2 ≤ p) (h : ∀ t ∈ ts, Tok p N t) : colL p o (nzT ts) = colL p o ts := by
  have hm : ∀ t ∈ nzT ts, t ∈ ts := fun t ht => (List.mem_filter.1 ht).1
  refine col_of_canon hp (n := N) (fun t ht => (h t ht).1) (fun t ht => (h t ht).2.2) (col_canon hp (fun t ht => (h t (hm t ht)).1) (fun t ht => (h t (hm t ht)).2.2)) (fun φ => ?_)
  have := same_col p o (nzT ts) φ
  rwa [lin_nzT] at this
theorem of_great {p n o v : Int} {ts : List Tm} (h : errOf p n o v ts = 0) : greatB (colL p o ts) = false := by
  obtain ⟨_, h2, h3, _⟩ := of_right h
  rw [great_small (fun x hx => by
    obtain ⟨y, hy, e⟩ := col_mem hx
    rw [e]; exact h2 y hy)]
  have := col_len (p := p) (o := o) ts
  exact decide_eq_false (by omega)

/-- The list of polynomials of one term each, that Of makes. -/
structure Sing (w1 w : World) (sv : Value) (qs : List (TV × Value)) : Prop where
  own : w.ownsRow w1.heap.size 54 1 sv qs.length (qs.map Prod.snd)
  rows : ∀ q ∈ qs, w.ownsRow w1.heap.size 61 2 q.2 1 (flat [q.1])
  es : ∀ q ∈ qs, Sl w1 q.1.2.1 q.1.2.2
  below : Below w1.heap.size w1 w
theorem Sing.next {w1 w w' : World} {sv : Value} {qs : List (TV × Value)} (h : Sing w1 w sv qs) (hb : Below w.heap.size w w') : Sing w1 w' sv qs :=
  ⟨ownBlock_lt h.own hb, fun q hq => ownBlock_lt (h.rows q hq) hb, h.es, h.below.trans (hb.mono h.below.size)⟩
theorem Sing.snoc {w1 W W2 : World} {sv sv2 : Value} {qs : List (TV × Value)} {q : TV × Value} (h : Sing w1 W sv qs) (hq : W.ownsRow w1.heap.size 61 2 q.2 1 (flat [q.1])) (he : Sl w1 q.1.2.1 q.1.2.2)
    (h2 : W2.ownsRow w1.heap.size 54 1 sv2 (qs.length + 1) (qs.map Prod.snd ++ [q.2])) (g2 : W.grownBy W2 sv.ownBlock) : Sing w1 W2 sv2 (qs ++ [q]) := by
  have hT : (61 : TypeId) ≠ 54 := by decide
  refine ⟨by rw [List.length_append, List.map_append]; exact h2, fun r hr => ?_, fun r hr => ?_, own_grown h.own h.below g2 (Nat.le_refl _)⟩
  · rcases List.mem_append.1 hr with hr | hr
    · exact (h.rows r hr).kept g2 (own_neT hT (h.rows r hr) h.own)
    · rw [List.mem_singleton] at hr; subst hr
      exact hq.kept g2 (own_neT hT hq h.own)
  · rcases List.mem_append.1 hr with hr | hr
    · exact h.es r hr
    · rw [List.mem_singleton] at hr; subst hr; exact he
theorem Sing.vl {w1 w : World} {sv : Value} {qs : List (TV × Value)} (h : Sing w1 w sv qs) : Vl w sv (qs.map fun q => [tm q.1]) := by
  obtain ⟨a, c, rfl⟩ := own_sl h.own
  refine ⟨a, c, by rw [List.length_map], fun hp => ?_⟩
  rw [List.length_map] at hp
  obtain ⟨g, rfl, _, hlt, _⟩ := own_at1 h.own 0 hp
  refine ⟨g, 0, rfl, hlt, fun i hi => ?_⟩
  rw [List.length_map] at hi
  obtain ⟨g2, hg2, _, _, hc⟩ := own_at1 h.own i hi
  simp only [Option.some.injEq, Addr.mk.injEq, and_true] at hg2
  subst hg2
  have e : (qs.map fun q => [tm q.1]).getD i [] = [tm qs[i].1] := by simp [List.getD_eq_getElem?_getD, hi]
  rw [e]
  refine ⟨qs[i].2, by rw [Nat.zero_add, hc]; simp [hi], ?_⟩
  have hm : qs[i] ∈ qs := List.getElem_mem hi
  exact own_pl (ts := [qs[i].1]) (h.rows _ hm) (fun t ht => by
    rw [List.mem_singleton] at ht; subst ht
    exact (h.es _ hm).below h.below)
theorem flat_single : ∀ qs : List (TV × Value), (qs.map fun q => [tm q.1]).flatten = qs.map fun q => tm q.1
  | [] => rfl
  | q :: qs => by
    have ih := flat_single qs
    rw [List.map_cons, List.flatten_cons, ih, List.map_cons]; rfl
theorem made_term {w : World} {B : Nat} (hB : B ≤ w.heap.size) (c : Int) (ev : Value) : (w.alloc (.cells #[.int .i64 c, ev] 61)).ownsRow B 61 2 (.slice (some ⟨w.heap.size, 0, none⟩) 1 1) 1 [.int .i64 c, ev] :=
  ⟨by simp, .inr ⟨w.heap.size, 1, _, rfl, hB, heap_alloc_new w _, Nat.le_refl _, by decide, by simp, by simp⟩⟩

theorem one_sliceO (a : Option Addr) (n k : Nat) : ∀ u ∈ [Value.slice a n k], u.oneCell' = true := by
  intro u hu; simp at hu; subst hu; rfl

def ofR (p n o v : Int) (ts : List Tm) : List Tm := if errOf p n o v ts = 0 then colL p o ts else []

end Go.Proofs.Ytkmjmmnnnbjghaa

/- LeadOf of the reference. -/
namespace Go.Proofs.Ytkmjmmnnnbjghaa
set_option linter.unusedSimpArgs false
set_option linter.unusedVariables false
open Go.RowKit

def ldC : Ld → Int
  | none => 0
  | some (_, u) => u.1
def ldE : Ld → List Int
  | none => []
  | some (_, u) => u.2
/-- What is known while the terms of the i-th polynomial are looked at. -/
def stM (o ov : Int) (st : Ld) (i : Nat) (f : List Tm) (m : Nat) : Ld := if m = 0 then st else leadStep o ov st i f
theorem stM_zero (o ov : Int) (st : Ld) (i : Nat) (f : List Tm) : stM o ov st i f 0 = st := rfl
theorem stM_all (o ov : Int) (st : Ld) (i : Nat) (f : List Tm) : stM o ov st i f f.length = leadStep o ov st i f := by
  unfold stM
  cases f with
  | nil => simp [leadStep]
  | cons t ts => rw [if_neg (by simp)]
theorem stM_none {o ov : Int} {st : Ld} {i : Nat} {f : List Tm} {m : Nat} (hm : m < f.length) (h : stM o ov st i f m = none) : stM o ov st i f (m + 1) = some (i, f.getD m noT) := by
  cases f with
  | nil => simp at hm
  | cons t ts =>
    rcases m with _ | m
    · rw [stM_zero] at h
      subst h
      simp [stM, leadStep]
    · unfold stM at h
      rw [if_neg (by omega)] at h
      simp only [leadStep] at h
      split at h
      · simp at h
      · split at h <;> simp at h
theorem stM_some {o ov : Int} {N : Nat} {st : Ld} {i : Nat} {f : List Tm} {m j : Nat} {u : Tm} (hov : ov = 1 ∨ ov = 2) (hf : Falls o f) (hl : Len N f) (hm : m < f.length) (hst : ∀ j' u', st = some (j', u') → j' < i ∧ u'.2.length = N) (h : stM o ov st i f m = some (j, u)) :
    stM o ov st i f (m + 1) = if aheadB o ov i (f.getD m noT).2 j u.2 then some (i, f.getD m noT) else some (j, u) := by
  cases f with
  | nil => simp at hm
  | cons t ts =>
    rcases m with _ | m
    · rw [stM_zero] at h
      subst h
      obtain ⟨hj, hu⟩ := hst j u rfl
      have htl : t.2.length = u.2.length := by rw [hl t (by simp), hu]
      have hl2 : stM o ov (some (j, u)) i (t :: ts) 1 = if ov = 1 ∧ 0 < ordS o t.2 u.2 then some (i, t) else some (j, u) := by unfold stM; rw [if_neg (by omega)]; rfl
      have hg : (t :: ts).getD 0 noT = t := rfl
      rw [hl2, hg]
      unfold aheadB
      rcases hov with rfl | rfl
      · rw [if_neg (show ¬ ((1 : Int) = 2 ∧ (i : Int) ≠ j) by omega)]
        by_cases he : t.2 = u.2
        · have hz : ordS o t.2 u.2 = 0 := (ordS_zero o t.2 u.2 htl).2 he
          rw [if_neg (by rw [hz]; omega), if_pos (show sameB t.2 u.2 = true from decide_eq_true he), decide_eq_false (show ¬ (i : Int) < j by omega)]; simp
        · rw [if_neg (show ¬ sameB t.2 u.2 = true by unfold sameB; simpa using he)]
          unfold moreB
          by_cases hp : 0 < ordS o t.2 u.2
          · rw [if_pos ⟨rfl, hp⟩, decide_eq_true hp]; rfl
          · rw [if_neg (fun h => hp h.2), decide_eq_false hp]; rfl
      · rw [if_neg (show ¬ ((2 : Int) = 1 ∧ 0 < ordS o t.2 u.2) by omega), if_pos (show (2 : Int) = 2 ∧ (i : Int) ≠ j by omega), decide_eq_false (show ¬ (i : Int) < j by omega)]; simp
    · have h1 : stM o ov st i (t :: ts) (m + 1 + 1) = some (j, u) := by
        unfold stM at h ⊢
        rw [if_neg (by omega)] at h ⊢
        exact h
      rw [h1]
      have hm2 : m < ts.length := by simpa using hm
      have hg : (t :: ts).getD (m + 1) noT = ts.getD m noT := rfl
      rw [hg]
      have hmem : ts.getD m noT ∈ ts := getD_memT ts m hm2
      have hlt := hf.1 _ hmem
      have hxl : (ts.getD m noT).2.length = N := hl _ (List.mem_cons_of_mem _ hmem)
      have htN : t.2.length = N := hl t (by simp)
      generalize ts.getD m noT = x at hlt hxl
      have hanti : ¬ 0 < ordS o x.2 t.2 := by rw [ordS_neg]; omega
      have hne : x.2 ≠ t.2 := by
        intro e
        have := (ordS_zero o t.2 x.2 (by omega)).2 e.symm
        omega
      have hb : aheadB o ov i x.2 j u.2 = false := by
        unfold stM at h
        rw [if_neg (by omega)] at h
        simp only [leadStep] at h
        have key : ∀ {j' : Nat} {u' : Tm}, j' = i ∧ u' = t → aheadB o ov i x.2 j' u'.2 = false := by
          rintro j' u' ⟨rfl, rfl⟩
          unfold aheadB
          rw [if_neg (fun h => h.2 rfl), if_neg (show ¬ sameB x.2 u'.2 = true by unfold sameB; simpa using hne)]
          unfold moreB
          exact decide_eq_false hanti
        split at h
        · simp only [Option.some.injEq, Prod.mk.injEq] at h
          exact key ⟨h.1.symm, h.2.symm⟩
        · rename_i j0 u0
          split at h
          · simp only [Option.some.injEq, Prod.mk.injEq] at h
            exact key ⟨h.1.symm, h.2.symm⟩
          · rename_i hno
            simp only [Option.some.injEq, Prod.mk.injEq] at h
            obtain ⟨rfl, rfl⟩ := h
            obtain ⟨hj, hu⟩ := hst j0 u0 rfl
            unfold aheadB
            rcases hov with rfl | rfl
            · rw [if_neg (show ¬ ((1 : Int) = 2 ∧ (i : Int) ≠ j0) by omega)]
              split
              · exact decide_eq_false (by omega)
              · unfold moreB
                refine decide_eq_false (fun hp => hno ⟨rfl, ordS_trans o t.2 x.2 u0.2 (by omega) (by omega) hlt hp⟩)
            · rw [if_pos (show (2 : Int) = 2 ∧ (i : Int) ≠ j0 by omega)]
              exact decide_eq_false (by omega)
      rw [hb]; simp

/-- The worlds of LeadOf: the ring, the answer's cell, the term so far. -/
structure LdW (w wr : World) (p n o v : Int) (st : Ld) : Prop where
  below : Below w.heap.size w wr
  box : BoxAt wr w.heap.size p n o v
  res : wr.ownsRow w.heap.size 61 2 (.slice (some ⟨w.heap.size + 1, 0, none⟩) 1 1) 1 [.int .i64 0, .slice none 0 0]
  own : ∃ ea ec, wr.ownsRow w.heap.size 61 2 (.slice (some ⟨w.heap.size + 1 + 1, 0, none⟩) 1 1) 1 [.int .i64 (ldC st), .slice ea (ldE st).length ec] ∧ Sl w (.slice ea (ldE st).length ec) (ldE st)
theorem LdW.next {w wr w' : World} {p n o v : Int} {st : Ld} (h : LdW w wr p n o v st) (hb : Below wr.heap.size wr w') : LdW w w' p n o v st := by
  obtain ⟨ea, ec, h1, h2⟩ := h.own
  exact ⟨h.below.trans (hb.mono h.below.size), h.box.below hb, ownBlock_lt h.res hb, ea, ec, ownBlock_lt h1 hb, h2⟩
theorem LdW.put {w wr : World} {p n o v : Int} {st : Ld} (h : LdW w wr p n o v st) (i : Nat) (t : Tm) (ea : Option Addr) (ec : Nat) (hs : Sl w (.slice ea t.2.length ec) t.2) :
    LdW w ((wr.setCell ⟨w.heap.size + 1 + 1, 0, none⟩ (.int .i64 t.1)).setCell ⟨w.heap.size + 1 + 1, 1, none⟩ (.slice ea t.2.length ec)) p n o v (some (i, t)) := by
  obtain ⟨ea0, ec0, h1, _⟩ := h.own
  have s1 := h1.stored 0 (.int .i64 t.1)
  have s2 := s1.1.stored 1 (.slice ea t.2.length ec)
  have hg := grown_trans s1.2 s2.2
  have hlt := h.box.1
  refine ⟨h.below.trans (grown_below hg (by omega) h.below.size), ?_, h.res.kept hg (Or.inr (by simp [Value.ownBlock])), ea, ec, ?_, hs⟩
  · have far := fun o => cell_far (o := o) hg hlt (show w.heap.size ≠ w.heap.size + 1 + 1 by omega)
    obtain ⟨_, b0, b1, b2, b3⟩ := h.box
    exact ⟨Nat.lt_of_lt_of_le hlt hg.size, by rw [far]; exact b0, by rw [far]; exact b1, by rw [far]; exact b2, by rw [far]; exact b3⟩
  · have := s2.1
    simpa [ldC, ldE] using this

end Go.Proofs.Ytkmjmmnnnbjghaa
