/- combinePlace of the program. -/
import Derived.Test.YtilogbggilchaaaWV
namespace Go.Proofs.Ytilogbggilchaaa
set_option linter.unusedSimpArgs false
set_option linter.unusedVariables false
open Go.RowKit
set_option maxRecDepth 100000 in
set_option maxHeartbeats 2000000 in
theorem combinePlace_any (p n o v : Int) (N R q : Nat) (x y : Value) (cs : List (List Tm)) (vss : List (List (List Tm))) (w : World) (hp : 2 ≤ p ∧ p ≤ 101) (ho : o = 1 ∨ o = 2) (hN0 : 0 < N) (hN : N ≤ 3) (hA : AllR p o N R cs vss) (hm : vss.length ≤ 60) (hq : q < R) (hcur : ∀ i, i < vss.length → cur p n o v [cs.getD i [], (vss.getD i []).getD q []] = 0) (pc : Vl w x cs) (pv : Wl w y vss) :
    Calls Try.prog 47 #[ringV p n o v, x, y, .int .i64 (q : Int)] w fun e w' => ∃ u, e = .returned (.tuple #[u, .int .i64 (cmE p o cs vss vss.length q)]) ∧ Pl w' u (cmR p o cs vss vss.length q) ∧ Below w.heap.size w w' := by
  have HX := hid pc
  have HY := hid pv
  have HA := hid hA
  have HP := hid hp
  have HO := hid ho
  have HCU := hid hcur
  have HT := hid (tells p n o v)
  have HNN := hid (And.intro hN0 hN)
  obtain ⟨ax, cx, rfl, _⟩ := pc
  obtain ⟨ay, cy, rfl, _⟩ := pv
  obtain ⟨w1, hw1⟩ : ∃ w1, w1 = w.alloc (.cells #[.int .i64 p, .int .i64 n, .int .i64 o, .int .i64 v] 23) := ⟨_, rfl⟩
  have HBX : Hid (BoxAt w1 w.heap.size p n o v) := by rw [hw1]; exact BoxAt.new w p n o v _
  have HBW : Hid (Below w.heap.size w w1) := by rw [hw1]; exact below_oneG
  have hs1 : Hid (w1.heap.size = w.heap.size + 1) := by show _ = _; rw [hw1]; simp
  obtain ⟨i0, hi, hz0, hz1, hz2⟩ := info_parts Try.infoPolyW
  have HI := hid (And.intro hi (And.intro hz0 (And.intro hz1 hz2)))
  clear hA hp ho hcur hN0 hN hi hz0 hz1 hz2
  go_enter Try.func47, Try.ntmps47
  go_wp2_with (at_make; rw [← hw1]; refine wpList_make_full _ rfl _ _ 26 rfl w1.heap.size 25 i0 _ 1 Try.underlying26 HI.out.1 HI.out.2.1 HI.out.2.2.1 .i64 .i64 _ _ vss.length rfl rfl rfl rfl (by rw [HI.out.2.2.2]; omega) (by unfold maxLen; omega) (Nat.le_refl _) ?_; intro w2 hown hgrow; have HV0 := hid (VHalf.made hown hgrow); clear hown hgrow)
  clear hw1
  go_loopw [21] (fun i wr => ∃ (k : Nat) (us : List Value), k ≤ vss.length ∧ i = .int .i64 k ∧ us.length = k ∧ (∀ j, j < k → greatB (prK p o cs vss q j) = false) ∧ VHalf w1 wr (w.heap.size + 1) vss.length us ((List.range k).map (prK p o cs vss q))) (fun i _ => vss.length - (intOf i).toNat)
  case atStart =>
    have h0 := HV0.out
    rw [hs1.out] at h0
    exact ⟨0, [], Nat.zero_le _, rfl, rfl, fun j hj => by omega, h0⟩
  case round =>
    clear HV0
    obtain ⟨k, us, hk, rfl, hul, hz, hv⟩ := hrel
    have HZ := hid hz
    have HV := hid hv
    have HUL := hid hul
    clear hz hv hul
    by_cases hk2 : k < vss.length
    · have hk3 : k < cs.length := by rw [HA.out.l]; exact hk2
      have hkI : (k : Int) < (cs.length : Int) := by omega
      obtain ⟨b, off, fa, fc, rfl, hlt, c0, hpf⟩ := vl_at HX.out k hk3
      obtain ⟨b2, off2, va, vc, rfl, hlt2, d0, hpv⟩ := wl_at HY.out k hk2
      have hvl := (HA.out.v _ (getD_memV vss k hk2)).1
      obtain ⟨b3, off3, ga, gc, rfl, hlt3, e0, hpg⟩ := vl_at hpv q (by rw [hvl]; exact hq)
      have d1 := cell_keep (cell_keep d0 HBW.out) HV.out.below
      rw [hvl] at d0 d1
      have HCK := hid (HCU.out k hk2)
      have HPK : Hid (prK p o cs vss q k = colL p o (prodL p (cs.getD k []) ((vss.getD k []).getD q []))) := rfl
      have HGR := hid (fun h => cm_great (p := p) (o := o) (cs := cs) (vss := vss) (m := vss.length) (k := q) (i := k) hk2 h)
      have HNX : Hid (greatB (prK p o cs vss q k) = false → ∀ j, j < k + 1 → greatB (prK p o cs vss q j) = false) := fun h j hj => by
        by_cases h2 : j < k
        · exact HZ.out j h2
        · have e : j = k := by omega
          subst e; exact h
      have HRS := hid (range_snoc (prK p o cs vss q) k)
      generalize prK p o cs vss q k = z at HPK HGR HNX HRS
      generalize cs.getD k [] = c at c0 hpf HCK HPK
      generalize (vss.getD k []).getD q [] = f at e0 hpg HCK HPK
      obtain ⟨_, bx0, bx1, bx2, bx3⟩ := HBX.out
      have KEEP : Hid (∀ W, Below w1.heap.size w1 W → (Hid (Below w1.heap.size w1 W) ∧ W.cell? ⟨w.heap.size, 0, none⟩ = some (.int .i64 p) ∧ W.cell? ⟨w.heap.size, 1, none⟩ = some (.int .i64 n) ∧ W.cell? ⟨w.heap.size, 2, none⟩ = some (.int .i64 o) ∧ W.cell? ⟨w.heap.size, 3, none⟩ = some (.int .i64 v) ∧ W.cell? ⟨b, off + k, none⟩ = some (.slice fa c.length fc) ∧ W.cell? ⟨b3, off3 + q, none⟩ = some (.slice ga f.length gc))) :=
        fun W hb => ⟨hb, cell_keep bx0 hb, cell_keep bx1 hb, cell_keep bx2 hb, cell_keep bx3 hb, cell_keep (cell_keep c0 HBW.out) hb, cell_keep (cell_keep e0 HBW.out) hb⟩
      have HPF := hid (hpf.below HBW.out)
      have HPG := hid (hpg.below HBW.out)
      have HB0 : Hid (Below w1.heap.size w1 wr.drew) := HV.out.below.drew
      have HVD : Hid (VHalf w1 wr.drew (w.heap.size + 1) vss.length us ((List.range k).map (prK p o cs vss q))) := HV.out.next ((Below.refl _ _).drew)
      clear bx0 bx1 bx2 bx3 c0 d0 e0 hpf hpg hpv hvl
      cases hg : greatB z
      · have HMU : Hid (mulE 0 p o c f = 0 ∧ mulR 0 p o c f = z) := by rw [HPK.out]; exact mulE_no rfl (by rw [← HPK.out]; exact hg)
        have HN2 := hid (HNX.out hg)
        clear hg
        go_wp2_with fail
        go_region_held (fun W => Hid (Below w1.heap.size w1 W) ∧ W.cell? ⟨w.heap.size, 0, none⟩ = some (.int .i64 p) ∧ W.cell? ⟨w.heap.size, 1, none⟩ = some (.int .i64 n) ∧ W.cell? ⟨w.heap.size, 2, none⟩ = some (.int .i64 o) ∧ W.cell? ⟨w.heap.size, 3, none⟩ = some (.int .i64 v) ∧ W.cell? ⟨b, off + k, none⟩ = some (.slice fa c.length fc) ∧ W.cell? ⟨b3, off3 + q, none⟩ = some (.slice ga f.length gc))
          (first | exact KEEP.out _ HB0.out | exact KEEP.out _ HB9.out)
          (first | (go_at_call 29; refine (polyMul_any p n o v _ HT.out _ _ c f _ ?_ ?_).mono ?_; exact HPF.out.below HB0.out; exact HPG.out.below HB0.out; rw [HCK.out, HMU.out.1, HMU.out.2]; rintro e w9 ⟨u9, rfl, hu9, hb9⟩; have HU9 := hid hu9; have HV9 := hid (HVD.out.next hb9); have HB9 := hid (show Below w1.heap.size w1 w9 from HB0.out.trans (hb9.mono HB0.out.size)); obtain ⟨ua9, uc9, rfl, _, _⟩ := hu9; obtain ⟨ov, x0, x1⟩ := HV9.out.cells (by have := HUL.out; omega); rw [HUL.out] at x0 x1; clear hb9))
        go_wp2
        go_roundw
        case rel =>
          refine ⟨k + 1, us ++ [.slice ua9 z.length uc9], by omega, by go_num, by rw [len_snoc, HUL.out], HN2.out, ?_⟩
          rw [HRS.out]
          have h := HV9.out.put (by have := HUL.out; omega) _ _ HU9.out
          rw [HUL.out] at h
          exact h
        case measure => simp [intOf]; omega
      · have HMU : Hid (mulE 0 p o c f = 2 ∧ mulR 0 p o c f = []) := mulE_yes rfl (by rw [← HPK.out]; exact hg)
        have HG2 := hid (HGR.out hg)
        clear hg
        go_wp2_with fail
        go_region_held (fun W => Hid (Below w1.heap.size w1 W) ∧ W.cell? ⟨w.heap.size, 0, none⟩ = some (.int .i64 p) ∧ W.cell? ⟨w.heap.size, 1, none⟩ = some (.int .i64 n) ∧ W.cell? ⟨w.heap.size, 2, none⟩ = some (.int .i64 o) ∧ W.cell? ⟨w.heap.size, 3, none⟩ = some (.int .i64 v) ∧ W.cell? ⟨b, off + k, none⟩ = some (.slice fa c.length fc) ∧ W.cell? ⟨b3, off3 + q, none⟩ = some (.slice ga f.length gc))
          (first | exact KEEP.out _ HB0.out | exact KEEP.out _ HB9.out)
          (first | (go_at_call 29; refine (polyMul_any p n o v _ HT.out _ _ c f _ ?_ ?_).mono ?_; exact HPF.out.below HB0.out; exact HPG.out.below HB0.out; rw [HCK.out, HMU.out.1, HMU.out.2]; rintro e w9 ⟨u9, rfl, hu9, hb9⟩; have HB9 := hid (show Below w1.heap.size w1 w9 from HB0.out.trans (hb9.mono HB0.out.size)); obtain ⟨ua9, uc9, rfl, _, _⟩ := hu9; clear hb9))
        go_wp2
        go_ret2
        refine ⟨.slice none 0 0, by rw [HG2.out.1]; rfl, ?_, HBW.out.trans (HB9.out.mono HBW.out.size)⟩
        rw [HG2.out.2]
        exact Pl.empty _
    · have e : k = vss.length := by omega
      subst e
      have HD := hid (HV.out.done HUL.out)
      have HLN : Hid ((prKs p o cs vss q vss.length).length = vss.length) := by show _ = _; unfold prKs; rw [List.length_map, List.length_range]
      have HPF : Hid (∀ f ∈ (List.range vss.length).map (prK p o cs vss q), Canon p o N f ∧ Bd f ∧ f.length ≤ 2000) := fun f hf => by
        obtain ⟨i, hi, rfl⟩ := prKs_mem hf
        have h1 := HA.out.pr HP.out.1 (k := q) (i := i) hi hq
        exact ⟨h1.1, h1.2, great_le (HZ.out i hi)⟩
      obtain ⟨_, bx0, bx1, bx2, bx3⟩ := HBX.out.below HV.out.below
      have HBN := hid (HBW.out.trans (HV.out.below.mono HBW.out.size))
      have HLO := hid (fun h => cm_long (p := p) (o := o) (cs := cs) (vss := vss) (m := vss.length) (k := q) h)
      have HOK := hid (fun h => cm_ok (p := p) (o := o) (cs := cs) (vss := vss) (m := vss.length) (k := q) HZ.out h)
      have HSU : Hid (∀ W, Below wr.heap.size wr W → Calls Try.prog 61 #[ringV p n o v, .slice (some ⟨w.heap.size + 1, 0, none⟩) vss.length vss.length] W fun e w' => ∃ u, e = .returned u ∧ Pl w' u (colL p o (prKs p o cs vss q vss.length).flatten) ∧ Below W.heap.size W w') := fun W hb =>
        bareSum_any p n o v N 2000 _ _ W HP.out HO.out HNN.out.1 HNN.out.2 HPF.out (by rw [HLN.out]; omega) (by rw [HLN.out]; omega) (HD.out.below hb)
      generalize colL p o (prKs p o cs vss q vss.length).flatten = s at HSU HLO HOK
      by_cases hl : 2000 < s.length
      · have HL2 := hid (HLO.out hl)
        have hlI : (2000 : Int) < (s.length : Int) := by omega
        go_wp2_with (go_at_call 61; refine (HSU.out _ (Below.refl _ _)).mono ?_; rintro e w8 ⟨u8, rfl, hu8, hb8⟩; have HB8 := hid (HBN.out.trans (hb8.mono HBN.out.size)); obtain ⟨ua8, uc8, rfl, _, _⟩ := hu8; clear hb8)
        go_ret2
        refine ⟨.slice none 0 0, by rw [HL2.out.1]; rfl, ?_, HB8.out⟩
        rw [HL2.out.2]
        exact Pl.empty _
      · have HL2 := hid (HOK.out hl)
        have hlI : ¬ (2000 : Int) < (s.length : Int) := by omega
        go_wp2_with (go_at_call 61; refine (HSU.out _ (Below.refl _ _)).mono ?_; rintro e w8 ⟨u8, rfl, hu8, hb8⟩; have HU8 := hid hu8; have HB8 := hid (HBN.out.trans (hb8.mono HBN.out.size)); obtain ⟨ua8, uc8, rfl, _, _⟩ := hu8; clear hb8)
        go_ret2
        exact ⟨_, by rw [HL2.out.1]; rfl, by rw [HL2.out.2]; exact HU8.out, HB8.out⟩
end Go.Proofs.Ytilogbggilchaaa
