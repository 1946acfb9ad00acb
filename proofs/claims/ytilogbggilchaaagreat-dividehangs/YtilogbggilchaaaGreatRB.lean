/- Collect of the reference, walked. -/
import Derived.Test.YtilogbggilchaaaGreatRA
namespace Go.Proofs.YtilogbggilchaaaGreat
set_option linter.unusedSimpArgs false
set_option linter.unusedVariables false
open Go.RowKit
set_option maxRecDepth 100000 in
set_option maxHeartbeats 2000000 in
theorem collect_fp (Φ : Value → Prop) (p n o v : Int) (N : Nat) (a : Option Addr) (lcap : Nat) (us : List TV) (ts : List Tm) (w : World) (hp : 2 ≤ p ∧ p ≤ 101) (ho : o = 1 ∨ o = 2) (hN0 : 0 < N) (hN : N ≤ 3) (hts : ∀ t ∈ ts, Tok p N t) (hm : ts.length ≤ 1200000000000) (hlc : us.length ≤ lcap) (hus : us.map tm = ts) (hes : Es w us)
    (hcs : 0 < us.length → ∃ b off, a = some ⟨b, off, none⟩ ∧ b < w.heap.size ∧ ∀ j u, (flat us)[j]? = some u → w.cell? ⟨b, off + j, none⟩ = some u) (hph : ∀ t ∈ us, Φ t.2.1) :
    Calls Tryz.prog 73 #[ringV p n o v, .slice a us.length lcap] w fun e w' => ∃ u ls, e = .returned u ∧ w'.ownsRow w.heap.size 57 2 u ls.length (flat ls) ∧ Es w' ls ∧ ls.map tm = colL p o ts ∧ (∀ t ∈ ls, Φ t.2.1) ∧ Below w.heap.size w w' := by
  have hul : us.length = ts.length := by rw [← hus, List.length_map]
  have HPS := hid hph
  have HUS := hid hus
  have HES := hid hes
  have HCS := hid hcs
  have HTS := hid hts
  have HO := hid ho
  obtain ⟨hp1, hp2⟩ := hp
  have hm' : us.length ≤ 1200000000000 := by omega
  clear hus hes hcs hts hm hul ho hph
  obtain ⟨i0, hi, hz0, hz1, hz2⟩ := info_parts Tryz.infoTerm
  have HI := hid (And.intro hi (And.intro hz0 (And.intro hz1 hz2)))
  clear hi hz0 hz1 hz2
  obtain ⟨w1, hw1⟩ : ∃ w1, w1 = w.alloc (.cells #[.int .i64 p, .int .i64 n, .int .i64 o, .int .i64 v] 23) := ⟨_, rfl⟩
  have hbx : BoxAt w1 w.heap.size p n o v := by rw [hw1]; exact BoxAt.new w p n o v _
  have hbw : Below w.heap.size w w1 := by rw [hw1]; exact below_oneG
  have HBX := hid hbx
  have HBW := hid hbw
  clear hbx hbw
  go_enter Tryz.func73, Tryz.ntmps73
  go_wp2_with fail
  rw [← hw1]
  clear hw1
  go_loopw [5, 6] (fun z i wr => ∃ (k : Nat) (outs : List TV), k ≤ us.length ∧ i = .int .i64 k ∧ Col Φ p o w1 wr ts k z outs) (fun _ i _ => us.length - (intOf i).toNat)
  case atStart => exact ⟨0, [], Nat.zero_le _, rfl, World.ownsRow_nil _ _ _ _, fun t ht => by simp at ht, Below.refl _ _, by simp, fun _ => rfl, fun t ht => by simp at ht⟩
  case round =>
    obtain ⟨wo, hwo⟩ : ∃ wo : World, wo = wr := ⟨_, rfl⟩
    subst hwo
    obtain ⟨k, outs, hk, rfl, hcol⟩ := hrel
    have HC := hid hcol
    clear hcol
    by_cases hk2 : k < us.length
    · obtain ⟨b, off, rfl, hlt, hcell⟩ := HCS.out (by omega)
      have hlt1 : b < w1.heap.size := Nat.lt_of_lt_of_le hlt HBW.out.size
      have hf := flat_at us k hk2
      have c0 := hcell _ _ hf.1
      have c1 := hcell _ _ hf.2
      have HDN := hid (HBW.out.trans (HC.out.below.mono HBW.out.size))
      rw [← HDN.out.cell (p := ⟨b, off + k * 2, none⟩) hlt] at c0
      rw [← Nat.add_assoc, ← HDN.out.cell (p := ⟨b, off + k * 2 + 1, none⟩) hlt] at c1
      have HSL := hid ((HES.out _ (tv_mem us k hk2)).below HBW.out)
      have HPH := hid (HPS.out _ (tv_mem us k hk2))
      have HT := hid (HTS.out (tm (us.getD k noTV)) (by rw [← HUS.out]; exact List.mem_map_of_mem (tv_mem us k hk2)))
      have HTK : Hid (ts.take (k + 1) = ts.take k ++ [tm (us.getD k noTV)]) := by
        show _ = _
        rw [← HUS.out, ← List.map_take, take_tm us k hk2, List.map_take]
      generalize us.getD k noTV = t at c0 c1 HSL HT HTK HPH
      obtain ⟨tc, tv, te⟩ := t
      obtain ⟨ea, ec, he, _⟩ := HSL.out
      simp only at c0 c1 he
      subst he
      have hol : outs.length ≤ 1200000000000 := by have := HC.out.len; omega
      clear hf hcell
      have HTOK := hid (HC.out.tok hp1 HTS.out)
      obtain ⟨va, vc, hvv⟩ := own_sl' HC.out.own
      subst hvv
      have hte0 : 0 < te.length := by have := HT.out.1; simp only [tm] at this; omega
      have hte3 : te.length ≤ 3 := by have := HT.out.1; simp only [tm] at this; omega
      go_upto_block 2 with fail
      go_cut [7] (fun s7 wx => ∃ j : Nat, j ≤ outs.length ∧ s7 = .int .i64 j ∧ (∀ u ∈ outs.take j, 0 < ordS o u.2.2 te) ∧ (j < outs.length → ¬ 0 < ordS o (outs.getD j noTV).2.2 te) ∧ Below wo.heap.size wo wx)
      case first =>
        go_wp2_with fail
        go_loopw [7] (fun s7 wx => ∃ j : Nat, j ≤ outs.length ∧ s7 = .int .i64 j ∧ (∀ u ∈ outs.take j, 0 < ordS o u.2.2 te) ∧ Below wo.heap.size wo wx) (fun s7 _ => outs.length - (intOf s7).toNat)
        case atStart => exact ⟨0, Nat.zero_le _, rfl, by simp, Below.refl _ _⟩
        case round =>
          obtain ⟨j, hj, rfl, hmore, hbr⟩ := hrel
          have HMO := hid hmore
          have HBR := hid hbr
          clear hmore hbr
          by_cases hj2 : j < outs.length
          · obtain ⟨g, cap, hv, hcap, hg1, hg2, hfr, hcl⟩ := HC.out.at (by omega)
            simp only [Value.slice.injEq, true_and] at hv
            obtain ⟨rfl, rfl⟩ := hv
            have d1 := hcl _ _ (flat_at outs j hj2).2
            have HS2 := hid ((HC.out.es _ (tv_mem outs j hj2)).below (HC.out.below.trans (HBR.out.mono HC.out.below.size)))
            have HO2 := hid (HTOK.out _ (tv_mem outs j hj2))
            have HTK2 : Hid (∀ u ∈ outs.take (j + 1), u ∈ outs.take j ∨ u = outs.getD j noTV) := by
              intro u hu
              rw [List.take_succ_eq_append_getElem hj2, List.mem_append, List.mem_singleton] at hu
              rcases hu with hu | hu
              · exact Or.inl hu
              · right; rw [hu, List.getD_eq_getElem?_getD, List.getElem?_eq_getElem hj2]; rfl
            generalize hgd : outs.getD j noTV = ot at d1 HS2 HO2 HTK2
            have HGD := hid hgd
            clear hgd
            obtain ⟨oc, ov, oe⟩ := ot
            obtain ⟨oa, oc2, hoe, _⟩ := HS2.out
            simp only at d1 hoe
            subst hoe
            have HLL : Hid (oe.length = te.length) := HO2.out.1.trans HT.out.1.symm
            have hoe0 : 0 < oe.length := by have := HLL.out; omega
            have hoe3 : oe.length ≤ 3 := by have := HLL.out; omega
            have bx := (HBX.out.below HC.out.below).below HBR.out
            obtain ⟨_, bx0, bx1, bx2, bx3⟩ := bx
            have d1' := cell_keep d1 HBR.out
            have c1' := cell_keep c1 HBR.out
            have HST := hid (HSL.out.below (HC.out.below.trans (HBR.out.mono HC.out.below.size)))
            have KEEP : Hid (∀ W, Below wr.heap.size wr W → (Hid (Below wr.heap.size wr W) ∧ W.cell? ⟨w.heap.size, 0, none⟩ = some (.int .i64 p) ∧ W.cell? ⟨w.heap.size, 1, none⟩ = some (.int .i64 n) ∧ W.cell? ⟨w.heap.size, 2, none⟩ = some (.int .i64 o) ∧ W.cell? ⟨w.heap.size, 3, none⟩ = some (.int .i64 v) ∧ W.cell? ⟨g, j * 2 + 1, none⟩ = some (.slice oa oe.length oc2) ∧ W.cell? ⟨b, off + k * 2 + 1, none⟩ = some (.slice ea te.length ec))) :=
              fun W hb => ⟨hb, cell_keep bx0 hb, cell_keep bx1 hb, cell_keep bx2 hb, cell_keep bx3 hb, cell_keep d1' hb, cell_keep c1' hb⟩
            clear bx0 bx1 bx2 bx3 d1 d1' c1' hcl
            go_wp2_with fail
            go_region_held (fun W => Hid (Below wr.heap.size wr W) ∧ W.cell? ⟨w.heap.size, 0, none⟩ = some (.int .i64 p) ∧ W.cell? ⟨w.heap.size, 1, none⟩ = some (.int .i64 n) ∧ W.cell? ⟨w.heap.size, 2, none⟩ = some (.int .i64 o) ∧ W.cell? ⟨w.heap.size, 3, none⟩ = some (.int .i64 v) ∧ W.cell? ⟨g, j * 2 + 1, none⟩ = some (.slice oa oe.length oc2) ∧ W.cell? ⟨b, off + k * 2 + 1, none⟩ = some (.slice ea te.length ec))
              (first | exact KEEP.out _ (Below.refl _ _).drew | exact KEEP.out _ (below_step (by assumption) hb9 (Nat.le_refl _)))
              (first | (go_at_call 107; refine (more_any p n o v _ _ oe te _ HO.out hoe0 hoe3 HLL.out HO2.out.2.1 HT.out.2.1 ?_ ?_).mono ?_; exact HS2.out.below (Below.refl _ _).drew; exact HST.out.below (Below.refl _ _).drew; rintro e w9 ⟨rfl, hb9⟩))
            have hb19 : Below wr.heap.size wr w9 := Hid.out (And.left (by assumption))
            have HB9 := hid (HBR.out.trans (hb19.mono HBR.out.size))
            clear hb9 hb19 KEEP
            cases hmb : moreB o oe te
            · go_wp2_with fail
              go_meet
              case rel => exact ⟨j, hj, rfl, HMO.out, fun _ => by rw [HGD.out]; simpa [moreB] using hmb, HB9.out⟩
            · go_wp2_with fail
              go_roundw
              case rel => exact ⟨j + 1, by omega, by go_num, fun u hu => by
                rcases HTK2.out u hu with h | h
                · exact HMO.out u h
                · rw [h]; simpa [moreB] using hmb, HB9.out⟩
              case measure => simp [intOf]; omega
          · go_wp2_with fail
            go_quiet (fail)
            go_wp2_with fail
            go_meet
            case rel => exact ⟨j, hj, rfl, HMO.out, fun h => absurd h hj2, below_drewN HBR.out _⟩
      case rest =>
      obtain ⟨wk, hwk⟩ : ∃ wk : World, wk = wc := ⟨_, rfl⟩
      subst hwk
      obtain ⟨j, hj, rfl, hmore, hnm, hbc⟩ := hcut
      have HMO := hid hmore
      have HNM := hid hnm
      have HCK := hid (HC.out.next hbc)
      have k0 := cell_keep c0 hbc
      have k1 := cell_keep c1 hbc
      clear hmore hnm hbc c0 c1 HC
      go_upto_region 8 with fail
      go_cut [53] (fun s53 wx => s53 = .bool (decide (j < outs.length ∧ (outs.getD j noTV).2.2 = te)) ∧ Below wk.heap.size wk wx)
      case first =>
        by_cases hj2 : j < outs.length
        · obtain ⟨g, cap, hv, hcap, hg1, hg2, hfr, hcl⟩ := HCK.out.at (by omega)
          simp only [Value.slice.injEq, true_and] at hv
          obtain ⟨rfl, rfl⟩ := hv
          have d1 := hcl _ _ (flat_at outs j hj2).2
          have HS2 := hid ((HCK.out.es _ (tv_mem outs j hj2)).below HCK.out.below)
          have HO2 := hid (HTOK.out _ (tv_mem outs j hj2))
          generalize hgd : outs.getD j noTV = ot at d1 HS2 HO2
          have HGD := hid hgd
          clear hgd
          obtain ⟨oc, ov, oe⟩ := ot
          obtain ⟨oa, oc2, hoe, _⟩ := HS2.out
          simp only at d1 hoe
          subst hoe
          have hoe3 : oe.length ≤ 3 := by have h1 := HO2.out.1; have h2 := HT.out.1; simp only [tm] at h1 h2; omega
          have HST := hid (HSL.out.below HCK.out.below)
          have KEEP : Hid (∀ W, Below wk.heap.size wk W → (Hid (Below wk.heap.size wk W) ∧ W.cell? ⟨g, j * 2 + 1, none⟩ = some (.slice oa oe.length oc2) ∧ W.cell? ⟨b, off + k * 2 + 1, none⟩ = some (.slice ea te.length ec))) :=
            fun W hb => ⟨hb, cell_keep d1 hb, cell_keep k1 hb⟩
          clear hcl
          go_region_held (fun W => Hid (Below wk.heap.size wk W) ∧ W.cell? ⟨g, j * 2 + 1, none⟩ = some (.slice oa oe.length oc2) ∧ W.cell? ⟨b, off + k * 2 + 1, none⟩ = some (.slice ea te.length ec))
            (first | exact KEEP.out _ (Below.refl _ _).drew | exact KEEP.out _ (below_step (by assumption) hb9 (Nat.le_refl _)))
            (first | (go_at_call 76; refine (sameInts_any _ _ oe te _ hoe3 ?_ ?_).mono ?_; exact HS2.out.below (Below.refl _ _).drew; exact HST.out.below (Below.refl _ _).drew; rintro e w9 ⟨rfl, hd9⟩; have hb9 := below_ndraws (Below.refl wk.drew.heap.size wk.drew) hd9))
          have hb19 : Below wk.heap.size wk w9 := Hid.out (And.left (by assumption))
          go_wp2_with fail
          go_meet
          case rel => exact ⟨by rw [HGD.out]; simp [hj2, sameB], hb19⟩
        · go_quiet (fail)
          go_wp2_with fail
          go_meet
          case rel => exact ⟨by simp [hj2], below_drewN (Below.refl _ _) _⟩
      case rest =>
      obtain ⟨hs53, hbc⟩ := hcut
      have HC2 := hid (HCK.out.next hbc)
      have c0 := cell_keep k0 hbc
      have c1 := cell_keep k1 hbc
      clear k0 k1 hbc HCK
      by_cases hsm : j < outs.length ∧ (outs.getD j noTV).2.2 = te
      · have hdec : decide (j < outs.length ∧ (outs.getD j noTV).2.2 = te) = true := by simpa using hsm
        rw [hdec] at hs53
        subst hs53
        obtain ⟨hj2, hse⟩ := hsm
        have HSE := hid hse
        obtain ⟨g, cap, hv, hcap, hg1, hg2, hfr, hcl⟩ := HC2.out.at (by omega)
        simp only [Value.slice.injEq, true_and] at hv
        obtain ⟨rfl, rfl⟩ := hv
        have d0 := hcl _ _ (flat_at outs j hj2).1
        have hfr0 := hfr (j * 2)
        have HOC := hid (HTOK.out _ (tv_mem outs j hj2)).2.2
        obtain ⟨oc, hoc⟩ : ∃ oc, (outs.getD j noTV).1 = oc := ⟨_, rfl⟩
        rw [hoc] at d0
        have HOCE := hid hoc
        have hoc1 : 0 ≤ oc ∧ oc < p := by have := HOC.out; simp only [tm] at this; rw [hoc] at this; exact this
        have htc1 : 0 ≤ tc ∧ tc < p := HT.out.2.2
        obtain ⟨ho1, ho2⟩ := hoc1
        obtain ⟨ht1, ht2⟩ := htc1
        obtain ⟨_, bx0, _, _, _⟩ := HBX.out.below HC2.out.below
        have HGG := hid hg1
        clear hse hdec hcl hfr hoc
        go_wp2_with fail
        go_region
        all_goals
          go_wp2
          go_roundw
          case rel => exact ⟨k + 1, _, by omega, by go_num, ((HC2.out.next (Below.refl _ _).drew).put (t := (tc, .slice ea te.length ec, te)) HTK.out hj2 HMO.out (Int.not_lt.2 (HNM.out hj2)) HSE.out (by rw [HOCE.out]) HGG.out)⟩
          case measure => simp [intOf]; omega
      · have hdec : decide (j < outs.length ∧ (outs.getD j noTV).2.2 = te) = false := by simpa using hsm
        rw [hdec] at hs53
        subst hs53
        have HSM := hid hsm
        clear hsm hdec
        by_cases hnil : outs.length = 0
        · have hn0 : outs = [] := List.length_eq_zero_iff.1 hnil
          have hv0 := HC2.out.nil hn0
          simp only [Value.slice.injEq] at hv0
          obtain ⟨rfl, _, rfl⟩ := hv0
          subst hn0
          have hj0 : j = 0 := by simpa using hj
          subst hj0
          clear hnil
          have HAC : Hid (∀ W, Below wc.heap.size wc W → 0 < 0 → ∃ b off, (none : Option Addr) = some ⟨b, off, none⟩ ∧ ∀ i u, (flat ([] : List TV))[i]? = some u → W.cell? ⟨b, off + i, none⟩ = some u) := fun W _ h => absurd h (by omega)
          have HCT := HAC
          have HE0 : Hid ((wc.alloc (.cells #[] 57)).ownsRow wc.heap.size 57 2 (.slice (some ⟨wc.heap.size, 0, none⟩) 0 0) 0 []) := World.ownsRow_made wc #[] 0 (Nat.le_refl _) (by decide) (by simp)
          have HEsD : Hid (∀ u ∈ flat ([] : List TV), u.oneCell' = true) := (fun u hu => by simp [flat] at hu)
          have HEsT : Hid (∀ u ∈ flat ([] : List TV), u.oneCell' = true) := (fun u hu => by simp [flat] at hu)
          have HLD := hid (show ([] : List TV).length = 0 from rfl)
          have HLT := hid (show ([] : List TV).length = 0 from rfl)
          go_upto_region 11 with (at_builtin; refine wpList_append_tvsO rfl (.tmp 72) (.tmp 75) 54 rfl wc.heap.size 57 i0 _ Tryz.underlying54 HI.out.1 HI.out.2.1 HI.out.2.2.1 HI.out.2.2.2 rfl _ 0 [] rfl HE0.out ([] : List TV) (0) HLD.out (none) (0) rfl (HAC.out _ belowNew) HEsD.out (by omega) (by simp) ?_; intro v2 w2 r1 r2; rw [Nat.zero_add, List.nil_append] at r1; have RS := hid r1; have HB2 := hid (show Below wc.heap.size wc w2 from own_grown HE0.out belowNew r2 (Nat.le_refl _)); obtain ⟨ra, rc, hrv⟩ := own_sl' r1; subst hrv; clear r1 r2)
          have HC3 := hid (HC2.out.next HB2.out)
          have e0 := cell_keep c0 HB2.out
          have e1 := cell_keep c1 HB2.out
          clear c0 c1
          have HR : Hid (∀ W, Below w2.heap.size w2 W → 0 < 0 → ∃ b off, ra = some ⟨b, off, none⟩ ∧ ∀ i u, (flat ([] : List TV))[i]? = some u → W.cell? ⟨b, off + i, none⟩ = some u) := fun W hb h => own_cells RS.out HLD.out hb h
          have CT : Hid (∀ W, Below w2.heap.size w2 W → 0 < 0 → ∃ b off, (none : Option Addr) = some ⟨b, off, none⟩ ∧ ∀ i u, (flat ([] : List TV))[i]? = some u → W.cell? ⟨b, off + i, none⟩ = some u) := fun W hb => HCT.out W (HB2.out.trans (hb.mono HB2.out.size))
          have HW2 := hid (show w1.heap.size ≤ w2.heap.size from HC3.out.below.size)
          have BA := hid (show Below w2.heap.size w2 (w2.drew.alloc (.cells #[] 57)) from (Below.refl w2.heap.size w2).drew.alloc (Nat.le_refl _) _)
          have BB := hid (show Below w2.heap.size w2 ((w2.drew.alloc (.cells #[] 57)).alloc (.cells #[.int .i64 tc, .slice ea te.length ec] 57)) from BA.out.alloc (by simp) _)
          have BC := hid (show Below w2.heap.size w2 ((w2.drew.alloc (.cells #[.int .i64 tc, .slice ea te.length ec] 57)).alloc (.cells #[] 57)) from ((Below.refl w2.heap.size w2).drew.alloc (Nat.le_refl _) _).alloc (by simp) _)
          have OA : Hid ((w2.drew.alloc (.cells #[] 57)).ownsRow w2.heap.size 57 2 (.slice (some ⟨w2.heap.size, 0, none⟩) 0 0) 0 []) := World.ownsRow_made w2.drew #[] 0 (Nat.le_refl _) (by decide) (by simp)
          have OB : Hid (((w2.drew.alloc (.cells #[] 57)).alloc (.cells #[.int .i64 tc, .slice ea te.length ec] 57)).ownsRow w2.heap.size 57 2 (.slice (some ⟨w2.heap.size, 0, none⟩) 0 0) 0 []) := OA.out.alloc _
          have OC : Hid (((w2.drew.alloc (.cells #[.int .i64 tc, .slice ea te.length ec] 57)).alloc (.cells #[] 57)).ownsRow w2.heap.size 57 2 (.slice (some ⟨w2.heap.size + 1, 0, none⟩) 0 0) 0 []) := by
            have h := World.ownsRow_made (w2.drew.alloc (.cells #[.int .i64 tc, .slice ea te.length ec] 57)) (base := w2.heap.size) (e := 57) (size := 2) #[] 0 (by simp) (by decide) (by simp)
            exact hid (by simpa using h)
          have TB : Hid (∀ i u, (flat [(tc, Value.slice ea te.length ec, te)])[i]? = some u → ((w2.drew.alloc (.cells #[] 57)).alloc (.cells #[.int .i64 tc, .slice ea te.length ec] 57)).cell? ⟨w2.heap.size + 1, 0 + i, none⟩ = some u) := by
            intro i u hi
            have h := two_at (w2.drew.alloc (.cells #[] 57)) tc (.slice ea te.length ec) te 57 i u hi
            rw [show (w2.drew.alloc (.cells #[] 57)).heap.size = w2.heap.size + 1 from by simp] at h
            exact h
          have TC : Hid (∀ i u, (flat [(tc, Value.slice ea te.length ec, te)])[i]? = some u → ((w2.drew.alloc (.cells #[.int .i64 tc, .slice ea te.length ec] 57)).alloc (.cells #[] 57)).cell? ⟨w2.heap.size, 0 + i, none⟩ = some u) := fun i u hi => cell_keep (two_at w2.drew tc (.slice ea te.length ec) te 57 i u hi) belowNew
          have e0a := cell_keep e0 (belowNew (w := w2) (A := .cells #[] 57))
          have e1a := cell_keep e1 (belowNew (w := w2) (A := .cells #[] 57))
          have ONE1 := hid (flat_one (w := w1) (ts := [(tc, .slice ea te.length ec, te)]) (fun u hu => by rw [List.mem_singleton] at hu; subst hu; exact HSL.out))
          go_region_law (first
            | (refine step_append_tvs rfl (.tmp 77) (.tmp 80) 54 rfl w2.heap.size 57 i0 _ Tryz.underlying54 HI.out.1 HI.out.2.1 HI.out.2.2.1 HI.out.2.2.2 rfl (.slice (some ⟨w2.heap.size, 0, none⟩) 0 0) 0 [] (by simp [Act.eval, Act.put]) OA.out ([] : List TV) 0 HLT.out (none) (0) (by simp [Act.eval, Act.put]) (CT.out _ BA.out) HEsT.out (by omega) BA.out.size ?_; intro v5 w5 r1 r2; rw [Nat.zero_add, List.nil_append] at r1; have OWN5 := hid r1; have HB5 := hid (show Below w2.heap.size w2 w5 from own_grown OA.out BA.out r2 (Nat.le_refl _)); have f0 := cell_keep e0 HB5.out; have f1 := cell_keep e1 HB5.out; obtain ⟨va5, vc5, hv5⟩ := own_sl' r1; subst hv5; clear r1 r2)
            | (refine step_append_tvs rfl (.tmp 77) (.tmp 80) 54 rfl w2.heap.size 57 i0 _ Tryz.underlying54 HI.out.1 HI.out.2.1 HI.out.2.2.1 HI.out.2.2.2 rfl (.slice (some ⟨w2.heap.size, 0, none⟩) 0 0) 0 [] (by simp [Act.eval, Act.put]) OB.out ([] : List TV) 0 HLT.out (none) (0) (by simp [Act.eval, Act.put]) (CT.out _ BB.out) HEsT.out (by omega) BB.out.size ?_; intro v5 w5 r1 r2; rw [Nat.zero_add, List.nil_append] at r1; have OWN5 := hid r1; have HB5 := hid (show Below w2.heap.size w2 w5 from own_grown OB.out BB.out r2 (Nat.le_refl _)); have T5 : Hid (∀ i u, (flat [(tc, Value.slice ea te.length ec, te)])[i]? = some u → w5.cell? ⟨w2.heap.size + 1, 0 + i, none⟩ = some u) := (fun i u hi => r2.cell (TB.out i u hi) (by simp [Value.ownBlock])); obtain ⟨va5, vc5, hv5⟩ := own_sl' r1; subst hv5; clear r1 r2)
            | (refine step_append_tvs rfl (.tmp 77) (.tmp 80) 54 rfl w2.heap.size 57 i0 _ Tryz.underlying54 HI.out.1 HI.out.2.1 HI.out.2.2.1 HI.out.2.2.2 rfl (.slice (some ⟨w2.heap.size + 1, 0, none⟩) 0 0) 0 [] (by simp [Act.eval, Act.put]) OC.out ([] : List TV) 0 HLT.out (none) (0) (by simp [Act.eval, Act.put]) (CT.out _ BC.out) HEsT.out (by omega) BC.out.size ?_; intro v5 w5 r1 r2; rw [Nat.zero_add, List.nil_append] at r1; have OWN5 := hid r1; have HB5 := hid (show Below w2.heap.size w2 w5 from own_grown OC.out BC.out r2 (Nat.le_refl _)); have T6 : Hid (∀ i u, (flat [(tc, Value.slice ea te.length ec, te)])[i]? = some u → w5.cell? ⟨w2.heap.size, 0 + i, none⟩ = some u) := (fun i u hi => r2.cell (TC.out i u hi) (by simp [Value.ownBlock])); obtain ⟨va5, vc5, hv5⟩ := own_sl' r1; subst hv5; clear r1 r2)
            | (refine step_append_tvs rfl (.tmp 81) (.tmp 86) 54 rfl w2.heap.size 57 i0 _ Tryz.underlying54 HI.out.1 HI.out.2.1 HI.out.2.2.1 HI.out.2.2.2 rfl (.slice va5 0 vc5) 0 (flat ([] : List TV)) (by simp [Act.eval, Act.put]) (OWN5.out.alloc _) [(tc, .slice ea te.length ec, te)] 1 rfl (some ⟨w5.heap.size, 0, none⟩) 1 (by simp [Act.eval, Act.put]) (fun _ => ⟨w5.heap.size, 0, rfl, two_at w5 tc (.slice ea te.length ec) te 57⟩) ONE1.out (by omega) (Nat.le_trans HB5.out.size (by simp)) ?_; intro v6 w6 r1 r2; have OWN6 := hid r1; have HB6 := hid (show Below w2.heap.size w2 w6 from own_grown (OWN5.out.alloc _) (HB5.out.alloc HB5.out.size _) r2 (Nat.le_refl _)); obtain ⟨va6, vc6, hv6⟩ := own_sl' r1; subst hv6; clear r1 r2)
            | (refine step_append_tvs rfl (.tmp 81) (.tmp 86) 54 rfl w2.heap.size 57 i0 _ Tryz.underlying54 HI.out.1 HI.out.2.1 HI.out.2.2.1 HI.out.2.2.2 rfl (.slice va5 0 vc5) 0 (flat ([] : List TV)) (by simp [Act.eval, Act.put]) OWN5.out [(tc, .slice ea te.length ec, te)] 1 rfl (some ⟨w2.heap.size + 1, 0, none⟩) 1 (by simp [Act.eval, Act.put]) (fun _ => ⟨w2.heap.size + 1, 0, rfl, T5.out⟩) ONE1.out (by omega) HB5.out.size ?_; intro v6 w6 r1 r2; have OWN6 := hid r1; have HB6 := hid (show Below w2.heap.size w2 w6 from own_grown OWN5.out HB5.out r2 (Nat.le_refl _)); obtain ⟨va6, vc6, hv6⟩ := own_sl' r1; subst hv6; clear r1 r2)
            | (refine step_append_tvs rfl (.tmp 81) (.tmp 86) 54 rfl w2.heap.size 57 i0 _ Tryz.underlying54 HI.out.1 HI.out.2.1 HI.out.2.2.1 HI.out.2.2.2 rfl (.slice va5 0 vc5) 0 (flat ([] : List TV)) (by simp [Act.eval, Act.put]) OWN5.out [(tc, .slice ea te.length ec, te)] 1 rfl (some ⟨w2.heap.size, 0, none⟩) 1 (by simp [Act.eval, Act.put]) (fun _ => ⟨w2.heap.size, 0, rfl, T6.out⟩) ONE1.out (by omega) HB5.out.size ?_; intro v6 w6 r1 r2; have OWN6 := hid r1; have HB6 := hid (show Below w2.heap.size w2 w6 from own_grown OWN5.out HB5.out r2 (Nat.le_refl _)); obtain ⟨va6, vc6, hv6⟩ := own_sl' r1; subst hv6; clear r1 r2)
            | (refine step_append_tvs rfl (.tmp 87) (.tmp 88) 54 rfl w2.heap.size 57 i0 _ Tryz.underlying54 HI.out.1 HI.out.2.1 HI.out.2.2.1 HI.out.2.2.2 rfl (.slice va6 (0 + 1) vc6) (0 + 1) (flat ([] : List TV) ++ flat [(tc, .slice ea te.length ec, te)]) (by simp [Act.eval, Act.put]) OWN6.out ([] : List TV) (0) HLD.out ra rc (by simp [Act.eval, Act.put]) (HR.out _ HB6.out) HEsD.out (by omega) HB6.out.size ?_; intro v7 w7 r1 r2; have OWN7 := hid r1; have HB7 := hid (show Below w2.heap.size w2 w7 from own_grown OWN6.out HB6.out r2 (Nat.le_refl _)); obtain ⟨va7, vc7, hv7⟩ := own_sl' r1; subst hv7; clear r1 r2))
          all_goals
            simp only [List.getElem_toArray, List.getElem_cons_succ, List.getElem_cons_zero]
            simp only [Act.put, List.setIfInBounds_toArray, List.set_cons_zero, List.set_cons_succ]
            go_wp2
            go_roundw
            case rel => exact ⟨k + 1, _, by omega, by go_num, HC3.out.grow (t := (tc, .slice ea te.length ec, te)) (j := 0) HTK.out HSL.out HPH.out (Nat.le_refl _) HMO.out HNM.out HSM.out HB7.out (own_mono OWN7.out HW2.out)⟩
            case measure => simp [intOf]; omega
        · obtain ⟨g, cap, hv, hcap, hg1, hg2, hfr, hcl⟩ := HC2.out.at (by omega)
          simp only [Value.slice.injEq, true_and] at hv
          obtain ⟨rfl, hvc⟩ := hv
          subst hvc
          obtain ⟨A, hA, hAc⟩ : ∃ A, (if vc = j then (some ⟨g, 0, none⟩ : Option Addr) else some ⟨g, j * 2, none⟩) = some A ∧ (∀ W, Below wc.heap.size wc W → 0 < outs.length - j → ∃ b off, (some A : Option Addr) = some ⟨b, off, none⟩ ∧ ∀ i u, (flat (outs.drop j))[i]? = some u → W.cell? ⟨b, off + i, none⟩ = some u) := by
            by_cases hcj : vc = j
            · exact ⟨_, if_pos hcj, fun W _ h => absurd h (by omega)⟩
            · exact ⟨_, if_neg hcj, fun W hb _ => ⟨g, j * 2, rfl, fun i u hi => by rw [flat_drop, List.getElem?_drop] at hi; exact cell_keep (hcl _ _ hi) hb⟩⟩
          have HAC := hid hAc
          have HCT : Hid (∀ W, Below wc.heap.size wc W → 0 < j → ∃ b off, (some ⟨g, 0, none⟩ : Option Addr) = some ⟨b, off, none⟩ ∧ ∀ i u, (flat (outs.take j))[i]? = some u → W.cell? ⟨b, off + i, none⟩ = some u) := fun W hb _ => ⟨g, 0, rfl, fun i u hi => by
            rw [flat_take] at hi
            rw [List.getElem?_take] at hi
            split at hi
            · rw [Nat.zero_add]; exact cell_keep (hcl _ _ hi) hb
            · simp at hi⟩
          have hjc : (j : Int) ≤ (vc : Int) := by omega
          clear hAc hcl hfr
          have HE0 : Hid ((wc.alloc (.cells #[] 57)).ownsRow wc.heap.size 57 2 (.slice (some ⟨wc.heap.size, 0, none⟩) 0 0) 0 []) := World.ownsRow_made wc #[] 0 (Nat.le_refl _) (by decide) (by simp)
          have HEsD : Hid (∀ u ∈ flat (outs.drop j), u.oneCell' = true) := flat_one (w := w1) (fun u hu => HC2.out.es u (List.mem_of_mem_drop hu))
          have HEsT : Hid (∀ u ∈ flat (outs.take j), u.oneCell' = true) := flat_one (w := w1) (fun u hu => HC2.out.es u (List.mem_of_mem_take hu))
          have HLD := hid (show (outs.drop j).length = outs.length - j by simp)
          have HLT := hid (show (outs.take j).length = j by simp; omega)
          have hjI : (j : Int) ≤ (outs.length : Int) := by omega
          have hjN : (0 : Int) ≤ (j : Int) := by omega
          go_upto_region 11 with (at_builtin; refine wpList_append_tvsO rfl (.tmp 72) (.tmp 75) 54 rfl wc.heap.size 57 i0 _ Tryz.underlying54 HI.out.1 HI.out.2.1 HI.out.2.2.1 HI.out.2.2.2 rfl _ 0 [] rfl HE0.out (outs.drop j) (outs.length - j) HLD.out (some A) (vc - j) rfl (HAC.out _ belowNew) HEsD.out (by omega) (by simp) ?_; intro v2 w2 r1 r2; rw [Nat.zero_add, List.nil_append] at r1; have RS := hid r1; have HB2 := hid (show Below wc.heap.size wc w2 from own_grown HE0.out belowNew r2 (Nat.le_refl _)); obtain ⟨ra, rc, hrv⟩ := own_sl' r1; subst hrv; clear r1 r2)
          have HC3 := hid (HC2.out.next HB2.out)
          have e0 := cell_keep c0 HB2.out
          have e1 := cell_keep c1 HB2.out
          clear c0 c1
          have HR : Hid (∀ W, Below w2.heap.size w2 W → 0 < outs.length - j → ∃ b off, ra = some ⟨b, off, none⟩ ∧ ∀ i u, (flat (outs.drop j))[i]? = some u → W.cell? ⟨b, off + i, none⟩ = some u) := fun W hb h => own_cells RS.out HLD.out hb h
          have CT : Hid (∀ W, Below w2.heap.size w2 W → 0 < j → ∃ b off, (some ⟨g, 0, none⟩ : Option Addr) = some ⟨b, off, none⟩ ∧ ∀ i u, (flat (outs.take j))[i]? = some u → W.cell? ⟨b, off + i, none⟩ = some u) := fun W hb => HCT.out W (HB2.out.trans (hb.mono HB2.out.size))
          have HW2 := hid (show w1.heap.size ≤ w2.heap.size from HC3.out.below.size)
          have BA := hid (show Below w2.heap.size w2 (w2.drew.alloc (.cells #[] 57)) from (Below.refl w2.heap.size w2).drew.alloc (Nat.le_refl _) _)
          have BB := hid (show Below w2.heap.size w2 ((w2.drew.alloc (.cells #[] 57)).alloc (.cells #[.int .i64 tc, .slice ea te.length ec] 57)) from BA.out.alloc (by simp) _)
          have BC := hid (show Below w2.heap.size w2 ((w2.drew.alloc (.cells #[.int .i64 tc, .slice ea te.length ec] 57)).alloc (.cells #[] 57)) from ((Below.refl w2.heap.size w2).drew.alloc (Nat.le_refl _) _).alloc (by simp) _)
          have OA : Hid ((w2.drew.alloc (.cells #[] 57)).ownsRow w2.heap.size 57 2 (.slice (some ⟨w2.heap.size, 0, none⟩) 0 0) 0 []) := World.ownsRow_made w2.drew #[] 0 (Nat.le_refl _) (by decide) (by simp)
          have OB : Hid (((w2.drew.alloc (.cells #[] 57)).alloc (.cells #[.int .i64 tc, .slice ea te.length ec] 57)).ownsRow w2.heap.size 57 2 (.slice (some ⟨w2.heap.size, 0, none⟩) 0 0) 0 []) := OA.out.alloc _
          have OC : Hid (((w2.drew.alloc (.cells #[.int .i64 tc, .slice ea te.length ec] 57)).alloc (.cells #[] 57)).ownsRow w2.heap.size 57 2 (.slice (some ⟨w2.heap.size + 1, 0, none⟩) 0 0) 0 []) := by
            have h := World.ownsRow_made (w2.drew.alloc (.cells #[.int .i64 tc, .slice ea te.length ec] 57)) (base := w2.heap.size) (e := 57) (size := 2) #[] 0 (by simp) (by decide) (by simp)
            exact hid (by simpa using h)
          have TB : Hid (∀ i u, (flat [(tc, Value.slice ea te.length ec, te)])[i]? = some u → ((w2.drew.alloc (.cells #[] 57)).alloc (.cells #[.int .i64 tc, .slice ea te.length ec] 57)).cell? ⟨w2.heap.size + 1, 0 + i, none⟩ = some u) := by
            intro i u hi
            have h := two_at (w2.drew.alloc (.cells #[] 57)) tc (.slice ea te.length ec) te 57 i u hi
            rw [show (w2.drew.alloc (.cells #[] 57)).heap.size = w2.heap.size + 1 from by simp] at h
            exact h
          have TC : Hid (∀ i u, (flat [(tc, Value.slice ea te.length ec, te)])[i]? = some u → ((w2.drew.alloc (.cells #[.int .i64 tc, .slice ea te.length ec] 57)).alloc (.cells #[] 57)).cell? ⟨w2.heap.size, 0 + i, none⟩ = some u) := fun i u hi => cell_keep (two_at w2.drew tc (.slice ea te.length ec) te 57 i u hi) belowNew
          have e0a := cell_keep e0 (belowNew (w := w2) (A := .cells #[] 57))
          have e1a := cell_keep e1 (belowNew (w := w2) (A := .cells #[] 57))
          have ONE1 := hid (flat_one (w := w1) (ts := [(tc, .slice ea te.length ec, te)]) (fun u hu => by rw [List.mem_singleton] at hu; subst hu; exact HSL.out))
          go_region_law (first
            | (refine step_append_tvs rfl (.tmp 77) (.tmp 80) 54 rfl w2.heap.size 57 i0 _ Tryz.underlying54 HI.out.1 HI.out.2.1 HI.out.2.2.1 HI.out.2.2.2 rfl (.slice (some ⟨w2.heap.size, 0, none⟩) 0 0) 0 [] (by simp [Act.eval, Act.put]) OA.out (outs.take j) j HLT.out (some ⟨g, 0, none⟩) (vc) (by simp [Act.eval, Act.put]) (CT.out _ BA.out) HEsT.out (by omega) BA.out.size ?_; intro v5 w5 r1 r2; rw [Nat.zero_add, List.nil_append] at r1; have OWN5 := hid r1; have HB5 := hid (show Below w2.heap.size w2 w5 from own_grown OA.out BA.out r2 (Nat.le_refl _)); have f0 := cell_keep e0 HB5.out; have f1 := cell_keep e1 HB5.out; obtain ⟨va5, vc5, hv5⟩ := own_sl' r1; subst hv5; clear r1 r2)
            | (refine step_append_tvs rfl (.tmp 77) (.tmp 80) 54 rfl w2.heap.size 57 i0 _ Tryz.underlying54 HI.out.1 HI.out.2.1 HI.out.2.2.1 HI.out.2.2.2 rfl (.slice (some ⟨w2.heap.size, 0, none⟩) 0 0) 0 [] (by simp [Act.eval, Act.put]) OB.out (outs.take j) j HLT.out (some ⟨g, 0, none⟩) (vc) (by simp [Act.eval, Act.put]) (CT.out _ BB.out) HEsT.out (by omega) BB.out.size ?_; intro v5 w5 r1 r2; rw [Nat.zero_add, List.nil_append] at r1; have OWN5 := hid r1; have HB5 := hid (show Below w2.heap.size w2 w5 from own_grown OB.out BB.out r2 (Nat.le_refl _)); have T5 : Hid (∀ i u, (flat [(tc, Value.slice ea te.length ec, te)])[i]? = some u → w5.cell? ⟨w2.heap.size + 1, 0 + i, none⟩ = some u) := (fun i u hi => r2.cell (TB.out i u hi) (by simp [Value.ownBlock])); obtain ⟨va5, vc5, hv5⟩ := own_sl' r1; subst hv5; clear r1 r2)
            | (refine step_append_tvs rfl (.tmp 77) (.tmp 80) 54 rfl w2.heap.size 57 i0 _ Tryz.underlying54 HI.out.1 HI.out.2.1 HI.out.2.2.1 HI.out.2.2.2 rfl (.slice (some ⟨w2.heap.size + 1, 0, none⟩) 0 0) 0 [] (by simp [Act.eval, Act.put]) OC.out (outs.take j) j HLT.out (some ⟨g, 0, none⟩) (vc) (by simp [Act.eval, Act.put]) (CT.out _ BC.out) HEsT.out (by omega) BC.out.size ?_; intro v5 w5 r1 r2; rw [Nat.zero_add, List.nil_append] at r1; have OWN5 := hid r1; have HB5 := hid (show Below w2.heap.size w2 w5 from own_grown OC.out BC.out r2 (Nat.le_refl _)); have T6 : Hid (∀ i u, (flat [(tc, Value.slice ea te.length ec, te)])[i]? = some u → w5.cell? ⟨w2.heap.size, 0 + i, none⟩ = some u) := (fun i u hi => r2.cell (TC.out i u hi) (by simp [Value.ownBlock])); obtain ⟨va5, vc5, hv5⟩ := own_sl' r1; subst hv5; clear r1 r2)
            | (refine step_append_tvs rfl (.tmp 81) (.tmp 86) 54 rfl w2.heap.size 57 i0 _ Tryz.underlying54 HI.out.1 HI.out.2.1 HI.out.2.2.1 HI.out.2.2.2 rfl (.slice va5 j vc5) j (flat (outs.take j)) (by simp [Act.eval, Act.put]) (OWN5.out.alloc _) [(tc, .slice ea te.length ec, te)] 1 rfl (some ⟨w5.heap.size, 0, none⟩) 1 (by simp [Act.eval, Act.put]) (fun _ => ⟨w5.heap.size, 0, rfl, two_at w5 tc (.slice ea te.length ec) te 57⟩) ONE1.out (by omega) (Nat.le_trans HB5.out.size (by simp)) ?_; intro v6 w6 r1 r2; have OWN6 := hid r1; have HB6 := hid (show Below w2.heap.size w2 w6 from own_grown (OWN5.out.alloc _) (HB5.out.alloc HB5.out.size _) r2 (Nat.le_refl _)); obtain ⟨va6, vc6, hv6⟩ := own_sl' r1; subst hv6; clear r1 r2)
            | (refine step_append_tvs rfl (.tmp 81) (.tmp 86) 54 rfl w2.heap.size 57 i0 _ Tryz.underlying54 HI.out.1 HI.out.2.1 HI.out.2.2.1 HI.out.2.2.2 rfl (.slice va5 j vc5) j (flat (outs.take j)) (by simp [Act.eval, Act.put]) OWN5.out [(tc, .slice ea te.length ec, te)] 1 rfl (some ⟨w2.heap.size + 1, 0, none⟩) 1 (by simp [Act.eval, Act.put]) (fun _ => ⟨w2.heap.size + 1, 0, rfl, T5.out⟩) ONE1.out (by omega) HB5.out.size ?_; intro v6 w6 r1 r2; have OWN6 := hid r1; have HB6 := hid (show Below w2.heap.size w2 w6 from own_grown OWN5.out HB5.out r2 (Nat.le_refl _)); obtain ⟨va6, vc6, hv6⟩ := own_sl' r1; subst hv6; clear r1 r2)
            | (refine step_append_tvs rfl (.tmp 81) (.tmp 86) 54 rfl w2.heap.size 57 i0 _ Tryz.underlying54 HI.out.1 HI.out.2.1 HI.out.2.2.1 HI.out.2.2.2 rfl (.slice va5 j vc5) j (flat (outs.take j)) (by simp [Act.eval, Act.put]) OWN5.out [(tc, .slice ea te.length ec, te)] 1 rfl (some ⟨w2.heap.size, 0, none⟩) 1 (by simp [Act.eval, Act.put]) (fun _ => ⟨w2.heap.size, 0, rfl, T6.out⟩) ONE1.out (by omega) HB5.out.size ?_; intro v6 w6 r1 r2; have OWN6 := hid r1; have HB6 := hid (show Below w2.heap.size w2 w6 from own_grown OWN5.out HB5.out r2 (Nat.le_refl _)); obtain ⟨va6, vc6, hv6⟩ := own_sl' r1; subst hv6; clear r1 r2)
            | (refine step_append_tvs rfl (.tmp 87) (.tmp 88) 54 rfl w2.heap.size 57 i0 _ Tryz.underlying54 HI.out.1 HI.out.2.1 HI.out.2.2.1 HI.out.2.2.2 rfl (.slice va6 (j + 1) vc6) (j + 1) (flat (outs.take j) ++ flat [(tc, .slice ea te.length ec, te)]) (by simp [Act.eval, Act.put]) OWN6.out (outs.drop j) (outs.length - j) HLD.out ra rc (by simp [Act.eval, Act.put]) (HR.out _ HB6.out) HEsD.out (by omega) HB6.out.size ?_; intro v7 w7 r1 r2; have OWN7 := hid r1; have HB7 := hid (show Below w2.heap.size w2 w7 from own_grown OWN6.out HB6.out r2 (Nat.le_refl _)); obtain ⟨va7, vc7, hv7⟩ := own_sl' r1; subst hv7; clear r1 r2))
          all_goals
            simp only [List.getElem_toArray, List.getElem_cons_succ, List.getElem_cons_zero]
            simp only [Act.put, List.setIfInBounds_toArray, List.set_cons_zero, List.set_cons_succ]
            go_wp2
            go_roundw
            case rel => exact ⟨k + 1, _, by omega, by go_num, HC3.out.grow (t := (tc, .slice ea te.length ec, te)) HTK.out HSL.out HPH.out hj HMO.out HNM.out HSM.out HB7.out (own_mono OWN7.out HW2.out)⟩
            case measure => simp [intOf]; omega
    · have e : k = us.length := by omega
      subst e
      have HUL : Hid (us.length = ts.length) := by show _ = _; rw [← HUS.out, List.length_map]
      have HEQ : Hid (colL p o ts = (outs.map tm).filter fun t => t.1 % p != 0) := by
        show _ = _
        rw [HC.out.eq, HUL.out, List.take_of_length_le (Nat.le_refl _)]; rfl
      obtain ⟨va, vc, hvv⟩ := own_sl' HC.out.own
      subst hvv
      have hol : outs.length ≤ 1200000000000 := by have := HC.out.len; omega
      go_wp2
      go_loopw [9, 10] (fun z i wr => ∃ (m : Nat) (ls : List TV), m ≤ outs.length ∧ i = .int .i64 m ∧ wr.ownsRow wo.heap.size 57 2 z ls.length (flat ls) ∧ (Es w1 ls ∧ ∀ t ∈ ls, Φ t.2.1) ∧ ls.map tm = ((outs.take m).map tm).filter (fun t => t.1 % p != 0) ∧ ls.length ≤ m ∧ Below wo.heap.size wo wr) (fun _ i _ => outs.length - (intOf i).toNat)
      case atStart => exact ⟨0, [], Nat.zero_le _, rfl, World.ownsRow_nil _ _ _ _, ⟨fun t ht => by simp at ht, fun t ht => by simp at ht⟩, by simp, Nat.le_refl _, Below.refl _ _⟩
      case round =>
        obtain ⟨m, ls, hm1, rfl, hown, hes, heq, hll, hbr⟩ := hrel
        have HOWN := hid hown
        have HL := hid (And.intro hes (And.intro heq hll))
        have HBR := hid hbr
        obtain ⟨la, lc2, hlv⟩ := own_sl' hown
        subst hlv
        clear hown hes heq hll hbr
        by_cases hm2 : m < outs.length
        · obtain ⟨g, cap, hv, hcap, hg1, hg2, hfr, hcl⟩ := HC.out.at (by omega)
          simp only [Value.slice.injEq, true_and] at hv
          obtain ⟨rfl, hvc⟩ := hv
          subst hvc
          have d0 := cell_keep (hcl _ _ (flat_at outs m hm2).1) HBR.out
          have d1 := cell_keep (hcl _ _ (flat_at outs m hm2).2) HBR.out
          have HS2 := hid (HC.out.es _ (tv_mem outs m hm2))
          have HP2 := hid (HC.out.ap _ (tv_mem outs m hm2))
          have HTT := hid (take_tm outs m hm2)
          have HCF := hid ((HC.out.tok hp1 HTS.out _ (tv_mem outs m hm2)).2.2)
          generalize outs.getD m noTV = ot at d0 d1 HS2 HTT HCF HP2
          obtain ⟨oc, ov, oe⟩ := ot
          obtain ⟨oa, oc2, hoe, _⟩ := HS2.out
          simp only at d0 d1 hoe
          subst hoe
          have hoc : 0 ≤ oc ∧ oc < p := HCF.out
          obtain ⟨ho1, ho2⟩ := hoc
          obtain ⟨_, bx0, _, _, _⟩ := (HBX.out.below HC.out.below).below HBR.out
          clear hcl hfr
          by_cases hz : oc % p = 0
          · go_wp2
            go_quiet (fail)
            go_wp2
            go_roundw
            case rel => exact ⟨m + 1, ls, by omega, by go_num, ownBlock_lt HOWN.out (below_drewN (Below.refl _ _) _), HL.out.1, by rw [HTT.out, List.filter_append, HL.out.2.1]; simp [tm, hz], by have := HL.out.2.2; omega, below_drewN HBR.out _⟩
            case measure => simp [intOf]; omega
          · go_wp2
            go_quiet (fail)
            have HO2 := hid ((ownBlock_lt HOWN.out (below_drewN (Below.refl _ _) nq)).alloc (.cells #[.int .i64 oc, .slice oa oe.length oc2] 57))
            have d0q := cell_keep d0 (below_drewN (Below.refl wr.heap.size wr) nq)
            have d1q := cell_keep d1 (below_drewN (Below.refl wr.heap.size wr) nq)
            have ONE1 := hid (flat_one (w := w1) (ts := [(oc, .slice oa oe.length oc2, oe)]) (fun u hu => by rw [List.mem_singleton] at hu; subst hu; exact HS2.out))
            have HBS := hid (show wo.heap.size ≤ wr.heap.size from HBR.out.size)
            have hls : ls.length ≤ 1200000000000 := by have := HL.out.2.2; omega
            go_wp2_with (at_builtin; refine wpList_append_tvsO rfl (.tmp 105) (.tmp 110) 54 rfl wo.heap.size 57 i0 _ Tryz.underlying54 HI.out.1 HI.out.2.1 HI.out.2.2.1 HI.out.2.2.2 rfl _ ls.length (flat ls) rfl HO2.out [(oc, .slice oa oe.length oc2, oe)] 1 rfl (some ⟨wr.heap.size, 0, none⟩) 1 rfl (fun _ => ⟨wr.heap.size, 0, rfl, two_at (wr.drewN nq) oc (.slice oa oe.length oc2) oe 57⟩) ONE1.out (by omega) (Nat.le_trans HBS.out (by simp)) ?_; intro v2 w2 r1 r2; have R1 := hid r1; have HB2 := hid (show Below wo.heap.size wo w2 from own_grown HO2.out ((below_drewN HBR.out nq).alloc HBS.out _) r2 (Nat.le_refl _)); obtain ⟨va2, vc2, hv2⟩ := own_sl' r1; subst hv2; clear r1 r2)
            go_roundw
            case rel => exact ⟨m + 1, ls ++ [(oc, .slice oa oe.length oc2, oe)], by omega, by go_num, by rw [flat_append, List.length_append]; exact R1.out, ⟨fun u hu => by
              rcases List.mem_append.1 hu with hu | hu
              · exact HL.out.1.1 u hu
              · rw [List.mem_singleton] at hu; subst hu; exact HS2.out, fun u hu => by
              rcases List.mem_append.1 hu with hu | hu
              · exact HL.out.1.2 u hu
              · rw [List.mem_singleton] at hu; subst hu; exact HP2.out⟩, by rw [HTT.out, List.filter_append, List.map_append, HL.out.2.1]; simp [tm, hz], by have := HL.out.2.2; simp; omega, HB2.out⟩
            case measure => simp [intOf]; omega
        · go_wp2
          go_ret
          have e2 : m = outs.length := by omega
          subst e2
          refine ⟨_, ls, rfl, own_mono HOWN.out (Nat.le_trans HBW.out.size HC.out.below.size), HL.out.1.1.below (HC.out.below.trans (HBR.out.mono HC.out.below.size)), ?_, HL.out.1.2, (HBW.out.trans (HC.out.below.mono HBW.out.size)).trans (HBR.out.mono (HBW.out.trans (HC.out.below.mono HBW.out.size)).size)⟩
          rw [HL.out.2.1, List.take_of_length_le (Nat.le_refl _), ← HEQ.out]

theorem collect_any (p n o v : Int) (N : Nat) (lv : Value) (ts : List Tm) (w : World) (hp : 2 ≤ p ∧ p ≤ 101) (ho : o = 1 ∨ o = 2) (hN0 : 0 < N) (hN : N ≤ 3) (hts : ∀ t ∈ ts, Tok p N t) (hm : ts.length ≤ 1200000000000) (hl : Pl w lv ts) :
    Calls Tryz.prog 73 #[ringV p n o v, lv] w fun e w' => ∃ u, e = .returned u ∧ Pl w' u (colL p o ts) ∧ Below w.heap.size w w' := by
  obtain ⟨a, lcap, us, rfl, hlc, hus, hes, hcs⟩ := hl.tvs
  refine (collect_fp (fun _ => True) p n o v N a lcap us ts w hp ho hN0 hN hts hm hlc hus hes hcs (fun _ _ => trivial)).mono ?_
  rintro e w' ⟨u, ls, rfl, h1, h2, h3, _, h4⟩
  have h := own_pl h1 h2
  rw [h3] at h
  exact ⟨_, rfl, h, h4⟩
end Go.Proofs.YtilogbggilchaaaGreat
