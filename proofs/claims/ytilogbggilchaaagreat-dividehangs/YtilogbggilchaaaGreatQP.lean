/- LeadOf of the reference, of vectors that are greater than what is handed in. -/
import Derived.Test.YtilogbggilchaaaGreatWJ
import Derived.Test.YtilogbggilchaaaGreatWA
namespace Go.Proofs.YtilogbggilchaaaGreat
set_option linter.unusedSimpArgs false
set_option linter.unusedVariables false
open Go.RowKit
structure Rgb (p o : Int) (N : Nat) (f : List Tm) : Prop where
  canon : Canon p o N f
  bd : ∀ t ∈ f, ∀ x ∈ t.2, 0 ≤ x ∧ x ≤ 40000
  len : f.length ≤ 600000000000

set_option maxRecDepth 100000 in
set_option maxHeartbeats 4000000 in
theorem leadOf_big (w0 : World) (p n o v : Int) (N : Nat) (x : Value) (fss : List (List Tm)) (w : World) (h0 : Below w0.heap.size w0 w) (hov : v = 1 ∨ v = 2) (ho : o = 1 ∨ o = 2) (hN0 : 0 < N) (hN : N ≤ 3) (hm : fss.length ≤ 1000) (hf : ∀ f ∈ fss, Rgb p o N f) (pf : Vl w0 x fss) :
    Calls Tryz.prog 33 #[ringV p n o v, x] w fun e w' => ∃ ea ec, e = .returned (.tuple #[.int .i64 (plc (leadF o v fss fss.length)), .agg #[.int .i64 (ldC (leadF o v fss fss.length)), .slice ea (ldE (leadF o v fss fss.length)).length ec]]) ∧ Sl w0 (.slice ea (ldE (leadF o v fss fss.length)).length ec) (ldE (leadF o v fss fss.length)) ∧ Below w.heap.size w w' := by
  have H0 := hid h0
  clear h0
  have HX := hid pf
  have HF := hid hf
  have HO := hid ho
  have HOV := hid hov
  have HL0 := hid (LdO.first w0 w p n o v)
  obtain ⟨ax, cx, rfl, _⟩ := pf
  clear hf ho hov
  go_enter Tryz.func33, Tryz.ntmps33
  go_wp2_with fail
  go_loopw [6, 8] (fun s i wr => ∃ k : Nat, k ≤ fss.length ∧ i = .int .i64 k ∧ s = .int .i64 (plc (leadF o v fss k)) ∧ LdO w0 w wr p n o v (leadF o v fss k)) (fun _ i _ => fss.length - (intOf i).toNat)
  case atStart => exact ⟨0, Nat.zero_le _, rfl, rfl, HL0.out⟩
  case round =>
    clear HL0
    obtain ⟨k, hk, rfl, rfl, hld⟩ := hrel
    have HLD := hid hld
    clear hld
    by_cases hk2 : k < fss.length
    · obtain ⟨b, off, fa, fc, rfl, hlt, c0, hpf⟩ := vl_at HX.out k hk2
      have HST : Hid (leadF o v fss (k + 1) = leadStep o v (leadF o v fss k) k (fss.getD k [])) := rfl
      have HRT := hid (HF.out _ (getD_memL fss k hk2))
      have HSB : Hid (∀ j' u', leadF o v fss k = some (j', u') → j' < k ∧ u'.2.length = N ∧ ∀ x ∈ u'.2, 0 ≤ x ∧ x ≤ 40000) := fun j' u' h => by
        obtain ⟨h1, us, h2⟩ := leadF_at h
        have hr := HF.out _ (getD_memL fss j' (by omega))
        rw [h2] at hr
        exact ⟨h1, hr.canon.len u' (by simp), hr.bd u' (by simp)⟩
      generalize leadF o v fss k = st at HST HSB HLD
      generalize fss.getD k [] = f at c0 hpf HST HRT
      have HPF := hid hpf
      have hfl2 : f.length ≤ 600000000000 := HRT.out.len
      have HC0 := hid (cell_keep c0 H0.out)
      clear hpf c0
      go_wp2_with fail
      go_loopw [6, 9] (fun s i wm => ∃ m : Nat, m ≤ f.length ∧ i = .int .i64 m ∧ s = .int .i64 (plc (stM o v st k f m)) ∧ LdO w0 w wm p n o v (stM o v st k f m)) (fun _ i _ => f.length - (intOf i).toNat)
      case atStart => exact ⟨0, Nat.zero_le _, rfl, rfl, HLD.out⟩
      case round =>
        clear HLD
        obtain ⟨m, hmm, rfl, rfl, hlm⟩ := hrel
        have HLM := hid hlm
        have d0 := cell_keep HC0.out hlm.below
        by_cases hm2 : m < f.length
        · obtain ⟨fa2, fc2, hfv, _, hat0⟩ := HPF.out
          obtain ⟨b2, off2, hfa, hlt2, hat⟩ := hat0 (by omega)
          simp only [Value.slice.injEq, true_and] at hfv
          obtain ⟨e1, e2⟩ := hfv
          subst e1
          subst e2
          subst hfa
          obtain ⟨t0, ev, t1, hse⟩ := hat m hm2
          have HNO := hid (fun h => stM_none (o := o) (ov := v) (st := st) (i := k) (f := f) hm2 h)
          have HSO := hid (fun j u h => stM_some (o := o) (ov := v) (N := N) (st := st) (i := k) (f := f) (m := m) (j := j) (u := u) HOV.out HRT.out.canon.falls HRT.out.canon.len hm2 (fun j' u' h' => ⟨(HSB.out j' u' h').1, (HSB.out j' u' h').2.1⟩) h)
          have HTE := hid (And.intro (HRT.out.canon.len _ (getD_memT f m hm2)) (HRT.out.bd _ (getD_memT f m hm2)))
          have HUB : Hid (∀ j u, stM o v st k f m = some (j, u) → u.2.length = N ∧ ∀ x ∈ u.2, 0 ≤ x ∧ x ≤ 40000) := fun j u h => by
            unfold stM at h
            split at h
            · exact (HSB.out j u h).2
            · cases f with
              | nil => simp at hm2
              | cons t ts =>
                have ht : t.2.length = N ∧ ∀ x ∈ t.2, 0 ≤ x ∧ x ≤ 40000 := ⟨HRT.out.canon.len t (by simp), HRT.out.bd t (by simp)⟩
                cases hs : st with
                | none =>
                  rw [hs] at h
                  simp only [leadStep, Option.some.injEq, Prod.mk.injEq] at h
                  rw [← h.2]; exact ht
                | some q =>
                  obtain ⟨j0, u0⟩ := q
                  rw [hs] at h
                  simp only [leadStep] at h
                  split at h
                  · simp only [Option.some.injEq, Prod.mk.injEq] at h
                    rw [← h.2]; exact ht
                  · simp only [Option.some.injEq, Prod.mk.injEq] at h
                    rw [← h.2]; exact (HSB.out j0 u0 hs).2
          generalize stM o v st k f m = cur at HNO HSO HUB HLM hlm
          generalize f.getD m noT = t at t0 hse HNO HSO HTE
          have HSE := hid hse
          obtain ⟨ea, ec, rfl, _⟩ := hse
          have k0 := cell_keep (cell_keep t0 H0.out) hlm.below
          have k1 := cell_keep (cell_keep t1 H0.out) hlm.below
          clear hat0 hat t0 t1
          cases cur with
          | none =>
            have HN1 := hid (HNO.out rfl)
            obtain ⟨mm, hm1⟩ : ∃ mm : Int, plc none = mm := ⟨_, rfl⟩
            have hm0 : mm < 0 := by rw [← hm1]; decide
            have hd : decide (mm < 0) = true := decide_eq_true hm0
            rw [hm1]
            clear hm1 hlm
            obtain ⟨ea0, ec0, hown, _⟩ := HLM.out.own
            have z0 : wr.cell? ⟨w.heap.size + 1 + 1, 0, none⟩ = some (.int .i64 (ldC none)) := hown.cellAt 0 (by omega)
            have z1 : wr.cell? ⟨w.heap.size + 1 + 1, 1, none⟩ = some (.slice ea0 (ldE none).length ec0) := hown.cellAt 1 (by omega)
            have y0 := hown.frozenAt 0
            have y1 := hown.frozenAt 1
            clear hown
            go_wp2_with fail
            go_quiet (fail)
            go_wp2_with fail
            go_region
            all_goals
              have HLQ := hid ((HLM.out.next (below_drewN (Below.refl wr.heap.size wr) (nq + 1))).put k t ea ec HSE.out)
              go_wp2_with fail
              go_roundw
              case rel => exact ⟨m + 1, by omega, by go_num, by rw [HN1.out]; rfl, by rw [HN1.out]; exact HLQ.out⟩
              case measure => simp [intOf]; omega
          | some q =>
            obtain ⟨j, u⟩ := q
            have HS1 := hid (HSO.out j u rfl)
            have HU := hid (HUB.out j u rfl)
            obtain ⟨mm, hmj⟩ : ∃ mm : Int, (j : Int) = mm := ⟨_, rfl⟩
            have hm0 : ¬ mm < 0 := by omega
            have hd : decide (mm < 0) = false := decide_eq_false hm0
            rw [plc_some, hmj]
            rw [hmj] at HS1
            have HMJ := hid hmj
            obtain ⟨ea0, ec0, hown, hsu⟩ := HLM.out.own
            have z1 : wr.cell? ⟨w.heap.size + 1 + 1, 1, none⟩ = some (.slice ea0 u.2.length ec0) := hown.cellAt 1 (by omega)
            have HSU : Hid (Sl w0 (.slice ea0 u.2.length ec0) u.2) := hsu
            have HLL : Hid (t.2.length = u.2.length) := HTE.out.1.trans HU.out.1.symm
            have ht0 : 0 < t.2.length := by rw [HTE.out.1]; exact hN0
            have ht3 : t.2.length ≤ 3 := by rw [HTE.out.1]; exact hN
            obtain ⟨_, bx0, bx1, bx2, bx3⟩ := HLM.out.box
            have KEEP : Hid (∀ W, Below wr.heap.size wr W → (Hid (Below wr.heap.size wr W) ∧ W.cell? ⟨w.heap.size, 0, none⟩ = some (.int .i64 p) ∧ W.cell? ⟨w.heap.size, 1, none⟩ = some (.int .i64 n) ∧ W.cell? ⟨w.heap.size, 2, none⟩ = some (.int .i64 o) ∧ W.cell? ⟨w.heap.size, 3, none⟩ = some (.int .i64 v) ∧ W.cell? ⟨b, off + k, none⟩ = some (.slice (some ⟨b2, off2, none⟩) f.length fc) ∧ W.cell? ⟨b2, off2 + m * 2 + 1, none⟩ = some (.slice ea t.2.length ec) ∧ W.cell? ⟨w.heap.size + 1 + 1, 1, none⟩ = some (.slice ea0 u.2.length ec0))) :=
              fun W hb => ⟨hb, cell_keep bx0 hb, cell_keep bx1 hb, cell_keep bx2 hb, cell_keep bx3 hb, cell_keep d0 hb, cell_keep k1 hb, cell_keep z1 hb⟩
            have HK0 := hid k0
            have HK1 := hid k1
            have HD0 := hid d0
            have HB0 : Hid (Below wr.heap.size wr wr.drew) := (Below.refl _ _).drew
            have HBL := hid hlm.below
            clear hmj hown hsu z1 bx0 bx1 bx2 bx3 hlm k0 k1
            cases hb : aheadB o v k t.2 mm u.2
            · rw [hb, if_neg (by simp)] at HS1
              go_wp2_with fail
              go_region_held (fun W => Hid (Below wr.heap.size wr W) ∧ W.cell? ⟨w.heap.size, 0, none⟩ = some (.int .i64 p) ∧ W.cell? ⟨w.heap.size, 1, none⟩ = some (.int .i64 n) ∧ W.cell? ⟨w.heap.size, 2, none⟩ = some (.int .i64 o) ∧ W.cell? ⟨w.heap.size, 3, none⟩ = some (.int .i64 v) ∧ W.cell? ⟨b, off + k, none⟩ = some (.slice (some ⟨b2, off2, none⟩) f.length fc) ∧ W.cell? ⟨b2, off2 + m * 2 + 1, none⟩ = some (.slice ea t.2.length ec) ∧ W.cell? ⟨w.heap.size + 1 + 1, 1, none⟩ = some (.slice ea0 u.2.length ec0))
                (first | exact KEEP.out _ HB0.out | exact KEEP.out _ (HB0.out.trans (hb9.mono HB0.out.size)))
                (first | (go_at_call 71; refine (ahead_any p n o v k mm _ _ t.2 u.2 _ HO.out ht0 ht3 HLL.out HTE.out.2 HU.out.2 ?_ ?_).mono ?_; exact ((HSE.out.below H0.out).below HBL.out).below HB0.out; exact ((HSU.out.below H0.out).below HBL.out).below HB0.out; rw [hb]; rintro e w9 ⟨rfl, hb9⟩))
              have HB9 := hid (show Below wr.heap.size wr w9 from HB0.out.trans (hb9.mono HB0.out.size))
              clear hb9
              go_wp2_with fail
              go_roundw
              case rel => exact ⟨m + 1, by omega, by go_num, by rw [HS1.out, plc_some, HMJ.out], by rw [HS1.out]; exact HLM.out.next HB9.out⟩
              case measure => simp [intOf]; omega
            · rw [hb, if_pos rfl] at HS1
              go_wp2_with fail
              go_region_held (fun W => Hid (Below wr.heap.size wr W) ∧ W.cell? ⟨w.heap.size, 0, none⟩ = some (.int .i64 p) ∧ W.cell? ⟨w.heap.size, 1, none⟩ = some (.int .i64 n) ∧ W.cell? ⟨w.heap.size, 2, none⟩ = some (.int .i64 o) ∧ W.cell? ⟨w.heap.size, 3, none⟩ = some (.int .i64 v) ∧ W.cell? ⟨b, off + k, none⟩ = some (.slice (some ⟨b2, off2, none⟩) f.length fc) ∧ W.cell? ⟨b2, off2 + m * 2 + 1, none⟩ = some (.slice ea t.2.length ec) ∧ W.cell? ⟨w.heap.size + 1 + 1, 1, none⟩ = some (.slice ea0 u.2.length ec0))
                (first | exact KEEP.out _ HB0.out | exact KEEP.out _ (HB0.out.trans (hb9.mono HB0.out.size)))
                (first | (go_at_call 71; refine (ahead_any p n o v k mm _ _ t.2 u.2 _ HO.out ht0 ht3 HLL.out HTE.out.2 HU.out.2 ?_ ?_).mono ?_; exact ((HSE.out.below H0.out).below HBL.out).below HB0.out; exact ((HSU.out.below H0.out).below HBL.out).below HB0.out; rw [hb]; rintro e w9 ⟨rfl, hb9⟩))
              have HB9 := hid (show Below wr.heap.size wr w9 from HB0.out.trans (hb9.mono HB0.out.size))
              clear hb9
              have HL9 := hid (HLM.out.next HB9.out)
              obtain ⟨ea1, ec1, hown, _⟩ := HL9.out.own
              have z0 : w9.cell? ⟨w.heap.size + 1 + 1, 0, none⟩ = some (.int .i64 (ldC (some (j, u)))) := hown.cellAt 0 (by omega)
              have z1 : w9.cell? ⟨w.heap.size + 1 + 1, 1, none⟩ = some (.slice ea1 (ldE (some (j, u))).length ec1) := hown.cellAt 1 (by omega)
              have y0 := hown.frozenAt 0
              have y1 := hown.frozenAt 1
              have k0 := cell_keep HK0.out HB9.out
              have k1 := cell_keep HK1.out HB9.out
              have d0 := cell_keep HD0.out HB9.out
              clear hown
              go_wp2_with fail
              go_region
              all_goals
                have HLQ := hid ((HL9.out.next (Below.refl w9.heap.size w9).drew).put k t ea ec HSE.out)
                go_wp2_with fail
                go_roundw
                case rel => exact ⟨m + 1, by omega, by go_num, by rw [HS1.out]; rfl, by rw [HS1.out]; exact HLQ.out⟩
                case measure => simp [intOf]; omega
        · have e : m = f.length := by omega
          subst e
          have HFIN : Hid (stM o v st k f f.length = leadF o v fss (k + 1)) := by show _ = _; rw [HST.out, stM_all]
          rw [HFIN.out] at HLM ⊢
          clear hlm
          go_wp2_with fail
          go_roundw
          case rel => exact ⟨k + 1, by omega, by go_num, rfl, HLM.out⟩
          case measure => simp [intOf]; omega
    · have e : k = fss.length := by omega
      subst e
      obtain ⟨ea0, ec0, hown, hsl⟩ := HLD.out.own
      have z0 : wr.cell? ⟨w.heap.size + 1 + 1, 0, none⟩ = some (.int .i64 (ldC (leadF o v fss fss.length))) := hown.cellAt 0 (by omega)
      have z1 : wr.cell? ⟨w.heap.size + 1 + 1, 1, none⟩ = some (.slice ea0 (ldE (leadF o v fss fss.length)).length ec0) := hown.cellAt 1 (by omega)
      have r0 : wr.cell? ⟨w.heap.size + 1, 0, none⟩ = some (.int .i64 0) := HLD.out.res.cellAt 0 (by omega)
      have r1 : wr.cell? ⟨w.heap.size + 1, 1, none⟩ = some (.slice none 0 0) := HLD.out.res.cellAt 1 (by omega)
      have q0 := HLD.out.res.frozenAt 0
      have q1 := HLD.out.res.frozenAt 1
      have HSL := hid hsl
      clear hown hsl
      go_wp2_with fail
      go_region
      have s1 := HLD.out.res.stored 0 (.int .i64 (ldC (leadF o v fss fss.length)))
      have s2 := s1.1.stored 1 (.slice ea0 (ldE (leadF o v fss fss.length)).length ec0)
      have HBF := hid (HLD.out.below.trans (grown_below (grown_trans s1.2 s2.2) (by omega) HLD.out.below.size)).drew
      have x0 := s2.1.cellAt 0 (by omega)
      have x1 := s2.1.cellAt 1 (by omega)
      clear s1 s2
      go_wp2
      refine bodyPost_ret (v := .tuple #[.int .i64 (plc (leadF o v fss fss.length)), .agg #[.int .i64 (ldC (leadF o v fss fss.length)), .slice ea0 (ldE (leadF o v fss fss.length)).length ec0]]) (by simp at x0 x1; simp [results, Tryz.results33, go_sem, x0, x1]) rfl ⟨ea0, ec0, rfl, HSL.out, HBF.out⟩
structure Rg2 (p o : Int) (N : Nat) (f : List Tm) : Prop where
  canon : Canon p o N f
  bd : Bd2 f
  len : f.length ≤ 2000

set_option maxRecDepth 100000 in
set_option maxHeartbeats 2000000 in
theorem vtimes_big (p n o v : Int) (N : Nat) (x y : Value) (f : List Tm) (gss : List (List Tm)) (w : World) (hp : 2 ≤ p ∧ p ≤ 101) (ho : o = 1 ∨ o = 2) (hN0 : 0 < N) (hN : N ≤ 3) (hm : gss.length ≤ 1000) (hf : Rg2 p o N f) (hg : ∀ g ∈ gss, Right p o N g) (pf : Pl w x f) (pg : Vl w y gss) :
    Calls Tryz.prog 38 #[ringV p n o v, x, y] w fun e w' => ∃ u, e = .returned u ∧ Vl w' u (prods p o f gss) ∧ Below w.heap.size w w' := by
  have HX := hid pf
  have HY := hid pg
  have HF := hid hf
  have HG := hid hg
  have HP := hid hp
  have HO := hid ho
  obtain ⟨ax, cx, rfl, _, _⟩ := pf
  obtain ⟨ay, cy, rfl, _⟩ := pg
  unfold prods
  clear hf hg hp ho
  obtain ⟨w1, hw1⟩ : ∃ w1, w1 = w.alloc (.cells #[.int .i64 p, .int .i64 n, .int .i64 o, .int .i64 v] 23) := ⟨_, rfl⟩
  have hbx : BoxAt w1 w.heap.size p n o v := by rw [hw1]; exact BoxAt.new w p n o v _
  have hbw : Below w.heap.size w w1 := by rw [hw1]; exact below_oneG
  have HBX := hid hbx
  have HBW := hid hbw
  clear hbx hbw
  go_enter Tryz.func38, Tryz.ntmps38
  go_wp2_with fail
  rw [← hw1]
  clear hw1
  go_loopw [7, 8] (fun z i wr => ∃ (k : Nat) (us : List Value), k ≤ gss.length ∧ i = .int .i64 k ∧ PRow w1.heap.size wr z us (((gss.map fun g => colL p o (prodL p f g))).take k) ∧ Below w1.heap.size w1 wr) (fun _ i _ => gss.length - (intOf i).toNat)
  case atStart => exact ⟨0, [], Nat.zero_le _, rfl, PRow.nil _ _, Below.refl _ _⟩
  case round =>
    obtain ⟨k, us, hk, rfl, hrow, hbr⟩ := hrel
    have HROW := hid hrow
    have HBR := hid hbr
    obtain ⟨ys, hys⟩ : ∃ ys, ((gss.map fun g => colL p o (prodL p f g))).take k = ys := ⟨_, rfl⟩
    have HTL : Hid (ys.length = k) := by show _ = _; rw [← hys, List.length_take, List.length_map]; omega
    rw [hys] at hrow HROW
    have HYS := hid hys
    clear hys
    obtain ⟨za, zc, hz⟩ := own_sl hrow.own
    subst hz
    clear hrow hbr
    by_cases hk2 : k < gss.length
    · obtain ⟨b2, off2, ga, gc, rfl, hlt2, d0, hpg⟩ := vl_at HY.out k hk2
      have HDN := hid (HBW.out.trans (HBR.out.mono HBW.out.size))
      have HTS : Hid (((gss.map fun g => colL p o (prodL p f g))).take (k + 1) = ys ++ [colL p o (prodL p f (gss.getD k []))]) := by
        show _ = _
        rw [← HYS.out, take_snocL _ _ (by rw [List.length_map]; exact hk2), getD_mapL (fun g => colL p o (prodL p f g)) _ _ hk2]
      have HGK := hid (HG.out _ (getD_memL gss k hk2))
      generalize gss.getD k [] = g at d0 hpg HTS HGK
      have HPG := hid (hpg.below HBW.out)
      clear hpg
      obtain ⟨_, bx0, bx1, bx2, bx3⟩ := HBX.out
      have KEEP : Hid (∀ W, Below w1.heap.size w1 W → (Hid (Below w1.heap.size w1 W) ∧ W.cell? ⟨w.heap.size, 0, none⟩ = some (.int .i64 p) ∧ W.cell? ⟨w.heap.size, 1, none⟩ = some (.int .i64 n) ∧ W.cell? ⟨w.heap.size, 2, none⟩ = some (.int .i64 o) ∧ W.cell? ⟨w.heap.size, 3, none⟩ = some (.int .i64 v) ∧ W.cell? ⟨b2, off2 + k, none⟩ = some (.slice ga g.length gc))) :=
        fun W hb => ⟨hb, cell_keep bx0 hb, cell_keep bx1 hb, cell_keep bx2 hb, cell_keep bx3 hb, cell_keep (cell_keep d0 HBW.out) hb⟩
      have HB0 : Hid (Below w1.heap.size w1 wr.drew) := HBR.out.drew
      clear bx0 bx1 bx2 bx3 d0
      go_wp2
      go_region_held_law (fun W => Hid (Below w1.heap.size w1 W) ∧ W.cell? ⟨w.heap.size, 0, none⟩ = some (.int .i64 p) ∧ W.cell? ⟨w.heap.size, 1, none⟩ = some (.int .i64 n) ∧ W.cell? ⟨w.heap.size, 2, none⟩ = some (.int .i64 o) ∧ W.cell? ⟨w.heap.size, 3, none⟩ = some (.int .i64 v) ∧ W.cell? ⟨b2, off2 + k, none⟩ = some (.slice ga g.length gc))
        (first | exact KEEP.out _ HB0.out | exact KEEP.out _ HB7.out | exact KEEP.out _ (HB6.out.trans (belowNew.mono HB6.out.size)) | exact KEEP.out _ HB6.out)
        (first
          | (refine step_append_prow rfl (.tmp 15) (.tmp 23) 25 rfl Tryz.underlying25 w1.heap.size (.slice za ys.length zc) us ys (by simp [Act.eval, Act.put]) (PR6.out.next belowNew) ⟨w6.heap.size, 0, none⟩ 1 (.slice ua6 (colL p o (prodL p f g)).length uc6) (colL p o (prodL p f g)) (HU6.out.below belowNew) (by simp [Act.eval, Act.put]) (one_newP _ _ _) (by rw [HTL.out]; omega) (Nat.le_trans HB6.out.size (by simp)) ?_; intro v7 w7 r1 r2; have HB7 := hid (show Below w1.heap.size w1 w7 from (PR6.out.next belowNew).grown (HB6.out.trans (belowNew.mono HB6.out.size)) r2 (Nat.le_refl _)); obtain ⟨va7, vc7, hv7⟩ := own_sl r1.own; rw [len_snoc] at hv7; subst hv7; have HR7 := hid r1; clear r1 r2)
          | (go_at_call 74; refine (refProduct_any p n o v N _ _ f g _ HP.out HO.out hN0 hN HF.out.canon.len HGK.out.canon.len ?_ ?_ HF.out.bd HGK.out.bd HF.out.len HGK.out.len ?_ ?_).mono ?_; exact (fun t ht => ⟨by have := HF.out.canon.coef t ht; omega, (HF.out.canon.coef t ht).2⟩); exact (fun t ht => ⟨by have := HGK.out.canon.coef t ht; omega, (HGK.out.canon.coef t ht).2⟩); exact (HX.out.below HBW.out).below HB0.out; exact HPG.out.below HB0.out; rintro e w6 ⟨u6, rfl, hu6, hb6⟩; have PR6 := hid (HROW.out.next (((Below.refl wr.heap.size wr).drew).trans hb6)); have HB6 := hid (show Below w1.heap.size w1 w6 from HB0.out.trans (hb6.mono HB0.out.size)); have HU6 := hid hu6; obtain ⟨ua6, uc6, rfl, _, _⟩ := hu6; clear hb6))
      all_goals
        go_wp2
        first
          | exact ⟨⟨k + 1, us ++ [_], by omega, by go_num, by rw [HTS.out]; exact HR7.out, HB7.out⟩, by simp [intOf]; omega⟩
          | (go_roundw; (case rel => exact ⟨k + 1, us ++ [_], by omega, by go_num, by rw [HTS.out]; exact HR7.out, HB7.out⟩); case measure => simp [intOf]; omega)
    · have e : k = gss.length := by omega
      subst e
      have HE : Hid ((gss.map fun g => colL p o (prodL p f g)) = ys) := by show _ = _; rw [← HYS.out, List.take_of_length_le (by rw [List.length_map]; exact Nat.le_refl _)]
      have HV := hid HROW.out.vl
      go_wp2
      go_ret
      exact ⟨_, rfl, by rw [HE.out]; exact HV.out, HBW.out.trans (HBR.out.mono HBW.out.size)⟩
end Go.Proofs.YtilogbggilchaaaGreat
