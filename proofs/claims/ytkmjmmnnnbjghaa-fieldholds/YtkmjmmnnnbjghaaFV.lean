/- FieldHolds, walked. -/
import Derived.Test.YtkmjmmnnnbjghaaFU
import Derived.Test.YtkmjmmnnnbjghaaFQ
namespace Go.Proofs.Ytkmjmmnnnbjghaa
set_option linter.unusedSimpArgs false
set_option linter.unusedVariables false
open Go.RowKit

theorem numE_in {p x y : Int} (hp : errP p = 0) (hx : 0 ≤ x ∧ x < p) (hy : 0 ≤ y ∧ y < p) : numE p [x, y] = 0 := by
  unfold numE
  rw [if_pos hp, if_neg]
  have h1 : outP p x = false := by unfold outP; exact decide_eq_false (by omega)
  have h2 : outP p y = false := by unfold outP; exact decide_eq_false (by omega)
  simp [h1, h2]
theorem fopR_in {p x y : Int} (g : Int → Int → Int) (hp : errP p = 0) (hx : 0 ≤ x ∧ x < p) (hy : 0 ≤ y ∧ y < p) : fopR g p x y = g x y % p := by
  unfold fopR; rw [if_pos (numE_in hp hx hy)]
theorem mod_in {p : Int} (hp : 2 ≤ p) (x : Int) : 0 ≤ x % p ∧ x % p < p := ⟨Int.emod_nonneg _ (by omega), Int.emod_lt_of_pos _ (by omega)⟩
theorem iv_in {p : Nat} {a : Nat} (hp : errP (p : Int) = 0) (ha : a < p) : (a = 0 → ivE p a = 5 ∧ ivR p a = 0) ∧ (a ≠ 0 → ivE p a = 0 ∧ ∃ s : Nat, ivR p a = s ∧ s < p ∧ (a : Int) * (s : Int) % (p : Int) = 1) := by
  obtain ⟨h1, h2, h3⟩ := errP_ok hp
  have hn : numE p [(a : Int)] = 0 := by
    unfold numE
    have ho : outP p (a : Int) = false := by unfold outP; exact decide_eq_false (by omega)
    rw [if_pos hp, if_neg (by simp [ho])]
  refine ⟨fun h => ?_, fun h => ?_⟩
  · have e1 : ivE p a = 5 := by unfold ivE; rw [if_pos hn, if_pos (by omega)]
    exact ⟨e1, by unfold ivR; rw [e1, if_neg (by decide)]⟩
  · have e1 : ivE p a = 0 := by unfold ivE; rw [if_pos hn, if_neg (by omega)]
    have hok := invOk_parts (invOk_of (p := p) (a := a) (by omega) (by omega) (primeN h3) (by omega) ha)
    refine ⟨e1, invN p a, by unfold ivR; rw [if_pos e1]; rfl, hok.2.1, ?_⟩
    have h4 := hok.2.2.1
    rw [Nat.mod_eq_of_lt (show 1 < p by omega)] at h4
    have h5 : ((a * invN p a % p : Nat) : Int) = 1 := by rw [h4]; rfl
    simpa using h5

theorem ints_take_snoc {zs : List Int} {k : Nat} (h : k < zs.length) {z : Int} (hz : zs.getD k 0 = z) : ints (zs.take (k + 1)) = ints (zs.take k) ++ [.int .i64 z] := by
  rw [List.take_succ_eq_append_getElem h]
  rw [List.getD_eq_getElem?_getD, List.getElem?_eq_getElem h] at hz
  simp at hz
  simp [ints, hz]

set_option maxRecDepth 100000 in
set_option maxHeartbeats 4000000 in
theorem fieldHolds_any (p a b c : Int) (v : Value) (xss : List (List Int)) (w : World) (ha : -9223372036854775808 ≤ a ∧ a ≤ 9223372036854775807) (hb : -9223372036854775808 ≤ b ∧ b ≤ 9223372036854775807) (hc : -9223372036854775808 ≤ c ∧ c ≤ 9223372036854775807) (hr : Rws w v xss) :
    Calls Try.prog 5 #[.int .i64 p, .int .i64 a, .int .i64 b, .int .i64 c, v] w fun e w' => e = .returned (.bool true) ∧ Below w.heap.size w w' := by
  have HR := hid hr
  have HABC := hid (And.intro ha (And.intro hb hc))
  obtain ⟨ra, rcap, rfl, _⟩ := hr
  clear ha hb hc
  cases hz : (errP p != 0)
  · have hz0 : errP p = 0 := by simpa using hz
    obtain ⟨hp1, hp2, hpr⟩ := errP_ok hz0
    have HZ := hid hz0
    obtain ⟨pn, rfl⟩ : ∃ n : Nat, p = n := ⟨p.toNat, by omega⟩
    have HPR := hid (primeN hpr)
    clear hz0 hpr hz
    go_enter Try.func5, Try.ntmps5
    go_wp2_with fail
    refine (fieldBegun_any _).mono ?_
    rintro e w1 ⟨rfl, hb1⟩
    have HB1 := hid hb1
    clear hb1
    go_wp2_with fail
    refine (check_any _ _).mono ?_
    rintro e w' ⟨rfl, hw'⟩
    subst w'
    rw [HZ.out]
    go_wp2_with fail
    refine (choose_any a pn _ HABC.out.1.1 HABC.out.1.2 (by omega) (by omega)).mono ?_
    rintro e w' ⟨an, rfl, han, hw'⟩
    subst w'
    go_wp2_with fail
    refine (choose_any b pn _ HABC.out.2.1.1 HABC.out.2.1.2 (by omega) (by omega)).mono ?_
    rintro e w' ⟨bn, rfl, hbn, hw'⟩
    subst w'
    go_wp2_with fail
    refine (choose_any c pn _ HABC.out.2.2.1 HABC.out.2.2.2 (by omega) (by omega)).mono ?_
    rintro e w' ⟨cn, rfl, hcn, hw'⟩
    subst w'
    have A0 := hid (show (0 : Int) ≤ (an : Int) ∧ (an : Int) < pn by omega)
    have B0 := hid (show (0 : Int) ≤ (bn : Int) ∧ (bn : Int) < pn by omega)
    have C0 := hid (show (0 : Int) ≤ (cn : Int) ∧ (cn : Int) < pn by omega)
    go_wp2_with fail
    refine (fieldAdd_any pn an bn _).mono ?_
    rintro e w2 ⟨rfl, hb2⟩
    rw [numE_in HZ.out A0.out B0.out, fopR_in _ HZ.out A0.out B0.out]
    have HB2 := hid (HB1.out.trans (hb2.mono HB1.out.size))
    have S0 := hid (mod_in hp1 ((an : Int) + bn))
    obtain ⟨S, HS⟩ : ∃ S, Hid (((an : Int) + bn) % pn = S) := ⟨_, rfl⟩
    rw [HS.out] at S0
    rw [HS.out]
    clear hb2 HB1
    go_wp2_with fail
    refine (fieldMul_any pn S cn _).mono ?_
    rintro e w3 ⟨rfl, hb3⟩
    rw [numE_in HZ.out S0.out C0.out, fopR_in _ HZ.out S0.out C0.out]
    have HB3 := hid (HB2.out.trans (hb3.mono HB2.out.size))
    obtain ⟨L, HL⟩ : ∃ L, Hid (S * (cn : Int) % pn = L) := ⟨_, rfl⟩
    rw [HL.out]
    clear hb3 HB2
    go_wp2_with fail
    refine (fieldMul_any pn an cn _).mono ?_
    rintro e w4 ⟨rfl, hb4⟩
    rw [numE_in HZ.out A0.out C0.out, fopR_in _ HZ.out A0.out C0.out]
    have HB4 := hid (HB3.out.trans (hb4.mono HB3.out.size))
    have X0 := hid (mod_in hp1 ((an : Int) * cn))
    obtain ⟨X, HX⟩ : ∃ X, Hid ((an : Int) * (cn : Int) % pn = X) := ⟨_, rfl⟩
    rw [HX.out] at X0
    rw [HX.out]
    clear hb4 HB3
    go_wp2_with fail
    refine (fieldMul_any pn bn cn _).mono ?_
    rintro e w5 ⟨rfl, hb5⟩
    rw [numE_in HZ.out B0.out C0.out, fopR_in _ HZ.out B0.out C0.out]
    have HB5 := hid (HB4.out.trans (hb5.mono HB4.out.size))
    have Y0 := hid (mod_in hp1 ((bn : Int) * cn))
    obtain ⟨Y, HY⟩ : ∃ Y, Hid ((bn : Int) * (cn : Int) % pn = Y) := ⟨_, rfl⟩
    rw [HY.out] at Y0
    rw [HY.out]
    clear hb5 HB4
    go_wp2_with fail
    refine (fieldAdd_any pn X Y _).mono ?_
    rintro e w6 ⟨rfl, hb6⟩
    rw [numE_in HZ.out X0.out Y0.out, fopR_in _ HZ.out X0.out Y0.out]
    have HB6 := hid (HB5.out.trans (hb6.mono HB5.out.size))
    have HLR : Hid ((X + Y) % (pn : Int) = L) := by
      unfold Hid; rw [← HL.out, ← HS.out, ← HX.out, ← HY.out, add_mul_mod]
    rw [HLR.out]
    clear hb6 HB5 HS HL HX HY HLR
    have IV := hid (iv_in (p := pn) (a := an) HZ.out han)
    go_wp2_with fail
    refine (fieldInverse_any pn an _).mono ?_
    rintro e w7 ⟨rfl, hb7⟩
    have HB7 := hid (HB6.out.trans (hb7.mono HB6.out.size))
    clear hb7 HB6
    have HPRE : Hid (∃ I E M : Int, ivR (pn : Int) (an : Int) = I ∧ ivE (pn : Int) (an : Int) = E ∧ (0 ≤ I ∧ I < pn) ∧ (an : Int) * I % pn = M ∧ ((an = 0 ∧ E = 5) ∨ (0 < an ∧ E = 0 ∧ M = 1))) := by
      by_cases h0 : an = 0
      · obtain ⟨e1, e2⟩ := IV.out.1 h0
        exact ⟨_, _, _, rfl, rfl, by rw [e2]; omega, rfl, Or.inl ⟨h0, e1⟩⟩
      · obtain ⟨e1, s, e2, hs, hm⟩ := IV.out.2 h0
        exact ⟨_, _, _, rfl, rfl, by rw [e2]; omega, rfl, Or.inr ⟨by omega, e1, by rw [e2]; exact hm⟩⟩
    obtain ⟨I, E, M, hI, hE, hI0, hM, hcase⟩ := HPRE.out
    rw [hI, hE]
    have HM := hid hM
    have I0 := hid hI0
    have HCASE := hid hcase
    clear HPRE hI hE hM hI0 hcase IV
    go_wp2_with fail
    refine (fieldMul_any pn an I _).mono ?_
    rintro e w8 ⟨rfl, hb8⟩
    rw [numE_in HZ.out A0.out I0.out, fopR_in _ HZ.out A0.out I0.out, HM.out]
    have HB8 := hid (HB7.out.trans (hb8.mono HB7.out.size))
    clear hb8 HB7 HM
    go_upto_region 15 with fail
    go_cut [137] (fun s137 wc => s137 = .bool false ∧ wc = w8)
    case first =>
      rcases HCASE.out with ⟨h1, h2⟩ | ⟨h1, h2, h3⟩
      · subst h1 h2
        go_wp2_with fail
        go_meet
        case rel => exact ⟨rfl, rfl⟩
      · subst h2 h3
        have h4 : ((an : Int) == 0) = false := by simp; omega
        have h5 : (0 : Int) < (an : Int) := by omega
        clear HCASE
        go_wp2_with fail
        go_meet
        case rel => exact ⟨rfl, rfl⟩
    case rest =>
    obtain ⟨rfl, hwc⟩ := hcut
    subst wc
    clear HCASE
    go_wp2_with fail
    refine (rank_any pn _ xss _ (HR.out.below HB8.out)).mono ?_
    rintro e w9 ⟨rfl, hb9⟩
    have HB9 := hid (HB8.out.trans (hb9.mono HB8.out.size))
    clear hb9 HB8
    cases hq : (rowsE pn xss != 0)
    · have hq0 : rowsE pn xss = 0 := by simpa using hq
      have HQ := hid hq0
      rw [hq0]
      by_cases h0 : xss.length = 0
      · have h0' : ((xss.length : Int) == 0) = true := by simp only [beq_iff_eq]; omega
        clear hq hq0 h0
        go_wp2
        go_ret
        exact ⟨rfl, HB9.out⟩
      · have h0' : ((xss.length : Int) == 0) = false := by simp only [beq_eq_false_iff_ne, ne_eq]; omega
        obtain ⟨_, hl400, hn400, h4⟩ := rowsE_ok hq0
        have H4 := hid h4
        have RK : Hid (rankR pn xss = ((pivs pn xss).length : Int)) := by unfold Hid rankR; rw [if_pos HQ.out]
        rw [RK.out]
        have hpos : 0 < xss.length := Nat.pos_of_ne_zero h0
        obtain ⟨a', cap', he, hrr⟩ := HR.out
        obtain ⟨b, off, ha', hlt, hsl⟩ := hrr hpos
        simp only [Value.slice.injEq] at he
        obtain ⟨rfl, _, rfl⟩ := he
        subst ha'
        have HS := hid hsl
        obtain ⟨z0, zc0, hz1, _⟩ := slFacts hsl 0 hpos
        rw [Nat.add_zero] at hz1
        have HZ1 := hid hz1
        have hple := pivs_le pn xss
        have TR := hid (turn_rank (p := pn) (n := (xss.getD 0 []).length) (by omega) (by omega) HPR.out h4)
        have TE := hid (rowsE_mk (p := pn) (m := xss.length) (xss := turn xss (xss.getD 0 []).length) HZ.out (by simp only [turn, List.length_map, List.length_range]; exact hn400) hl400 (turn_ok h4))
        clear hq hq0 h4 hrr hsl hz1 RK
        generalize hN : (xss.getD 0 []).length = N at *
        clear hN
        generalize hRK : ((pivs pn xss).length : Int) = K at *
        obtain ⟨i0, hi, hy0, hy1, hy2⟩ := info_parts Try.infoInt
        have HI := hid (And.intro hi (And.intro hy0 (And.intro hy1 hy2)))
        clear hi hy0 hy1 hy2
        obtain ⟨i1, hi, hy0, hy1, hy2⟩ := info_parts Try.infoInts
        have HI1 := hid (And.intro hi (And.intro hy0 (And.intro hy1 hy2)))
        clear hi hy0 hy1 hy2
        have HRK := hid hRK
        have HPL := hid hple
        clear hRK hple
        go_wp2_with fail
        go_loopw [26, 27] (fun tv i wr => ∃ (k : Nat) (ps : List Col), k ≤ N ∧ i = .int .i64 k ∧ ps.length = k ∧ ps.map Prod.fst = (List.range k).map (colAt xss) ∧ Cols w.heap.size wr tv ps ∧ Below w.heap.size w wr) (fun _ i _ => N - (intOf i).toNat)
        case atStart => exact ⟨0, [], Nat.zero_le _, rfl, rfl, rfl, ⟨World.ownsRow_nil _ _ _ _, fun q hq => by simp at hq⟩, HB9.out⟩
        case round =>
          obtain ⟨k, ps, hk, rfl, hpl, hpf, hco, hbr⟩ := hrel
          obtain ⟨wo, hwo⟩ : ∃ wo : World, wo = wr := ⟨_, rfl⟩
          subst hwo
          have HCO := hid hco
          have HBR := hid hbr
          have HPF := hid hpf
          have HLEN := hid hpl
          obtain ⟨ta, tc, rfl⟩ := own_sl hco.own
          have hcz : wo.cell? ⟨b, off, none⟩ = some (.slice z0 N zc0) := by
            rw [hbr.cell (p := ⟨b, off, none⟩) hlt]; exact HZ1.out
          have hps : ps.length ≤ 400 := by omega
          have hso := hbr.size
          clear hpl hpf hco hbr
          by_cases hk2 : k < N
          · go_wp2_with fail
            clear hcz
            go_loopw [28, 29] (fun rv i wx => ∃ j : Nat, j ≤ xss.length ∧ i = .int .i64 j ∧ wx.ownsRow wo.heap.size 3 1 rv j (ints ((colAt xss k).take j)) ∧ Below wo.heap.size wo wx) (fun _ i _ => xss.length - (intOf i).toNat)
            case atStart => exact ⟨0, Nat.zero_le _, rfl, World.ownsRow_nil _ _ _ _, Below.refl _ _⟩
            case round =>
              obtain ⟨j, hj, rfl, hown, hbx⟩ := hrel
              have HOWN := hid hown
              have HBX := hid hbx
              obtain ⟨va, vc, rfl⟩ := own_sl hown
              have hsx := hbx.size
              have HBW := hid (HBR.out.trans (hbx.mono hso))
              by_cases hj2 : j < xss.length
              · obtain ⟨sa, sc, hcell, hsl⟩ := slFacts HS.out j hj2
                rw [← HBW.out.cell (p := ⟨b, off + j, none⟩) hlt] at hcell
                have hsl2 := hsl.below HBW.out
                have hrok := H4.out _ (getR_mem xss j hj2)
                have hcol : (colAt xss k).getD j 0 = (xss.getD j []).getD k 0 := by simp [colAt, List.getD_eq_getElem?_getD, hj2]
                have hcl : j < (colAt xss k).length := by simpa [colAt] using hj2
                generalize xss.getD j [] = r at hcell hsl2 hrok hcol
                have hrl : r.length = N := hrok.1
                obtain ⟨a3, c3, he3, hh3⟩ := hsl2
                obtain ⟨b3, off3, ha3, hlt3, hc3⟩ := hh3 (by omega)
                simp only [Value.slice.injEq] at he3
                obtain ⟨rfl, _, rfl⟩ := he3
                subst ha3
                have hcm := hc3 k (by omega)
                have HSN := hid (ints_take_snoc hcl hcol)
                have hrk : (k : Int) < (r.length : Int) := by omega
                clear hown hbx hsl hrok hcol hcl hh3 hc3 hrl
                generalize r.getD k 0 = x at hcm HSN
                obtain ⟨hi, hy0, hy1, hy2⟩ := HI.out
                go_wp2_with (at_builtin; refine wpList_append_own _ rfl _ _ 36 rfl wo.heap.size 3 i0 (.int .i64 0) 1 8 Try.underlying36 hi hy0 hy1 hy2 rfl (by decide) _ _ _ rfl (HOWN.out.alloc _) ⟨wr.heap.size, 0, none⟩ 1 1 [.int .i64 x] rfl rfl (one_new _ _ _) (one_int _) (by unfold maxLen; omega) (by omega) (by simp; omega) ?_)
                intro v' w10 hown' hgrow _
                have HO2 := hid (show w10.ownsRow wo.heap.size 3 1 v' (j + 1) (ints ((colAt xss k).take (j + 1))) by rw [HSN.out]; first | exact hown' | (rw [← List.map_take] at hown'; exact hown'))
                have HB10 := hid (show Below wo.heap.size wo w10 from (HBX.out.trans (belowNew.mono HBX.out.size)).grown hgrow (by simp; omega) (fun k' hk' => (World.ownsRow.lt HOWN.out k' hk').1))
                obtain ⟨va', vc', rfl⟩ := own_sl HO2.out
                clear hown' hgrow hi hy0 hy1 hy2
                go_wp2_with fail
                go_roundw
                case rel => exact ⟨j + 1, by omega, by go_num, HO2.out, HB10.out⟩
                case measure => simp [intOf]; omega
              · have hcf : (colAt xss k).take j = colAt xss k := List.take_of_length_le (by simp [colAt]; omega)
                rw [hcf] at HOWN
                have hjl : j = (colAt xss k).length := by simp [colAt]; omega
                have HOW : Hid (Own wr wo.heap.size (.slice va j vc) (colAt xss k)) := by
                  unfold Hid Own; rw [← hjl]; exact HOWN.out
                have CND := hid (HCO.out.below HBX.out)
                clear hown hbx hcf hjl HOWN
                obtain ⟨hi, hy0, hy1, hy2⟩ := HI1.out
                go_wp2_with (at_builtin; refine wpList_append_own _ rfl _ _ 31 rfl w.heap.size 36 i1 (.slice none 0 0) 1 24 Try.underlying31 hi hy0 hy1 hy2 rfl (by decide) _ _ _ rfl (CND.out.own.alloc _) ⟨wr.heap.size, 0, none⟩ 1 1 [.slice va j vc] rfl rfl (one_new _ _ _) (one_slice _ _ _) (by unfold maxLen; omega) (by omega) (by simp; omega) ?_)
                intro v' w10 hown' hgrow _
                have CN2 := hid (Cols.snoc (CND.out.below belowNew) (ownBlock_lt (own_base HOW.out hso) belowNew) hown' hgrow)
                have HB10 := hid (show Below w.heap.size w w10 from (HBW.out.trans (belowNew.mono HBW.out.size)).grown hgrow (by simp; omega) (fun k' hk' => (World.ownsRow.lt CND.out.own k' hk').1))
                obtain ⟨va', vc', rfl⟩ := own_sl hown'
                clear hown' hgrow hi hy0 hy1 hy2
                go_wp2_with fail
                go_roundw
                case rel => exact ⟨k + 1, ps ++ [(colAt xss k, .slice va j vc)], by omega, by go_num, by rw [List.length_append, HLEN.out]; rfl, by rw [List.map_append, HPF.out, List.range_succ, List.map_append]; rfl, CN2.out, HB10.out⟩
                case measure => simp [intOf]; omega
          · have ekN : k = N := by omega
            have HT : Hid (ps.map Prod.fst = turn xss N) := by unfold Hid turn; rw [HPF.out, ekN]
            have RW := hid HCO.out.rws
            rw [HT.out] at RW
            go_wp2_with fail
            refine (rank_any pn _ (turn xss N) _ RW.out).mono ?_
            rintro e w10 ⟨rfl, hb10⟩
            have RK2 : Hid (rankR pn (turn xss N) = K) := by
              unfold Hid rankR; rw [if_pos TE.out, TR.out]; exact HRK.out
            have hKL : K ≤ (xss.length : Int) := by rw [← HRK.out]; have := HPL.out; omega
            rw [TE.out, RK2.out]
            have HB10 := hid (HBR.out.trans (hb10.mono hso))
            clear hb10
            go_wp2
            go_ret
            exact ⟨by simp [hKL], HB10.out⟩
    · go_wp2
      go_ret
      exact ⟨rfl, HB9.out⟩
  · go_enter Try.func5, Try.ntmps5
    go_wp2_with fail
    refine (fieldBegun_any _).mono ?_
    rintro e w1 ⟨rfl, hb1⟩
    go_wp2_with fail
    refine (check_any _ _).mono ?_
    rintro e w' ⟨rfl, hw'⟩
    subst w'
    go_wp2
    go_ret
    exact ⟨rfl, hb1⟩

end Go.Proofs.Ytkmjmmnnnbjghaa
