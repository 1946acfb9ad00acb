/- PrintOf of the reference. -/
import Derived.Test.YtilogbggilchaaaDoorOC
namespace Go.Proofs.YtilogbggilchaaaDoor
set_option linter.unusedSimpArgs false
set_option linter.unusedVariables false
open Go.RowKit
theorem bs_nil (T : List UInt8) : ((⟨T.toArray⟩ : ByteArray) = ⟨#[]⟩) ↔ T = [] := by
  constructor
  · intro h
    have := congrArg (fun b : ByteArray => b.data.toList) h
    simpa using this
  · intro h; rw [h]

set_option maxRecDepth 100000 in
set_option maxHeartbeats 4000000 in
theorem printOf_any (p o : Int) (N : Nat) (fv : Value) (fs : List Tm) (w : World) (hp : 2 ≤ p ∧ p ≤ 101) (hr : Right p o N fs) (hN0 : 0 < N) (hN3 : N ≤ 3) (pf : Pl w fv fs) :
    Calls Tryd.prog 19 #[fv] w fun e w' => e = .returned (mkS (priR 0 fs)) ∧ Below w.heap.size w w' := by
  obtain ⟨fa, fc, rfl, _, hfc⟩ := pf
  have hfl : fs.length ≤ 2000 := hr.len
  have HFC := hid hfc
  have HR := hid hr
  have HPP := hid hp
  clear hfc hr hp
  by_cases hem : fs = []
  · subst hem
    go_enter Tryd.func19, Tryd.ntmps19
    go_wp2
    go_ret
    exact ⟨rfl, Below.refl _ _⟩
  · have HPR : Hid (priR 0 fs = stx fs fs.length) := by
      show _ = _
      unfold priR stx
      rw [if_neg (by simp), if_neg hem, List.take_of_length_le (Nat.le_refl _)]
    have hpos : 0 < fs.length := by
      apply Nat.pos_of_ne_zero; intro h; exact hem (List.length_eq_zero_iff.1 h)
    have hnz : ((fs.length : Int) == 0) = false := by simpa using hem
    have HPL : Hid (∀ t ∈ fs, (ptB t).length ≤ 1000) := fun t ht =>
      ptB_len (by have h1 := HR.out.canon.coef t ht; have h2 := HPP.out; omega) (by rw [HR.out.canon.len t ht]; exact hN3) (HR.out.bd t ht)
    obtain ⟨b, off, rfl, hlt, hat⟩ := HFC.out hpos
    have HAT := hid hat
    rw [HPR.out]
    clear hat hem
    go_enter Tryd.func19, Tryd.ntmps19
    go_wp2_with fail
    go_loopw [3, 4] (fun z i wr => ∃ k : Nat, k ≤ fs.length ∧ i = .int .i64 k ∧ z = .string ⟨(stx fs k).toArray⟩ ∧ Below w.heap.size w wr) (fun _ i _ => fs.length - (intOf i).toNat)
    case atStart => exact ⟨0, Nat.zero_le _, rfl, rfl, Below.refl _ _⟩
    case round =>
      obtain ⟨k, hk, rfl, rfl, hbr⟩ := hrel
      have HBR := hid hbr
      clear hbr
      by_cases hk2 : k < fs.length
      · obtain ⟨c0, ev, c1, hse⟩ := HAT.out k hk2
        have HST := hid (stx_step hk2)
        have HSL := hid (stx_len HPL.out k)
        have HTT := hid (And.intro (HR.out.canon.coef _ (getD_memT fs k hk2)) (And.intro (HR.out.canon.len _ (getD_memT fs k hk2)) (HR.out.bd _ (getD_memT fs k hk2))))
        generalize fs.getD k noT = t at c0 hse HTT HST
        obtain ⟨tc, te⟩ := t
        obtain ⟨cn, hcn⟩ : ∃ cn : Nat, tc = (cn : Int) := ⟨tc.toNat, by have := HTT.out.1; omega⟩
        subst hcn
        obtain ⟨ea, ec, rfl, hse1⟩ := hse
        simp only at c0 c1 HTT
        have hte0 : 0 < te.length := by rw [HTT.out.2.1]; exact hN0
        have hte3 : te.length ≤ 3 := by rw [HTT.out.2.1]; exact hN3
        obtain ⟨eb, eoff, rfl, helt, hei⟩ := hse1 hte0
        have CK : Hid (∀ W, Below w.heap.size w W → W.cell? ⟨b, off + k * 2, none⟩ = some (.int .i64 (cn : Int)) ∧ W.cell? ⟨b, off + k * 2 + 1, none⟩ = some (.slice (some ⟨eb, eoff, none⟩) te.length ec)) := fun W hb => ⟨cell_keep c0 hb, cell_keep c1 hb⟩
        have CE : Hid (∀ W, Below w.heap.size w W → IntsAt W eb eoff te) := fun W hb j hj => cell_keep (hei j hj) hb
        have HCN : Hid (cn ≤ 101) := by have h1 := HTT.out.1; have h2 := HPP.out; show _ ≤ _; omega
        have hcn1 : 1 ≤ cn := by have h1 := HTT.out.1; omega
        have HB4 := hid (show ∀ x ∈ te, 0 ≤ x ∧ x ≤ 400 from fun x hx => by have := HTT.out.2.2 x hx; omega)
        obtain ⟨d0, d1⟩ := CK.out wr HBR.out
        clear c0 c1 hse1 hei
        obtain ⟨wk, hwk⟩ : ∃ wk : World, wk = wr := ⟨_, rfl⟩
        subst hwk
        go_upto_if 17 with fail
        go_cut [3] (fun s3 wx => s3 = .string ⟨(sty fs k).toArray⟩ ∧ wx = wk)
        case first =>
          rcases Nat.eq_zero_or_pos k with rfl | hkp
          · go_wp2_with fail
            go_meet
            case rel => exact ⟨rfl, rfl⟩
          · have hy : sty fs k = stx fs k ++ [32, 43, 32] := by unfold sty; rw [if_neg (by omega)]
            have HY := hid hy
            have hcat := bs_app (stx fs k) [32, 43, 32]
            have hln : ¬ 9223372036854775807 < (stx fs k).length + 3 := by have := HSL.out; omega
            have hkI : (0 : Int) < (k : Int) := by omega
            clear hy
            go_wp2_with fail
            go_meet
            case rel => exact ⟨by rw [HY.out], rfl⟩
        case rest =>
        obtain ⟨rfl, hwc⟩ := hcut
        subst wc
        go_upto_region 10 with fail
        go_cut [34] (fun s34 wx => s34 = .bool (decide ((cn : Int) ≠ 1 ∨ sumI te = 0)) ∧ wx = wk)
        case first =>
          by_cases hc1 : 1 < cn
          · have HD : Hid (decide ((cn : Int) ≠ 1 ∨ sumI te = 0) = true) := decide_eq_true (Or.inl (by omega))
            have hcI : (1 : Int) < (cn : Int) := by omega
            go_wp2_with fail
            go_meet
            case rel => exact ⟨by rw [HD.out], rfl⟩
          · have e1 : cn = 1 := by omega
            subst e1
            cases hz : (sumI te == 0)
            · have HD : Hid (decide (((1 : Nat) : Int) ≠ 1 ∨ sumI te = 0) = false) := decNo rfl hz
              go_wp2_with (go_at_call 46; refine (degreeOf_any te _ _ _ _ HB4.out hte3 (CE.out _ HBR.out)).mono ?_; rintro e w' ⟨rfl, rfl⟩)
              go_meet
              case rel => exact ⟨by rw [HD.out], rfl⟩
            · have HD : Hid (decide (((1 : Nat) : Int) ≠ 1 ∨ sumI te = 0) = true) := decSum hz
              go_wp2_with (go_at_call 46; refine (degreeOf_any te _ _ _ _ HB4.out hte3 (CE.out _ HBR.out)).mono ?_; rintro e w' ⟨rfl, rfl⟩)
              go_meet
              case rel => exact ⟨by rw [HD.out], rfl⟩
        case rest =>
        obtain ⟨hs34, hwc⟩ := hcut
        subst wc
        go_upto_if 34 with fail
        go_cut [5] (fun s5 wx => s5 = .string ⟨(ptx cn te 0).toArray⟩ ∧ Below w.heap.size w wx)
        case first =>
          by_cases hb : (cn : Int) ≠ 1 ∨ sumI te = 0
          · have hd : decide ((cn : Int) ≠ 1 ∨ sumI te = 0) = true := by simpa using hb
            rw [hd] at hs34
            subst hs34
            have HF : Hid (Lib.decDigits cn = ptx cn te 0) := by
              show _ = _
              unfold ptx facs; rw [if_pos hb]; simp [pows, Lib.join_one]
            clear hb hd
            go_wp2_with (go_at_call 47; refine (digits_any cn cn _ (Nat.le_refl _) (by have := HCN.out; omega)).mono ?_; rintro e w2 ⟨rfl, hb2⟩; unfold mkS; have HB2 := hid (HBR.out.trans (hb2.mono HBR.out.size)); clear hb2)
            go_meet
            case rel => exact ⟨by rw [HF.out], HB2.out⟩
          · have hd : decide ((cn : Int) ≠ 1 ∨ sumI te = 0) = false := by simpa using hb
            rw [hd] at hs34
            subst hs34
            have HF : Hid (([] : List UInt8) = ptx cn te 0) := by
              show _ = _
              unfold ptx facs; rw [if_neg hb]; simp [pows, Lib.join_nil]
            clear hb hd
            go_wp2_with fail
            go_meet
            case rel => exact ⟨by rw [← HF.out], HBR.out⟩
        case rest =>
        obtain ⟨rfl, hbc⟩ := hcut
        have HBC := hid hbc
        clear d0 d1
        obtain ⟨d0, d1⟩ := CK.out wc hbc
        clear hbc hs34
        go_wp2_with fail
        go_loopw [5, 6] (fun z i wm => ∃ j : Nat, j ≤ te.length ∧ i = .int .i64 j ∧ z = .string ⟨(ptx cn te j).toArray⟩ ∧ Below w.heap.size w wm) (fun _ i _ => te.length - (intOf i).toNat)
        case atStart => exact ⟨0, Nat.zero_le _, rfl, rfl, HBC.out⟩
        case round =>
          clear d0 d1
          obtain ⟨j, hj, rfl, rfl, hbm⟩ := hrel
          have HBM := hid hbm
          obtain ⟨d0, d1⟩ := CK.out wr hbm
          clear hbm
          by_cases hj2 : j < te.length
          · have e0 := CE.out wr HBM.out j hj2
            have HEE := hid (HTT.out.2.2 _ (getD_mem te j hj2))
            have HPZ : Hid (te.getD j 0 = 0 → ptx cn te (j + 1) = ptx cn te j) := fun h => ptx_zero h
            have HPS : Hid (te.getD j 0 ≠ 0 → ptx cn te (j + 1) = if ptx cn te j = [] then powB j (te.getD j 0) else ptx cn te j ++ ([42] ++ powB j (te.getD j 0))) := fun h => ptx_step h
            have HTL := hid (ptx_len (c := cn) (es := te) (k := j) HCN.out hte3 HTT.out.2.2 hj)
            generalize te.getD j 0 = e at e0 HEE HPZ HPS
            obtain ⟨en, hen⟩ : ∃ en : Nat, e = (en : Int) := ⟨e.toNat, by have := HEE.out.1; omega⟩
            subst hen
            have hj3 : j < 3 := by omega
            by_cases hz : en = 0
            · subst hz
              go_wp2_with fail
              go_roundw
              case rel => exact ⟨j + 1, by omega, by go_num, by rw [HPZ.out rfl], HBM.out⟩
              case measure => simp [intOf]; omega
            · have hb0 : ((en : Int) == 0) = false := by simpa using hz
              obtain ⟨T, hT⟩ : ∃ T, ptx cn te j = T := ⟨_, rfl⟩
              have HT := hid hT
              rw [hT] at HPS HTL ⊢
              clear hT
              obtain ⟨wm, hwm⟩ : ∃ wm : World, wm = wr := ⟨_, rfl⟩
              subst hwm
              obtain ⟨T2, hT2⟩ : ∃ T2 : List UInt8, T2 = if T = [] then [] else T ++ [42] := ⟨_, rfl⟩
              have HT2 := hid hT2
              have HT2L : Hid (T2.length ≤ 1001) := by
                have := HTL.out
                rw [hT2]; show _ ≤ _; split <;> simp <;> omega
              have HSTEP : Hid (ptx cn te (j + 1) = T2 ++ powB j (en : Int)) := by
                show _ = _
                rw [HPS.out (by omega), hT2]
                split <;> simp
              clear hT2
              go_upto_if 61 with fail
              go_cut [5] (fun s5 wx => s5 = .string ⟨T2.toArray⟩ ∧ wx = wm)
              case first =>
                by_cases hTn : T = []
                · have HX : Hid (T2 = []) := by show _ = _; rw [HT2.out, if_pos hTn]
                  subst hTn
                  go_wp2_with fail
                  go_meet
                  case rel => exact ⟨by rw [HX.out], rfl⟩
                · have HX : Hid (T2 = T ++ [42]) := by show _ = _; rw [HT2.out, if_neg hTn]
                  have hne : ¬ ((⟨T.toArray⟩ : ByteArray) = ⟨#[]⟩) := fun h => hTn ((bs_nil T).1 h)
                  have hie : (!T.isEmpty) = true := by simpa using hTn
                  have hcat := bs_app T [42]
                  have hln : ¬ 9223372036854775807 < T.length + 1 := by have := HTL.out; omega
                  go_wp2_with fail
                  · go_meet
                    case rel => exact ⟨by rw [HX.out], rfl⟩
                  · exact absurd (hie.symm.trans (by assumption : (!T.isEmpty) = false)) (by decide)
              case rest =>
              obtain ⟨rfl, hwc⟩ := hcut
              subst wc
              obtain ⟨x, hx⟩ : ∃ x : UInt8, UInt8.ofNat (120 + j) = x := ⟨_, rfl⟩
              have HVX : Hid ([x] = varB j) := by show _ = _; rw [← hx]; exact varD hj3
              have hcv := conv1 wm (120 + j) (120 + (j : Int)) (by omega) (by omega)
              rw [hx] at hcv
              clear hx
              have hcat3 := bs_app T2 [x]
              have hln3 : ¬ 9223372036854775807 < T2.length + 1 := by have := HT2L.out; omega
              have hw8 : IntKind.u8.wrap (120 + (j : Int)) = 120 + (j : Int) := by rw [IntKind.wrap_u8]; omega
              have HBN : Hid (∀ A, Below wm.heap.size wm (wm.alloc A)) := fun A => belowNew
              have dd0 := fun A => cell_keep d0 (HBN.out A)
              have dd1 := fun A => cell_keep d1 (HBN.out A)
              have ee0 := fun A => cell_keep e0 (HBN.out A)
              have HB5 := hid (fun A => HBM.out.trans ((HBN.out A).mono HBM.out.size))
              by_cases hgt : 1 < en
              · have HPB : Hid (powB j (en : Int) = [x] ++ ([94] ++ Lib.decDigits en)) := by
                  show _ = _
                  unfold powB; rw [if_pos (by omega), HVX.out]; simp
                have hgtI : (1 : Int) < (en : Int) := by omega
                have hcat4 := bs_app [94] (Lib.decDigits en)
                have hcat5 := bs_app (T2 ++ [x]) (94 :: Lib.decDigits en)
                have hdl := digs_len (i := en) (by have := HEE.out.2; omega)
                have hln4 : ¬ 9223372036854775807 < 1 + (Lib.decDigits en).length := by omega
                have hln5 : ¬ 9223372036854775807 < T2.length + 1 + ((Lib.decDigits en).length + 1) := by have := HT2L.out; omega
                clear hdl
                go_wp2_with (go_at_call 47; refine (digits_any en en _ (Nat.le_refl _) (by have := HEE.out.2; omega)).mono ?_; rintro e w2 ⟨rfl, hb2⟩; unfold mkS; have HB2 := hid ((HB5.out _).trans (hb2.mono (HB5.out _).size)); clear hb2)
                go_roundw
                case rel => exact ⟨j + 1, by omega, by go_num, by rw [HSTEP.out, HPB.out]; simp, HB2.out⟩
                case measure => simp [intOf]; omega
              · have HPB : Hid (powB j (en : Int) = [x]) := by
                  show _ = _
                  unfold powB; rw [if_neg (by omega), HVX.out]
                have hgtI : ¬ (1 : Int) < (en : Int) := by omega
                go_wp2_with fail
                go_roundw
                case rel => exact ⟨j + 1, by omega, by go_num, by rw [HSTEP.out, HPB.out], HB5.out _⟩
                case measure => simp [intOf]; omega
          · have e : j = te.length := by omega
            subst e
            have HPT : Hid (ptx cn te te.length = ptB ((cn : Int), te)) := by show _ = _; rw [← ptx_all]; simp
            have HTL := hid (ptx_len (c := cn) (es := te) (k := te.length) HCN.out hte3 HTT.out.2.2 (Nat.le_refl _))
            obtain ⟨T, hT⟩ : ∃ T, ptx cn te te.length = T := ⟨_, rfl⟩
            rw [hT] at HTL HPT ⊢
            obtain ⟨S, hS⟩ : ∃ S, sty fs k = S := ⟨_, rfl⟩
            rw [hS] at HST ⊢
            have hSl : S.length ≤ 1003 * k + 3 := by
              have := HSL.out
              rw [← hS]; unfold sty; split
              · simp
              · simp; omega
            clear hT hS
            have hcat := bs_app S T
            have hln : ¬ 9223372036854775807 < S.length + T.length := by have := HTL.out; omega
            clear hSl
            go_wp2_with fail
            go_roundw
            case rel => exact ⟨k + 1, by omega, by go_num, by rw [HST.out, ← HPT.out], HBM.out⟩
            case measure => simp [intOf]; omega
      · have e : k = fs.length := by omega
        subst e
        go_wp2
        go_ret
        exact ⟨rfl, HBR.out⟩
end Go.Proofs.YtilogbggilchaaaDoor
