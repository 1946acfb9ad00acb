/- CheckTerms, ValueOf of the reference. -/
import Derived.Test.YtilogbggilchaaaDoorOA
import Derived.Test.YtilogbggilchaaaDoorVB
namespace Go.Proofs.YtilogbggilchaaaDoor
set_option linter.unusedSimpArgs false
set_option linter.unusedVariables false
open Go.RowKit
theorem between_tm {p n : Int} {t : Tm} : errTm 0 p n t = if betweenB t.1 0 (p - 1) = false then 3 else errM n t.2 := by
  unfold errTm
  have e : betweenB t.1 0 (p - 1) = decide (0 ≤ t.1 ∧ t.1 ≤ p - 1) := by simp [betweenB]
  by_cases h : t.1 < 0 ∨ p ≤ t.1
  · rw [if_pos h, if_pos (by rw [e]; exact decide_eq_false (by omega))]
  · rw [if_neg h, if_neg (by rw [e, decide_eq_true (by omega)]; simp)]

set_option maxRecDepth 100000 in
set_option maxHeartbeats 2000000 in
theorem checkTermsR_any (p n o v : Int) (lv : Value) (ts : List Tm) (w : World) (pf : Pl w lv ts) :
    Calls Tryd.prog 17 #[ringV p n o v, lv] w fun e w' => e = .returned (.int .i64 (errOf p n o v ts)) ∧ Below w.heap.size w w' := by
  obtain ⟨fa, fc, rfl, _, hfc⟩ := pf
  have HFC := hid hfc
  clear hfc
  cases hR : (errR p n o v == 0)
  · have hR0 : errR p n o v ≠ 0 := by simpa using hR
    have HE : Hid (errOf p n o v ts = errR p n o v) := by show _ = _; unfold errOf errTs; rw [if_pos hR0]
    rw [HE.out]
    clear hR0
    go_enter Tryd.func17, Tryd.ntmps17
    go_wp2_with (go_at_call 28; refine (checkRing_any _ _ _ _ _).mono ?_; rintro e w1 ⟨rfl, hb1⟩; have HB1 := hid (show Below w.heap.size w w1 from below_oneG.trans (hb1.mono (by simp))); clear hb1)
    go_loopw [5, 6] (fun e i wr => e = .int .i64 (errR p n o v) ∧ i = .int .i64 0 ∧ wr = w1) (fun _ _ _ => 0)
    case atStart => exact ⟨rfl, rfl, rfl⟩
    case round =>
      obtain ⟨rfl, rfl, rfl⟩ := hrel
      by_cases h0 : 0 < ts.length
      · go_wp2
        go_ret
        exact ⟨rfl, HB1.out⟩
      · go_wp2
        go_ret
        exact ⟨rfl, HB1.out⟩
  · have hR0 : errR p n o v = 0 := by simpa using hR
    by_cases hlen : 2000 < ts.length
    · have HE : Hid (errOf p n o v ts = 2) := by show _ = _; unfold errOf errTs; rw [if_neg (by simpa using hR0), if_pos hlen]
      rw [HE.out]
      clear hR0
      go_enter Tryd.func17, Tryd.ntmps17
      go_wp2_with (go_at_call 28; refine (checkRing_any _ _ _ _ _).mono ?_; rintro e w1 ⟨rfl, hb1⟩; have HB1 := hid (show Below w.heap.size w w1 from below_oneG.trans (hb1.mono (by simp))); clear hb1)
      go_loopw [5, 6] (fun e i wr => e = .int .i64 2 ∧ i = .int .i64 0 ∧ wr = w1) (fun _ _ _ => 0)
      case atStart => exact ⟨rfl, rfl, rfl⟩
      case round =>
        obtain ⟨rfl, rfl, rfl⟩ := hrel
        have h0 : 0 < ts.length := by omega
        go_wp2
        go_ret
        exact ⟨rfl, HB1.out⟩
    · have HE : Hid (errOf p n o v ts = firstN (fun k => errTm 0 p n (ts.getD k noT)) ts.length 0) := by show _ = _; unfold errOf errTs; rw [if_neg (by simpa using hR0), if_neg hlen]
      obtain ⟨hpr, hn1, hn2, ho, _⟩ := ring_ok hR0
      have hp := errP_bd hpr
      obtain ⟨hp1, hp2⟩ := hp
      have HN := hid (And.intro hn1 hn2)
      have HR := hid hR0
      rw [HE.out]
      clear hR0 hpr ho
      go_enter Tryd.func17, Tryd.ntmps17
      go_wp2_with (go_at_call 28; refine (checkRing_any _ _ _ _ _).mono ?_; rw [HR.out]; rintro e w1 ⟨rfl, hb1⟩; have HB1 := hid (show Below w.heap.size w w1 from below_oneG.trans (hb1.mono (by simp))); have HBX := hid ((BoxAt.new w p n o v _).below hb1); clear hb1)
      go_loopw [5, 6] (fun e i wr => ∃ k : Nat, k ≤ ts.length ∧ i = .int .i64 k ∧ (∃ E : Int, e = .int .i64 E ∧ (E = 0 ∧ (∀ j, j < k → errTm 0 p n (ts.getD j noT) = 0) ∨ E ≠ 0 ∧ firstN (fun k => errTm 0 p n (ts.getD k noT)) ts.length 0 = E)) ∧ Below w1.heap.size w1 wr) (fun _ i _ => ts.length - (intOf i).toNat)
      case atStart => exact ⟨0, Nat.zero_le _, rfl, ⟨0, rfl, Or.inl ⟨rfl, fun j hj => by omega⟩⟩, Below.refl _ _⟩
      case round =>
        obtain ⟨k, hk, rfl, ⟨E, rfl, hE⟩, hbr⟩ := hrel
        have HBR := hid hbr
        clear hbr
        by_cases hk2 : k < ts.length
        · rcases hE with ⟨rfl, hz⟩ | ⟨hE0, hT⟩
          · have HZ := hid hz
            obtain ⟨b, off, rfl, hlt, hat⟩ := HFC.out (by omega)
            obtain ⟨c0, ev, c1, hse⟩ := hat k hk2
            have HHIT := hid (fun h => firstN_hit (E := fun k => errTm 0 p n (ts.getD k noT)) hk2 HZ.out h)
            have HTM : Hid (errTm 0 p n (ts.getD k noT) = if betweenB (ts.getD k noT).1 0 (p - 1) = false then 3 else errM n (ts.getD k noT).2) := between_tm
            have HST : Hid (errTm 0 p n (ts.getD k noT) = 0 → ∀ j, j < k + 1 → errTm 0 p n (ts.getD j noT) = 0) := fun h j hj => by
              rcases Nat.lt_or_ge j k with h1 | h1
              · exact HZ.out j h1
              · rw [show j = k by omega]; exact h
            have HDN := hid (HB1.out.trans (HBR.out.mono HB1.out.size))
            generalize ts.getD k noT = t at c0 hse HHIT HTM HST
            obtain ⟨tc, te⟩ := t
            have HSE := hid (hse.below HDN.out)
            obtain ⟨ea, ec, rfl, _⟩ := hse
            simp only at c0 c1 HTM
            have bx := HBX.out.below HBR.out
            obtain ⟨_, bx0, bx1, bx2, bx3⟩ := bx
            have d0 := cell_keep c0 HDN.out
            have d1 := cell_keep c1 HDN.out
            have KEEP : Hid (∀ W, Below wr.heap.size wr W → (Hid (Below wr.heap.size wr W) ∧ W.cell? ⟨w.heap.size, 0, none⟩ = some (.int .i64 p) ∧ W.cell? ⟨w.heap.size, 1, none⟩ = some (.int .i64 n) ∧ W.cell? ⟨w.heap.size, 2, none⟩ = some (.int .i64 o) ∧ W.cell? ⟨w.heap.size, 3, none⟩ = some (.int .i64 v) ∧ W.cell? ⟨b, off + k * 2 + 1, none⟩ = some (.slice ea te.length ec))) :=
              fun W hb => ⟨hb, cell_keep bx0 hb, cell_keep bx1 hb, cell_keep bx2 hb, cell_keep bx3 hb, cell_keep d1 hb⟩
            clear hz hat c0 c1
            cases hb1 : betweenB tc 0 (p - 1)
            · have HV : Hid (errTm 0 p n (tc, te) = 3) := by show _ = _; rw [HTM.out, if_pos hb1]
              go_wp2_with fail
              go_quiet ((go_at_call 42; exact Calls.quiet_of_same (between_any _ _ _ _)))
              have HQ1 := hid (below_drewN (Below.refl wr.heap.size wr) nq)
              go_wp2
              go_ret
              exact ⟨ret_int (by rw [HHIT.out (by rw [HV.out]; decide), HV.out]), HDN.out.trans (HQ1.out.mono HDN.out.size)⟩
            · have HV : Hid (errTm 0 p n (tc, te) = errM n te) := by show _ = _; rw [HTM.out, if_neg (by rw [hb1]; simp)]
              go_wp2_with fail
              go_quiet ((go_at_call 42; exact Calls.quiet_of_same (between_any _ _ _ _)))
              have HQ1 := hid (below_drewN (Below.refl wr.heap.size wr) nq)
              go_wp2_with fail
              go_region_held (fun W => Hid (Below wr.heap.size wr W) ∧ W.cell? ⟨w.heap.size, 0, none⟩ = some (.int .i64 p) ∧ W.cell? ⟨w.heap.size, 1, none⟩ = some (.int .i64 n) ∧ W.cell? ⟨w.heap.size, 2, none⟩ = some (.int .i64 o) ∧ W.cell? ⟨w.heap.size, 3, none⟩ = some (.int .i64 v) ∧ W.cell? ⟨b, off + k * 2 + 1, none⟩ = some (.slice ea te.length ec))
                (first | exact KEEP.out _ HQ1.out.drew | exact KEEP.out _ (HQ1.out.drew.trans (hb9.mono HQ1.out.drew.size)))
                (first | (go_at_call 43; refine (checkMono_any p n o v _ te _ HN.out ?_).mono ?_; exact HSE.out.below HQ1.out.drew; rintro e w9 ⟨rfl, hb9⟩))
              have HB9 := hid (show Below wr.heap.size wr w9 from HQ1.out.drew.trans (hb9.mono HQ1.out.drew.size))
              clear hb9
              go_wp2
              go_roundw
              case rel =>
                refine ⟨k + 1, by omega, by go_num, ⟨_, rfl, ?_⟩, HBR.out.trans (HB9.out.mono HBR.out.size)⟩
                by_cases hz : errM n te = 0
                · exact Or.inl ⟨hz, HST.out (by rw [HV.out]; exact hz)⟩
                · exact Or.inr ⟨hz, by rw [HHIT.out (by rw [HV.out]; exact hz), HV.out]⟩
              case measure => simp [intOf]; omega
          · have hE1 : (E == 0) = false := by simpa using hE0
            clear hE0
            go_wp2
            go_ret
            exact ⟨ret_int hT.symm, HB1.out.trans (HBR.out.mono HB1.out.size)⟩
        · have HE2 := hid hE
          clear hE
          go_wp2
          go_ret
          refine ⟨ret_int ?_, HB1.out.trans (HBR.out.mono HB1.out.size)⟩
          rcases HE2.out with ⟨h1, h2⟩ | ⟨h1, h2⟩
          · rw [h1, firstN_all (fun j hj => h2 j (by omega))]
          · exact h2.symm

set_option maxRecDepth 100000 in
set_option maxHeartbeats 2000000 in
theorem valueOf_any (p n o v : Int) (fv av : Value) (fs : List Tm) (xs : List Int) (w : World) (hp : 2 ≤ p ∧ p ≤ 101) (hr : Right p o n.toNat fs) (hn0 : 0 < n.toNat) (hn3 : n.toNat ≤ 3) (hl : (xs.length : Int) = n) (hx : ∀ x ∈ xs, 0 ≤ x ∧ x < p) (pf : Pl w fv fs) (sa : Sl w av xs) :
    Calls Tryd.prog 20 #[ringV p n o v, fv, av] w fun e w' => e = .returned (.int .i64 (lin (mval xs) fs % p)) ∧ Below w.heap.size w w' := by
  have hx0 : 0 < xs.length := by omega
  obtain ⟨fa, fc, rfl, _, hfc⟩ := pf
  obtain ⟨aa, ac, rfl, hsa⟩ := sa
  obtain ⟨ab, aoff, rfl, halt, hai⟩ := hsa hx0
  have hfl : fs.length ≤ 2000 := hr.len
  have HFC := hid hfc
  have HAI := hid hai
  have HL := hid hl
  have HR := hid hr
  have HX := hid hx
  obtain ⟨hp1, hp2⟩ := hp
  obtain ⟨w1, hw1⟩ : ∃ w1, w1 = w.alloc (.cells #[.int .i64 p, .int .i64 n, .int .i64 o, .int .i64 v] 23) := ⟨_, rfl⟩
  have hbx : BoxAt w1 w.heap.size p n o v := by rw [hw1]; exact BoxAt.new w p n o v _
  have hbw : Below w.heap.size w w1 := by rw [hw1]; exact below_oneG
  have HBX := hid hbx
  have HBW := hid hbw
  clear hfc hsa hai hl hr hx hbx hbw
  go_enter Tryd.func20, Tryd.ntmps20
  go_wp2_with fail
  rw [← hw1]
  clear hw1
  go_loopw [7, 8] (fun z i wr => ∃ k : Nat, k ≤ fs.length ∧ i = .int .i64 k ∧ z = .int .i64 (lin (mval xs) (fs.take k) % p) ∧ Below w1.heap.size w1 wr) (fun _ i _ => fs.length - (intOf i).toNat)
  case atStart => exact ⟨0, Nat.zero_le _, rfl, by simp [lin], Below.refl _ _⟩
  case round =>
    obtain ⟨k, hk, rfl, rfl, hbr⟩ := hrel
    have HBR := hid hbr
    clear hbr
    by_cases hk2 : k < fs.length
    · obtain ⟨b, off, rfl, hlt, hat⟩ := HFC.out (by omega)
      obtain ⟨c0, ev, c1, hse⟩ := hat k hk2
      have HTT := hid (And.intro (HR.out.canon.coef _ (getD_memT fs k hk2)) (And.intro (HR.out.canon.len _ (getD_memT fs k hk2)) (HR.out.bd _ (getD_memT fs k hk2))))
      have HLT := hid (lin_take (mval xs) fs k hk2)
      generalize fs.getD k noT = t at c0 hse HTT HLT
      obtain ⟨tc, te⟩ := t
      obtain ⟨ea, ec, rfl, hse1⟩ := hse
      simp only at c0 c1 HTT
      have HL3 := hid (lens3 HL.out HTT.out.2.1 hn0 hn3)
      obtain ⟨eb, eoff, rfl, helt, hei⟩ := hse1 HL3.out.2.1
      have CK : Hid (∀ W, Below w1.heap.size w1 W → W.cell? ⟨b, off + k * 2, none⟩ = some (.int .i64 tc) ∧ W.cell? ⟨b, off + k * 2 + 1, none⟩ = some (.slice (some ⟨eb, eoff, none⟩) te.length ec)) := fun W hb => ⟨cell_keep (cell_keep c0 HBW.out) hb, cell_keep (cell_keep c1 HBW.out) hb⟩
      have CE : Hid (∀ W j, Below w1.heap.size w1 W → j < te.length → W.cell? ⟨eb, eoff + j, none⟩ = some (.int .i64 (te.getD j 0))) := fun W j hb hj => cell_keep (cell_keep (hei j hj) HBW.out) hb
      have CX : Hid (∀ W j, Below w1.heap.size w1 W → j < xs.length → W.cell? ⟨ab, aoff + j, none⟩ = some (.int .i64 (xs.getD j 0))) := fun W j hb hj => cell_keep (cell_keep (HAI.out j hj) HBW.out) hb
      have CB : Hid (∀ W, Below w1.heap.size w1 W → W.cell? ⟨w.heap.size, 0, none⟩ = some (.int .i64 p) ∧ W.cell? ⟨w.heap.size, 1, none⟩ = some (.int .i64 n)) := fun W hb => ⟨(HBX.out.below hb).2.1, (HBX.out.below hb).2.2.1⟩
      obtain ⟨d0, d1⟩ := CK.out wr HBR.out
      have hte3 : te.length ≤ 3 := HL3.out.2.2
      have hte0 : 0 < te.length := HL3.out.2.1
      have HTE : Hid ((te.length : Int) = n) := by show _ = _; rw [← HL3.out.1]; exact HL.out
      have HXL : Hid (xs.length = te.length) := HL3.out.1
      obtain ⟨S0, hS0⟩ : ∃ S0, lin (mval xs) (fs.take k) % p = S0 := ⟨_, rfl⟩
      have HS0 := hid hS0
      rw [hS0]
      have hs1 : 0 ≤ S0 := by rw [← hS0]; exact Int.emod_nonneg _ (by omega)
      have hs2 : S0 < p := by rw [← hS0]; exact Int.emod_lt_of_pos _ (by omega)
      clear hS0 hat c0 c1 hse1 hei
      go_wp2_with fail
      go_loopw [9, 10] (fun z i wm => ∃ j : Nat, j ≤ te.length ∧ i = .int .i64 j ∧ z = .int .i64 (tc * mval (xs.take j) (te.take j) % p) ∧ Below w1.heap.size w1 wm) (fun _ i _ => te.length - (intOf i).toNat)
      case atStart => exact ⟨0, Nat.zero_le _, rfl, by simp [mval]; exact (Int.emod_eq_of_lt (by have := HTT.out.1.1; omega) HTT.out.1.2).symm, HBR.out⟩
      case round =>
        clear d0 d1
        obtain ⟨j, hj, rfl, rfl, hbm⟩ := hrel
        have HBM := hid hbm
        obtain ⟨b0, b1⟩ := CB.out wr hbm
        obtain ⟨d0, d1⟩ := CK.out wr hbm
        clear hbm
        by_cases hj2 : j < te.length
        · have hj3 : j < xs.length := by rw [HXL.out]; exact hj2
          have hjn : (j : Int) < n := by have := HTE.out; omega
          have HT := hid (mval_take xs te j HXL.out hj3)
          have hee := HTT.out.2.2 _ (getD_mem te j hj2)
          have hxx := HX.out _ (getD_mem xs j hj3)
          have CE2 : Hid (∀ W, Below w1.heap.size w1 W → W.cell? ⟨eb, eoff + j, none⟩ = some (.int .i64 (te.getD j 0))) := fun W hb => CE.out W j hb hj2
          have CX2 : Hid (∀ W, Below w1.heap.size w1 W → W.cell? ⟨ab, aoff + j, none⟩ = some (.int .i64 (xs.getD j 0))) := fun W hb => CX.out W j hb hj3
          generalize te.getD j 0 = e at HT hee CE2
          generalize xs.getD j 0 = x at HT hxx CX2
          have hjI : (j : Int) < (xs.length : Int) := by omega
          obtain ⟨a, ha⟩ : ∃ a, tc * mval (xs.take j) (te.take j) = a := ⟨_, rfl⟩
          have HA := hid ha
          rw [ha]
          clear ha
          obtain ⟨hee1, hee2⟩ := hee
          obtain ⟨hxx1, hxx2⟩ := hxx
          go_wp2_with fail
          go_loopw [9, 11] (fun z i wi => ∃ m : Nat, (m : Int) ≤ e ∧ i = .int .i64 m ∧ z = .int .i64 (a * x ^ m % p) ∧ Below w1.heap.size w1 wi) (fun _ i _ => (e - intOf i).toNat)
          case atStart => exact ⟨0, by omega, rfl, by simp, HBM.out⟩
          case round =>
            clear d0 d1 b0 b1
            obtain ⟨m, hm, rfl, rfl, hbi⟩ := hrel
            have HBI := hid hbi
            obtain ⟨b0, b1⟩ := CB.out wr hbi
            obtain ⟨d0, d1⟩ := CK.out wr hbi
            have e0 := CE2.out wr hbi
            have x0 := CX2.out wr hbi
            clear hbi
            have hb1 := Int.emod_nonneg (a * x ^ m) (show p ≠ 0 by omega)
            have hb2 := Int.emod_lt_of_pos (a * x ^ m) (show 0 < p by omega)
            have HST := hid (mul_step p a x m)
            by_cases hm2 : (m : Int) < e
            · generalize a * x ^ m % p = z at hb1 hb2 HST
              obtain ⟨hm1, hm3⟩ := mulBd (a := z) (b := x) ⟨by omega, by omega, by omega, by omega⟩
              go_wp2_with fail
              go_quiet (fail)
              have HQ1 := hid (below_drewN HBI.out nq)
              go_wp2
              go_roundw
              case rel => exact ⟨m + 1, by omega, by go_num, by rw [← HST.out], HQ1.out⟩
              case measure => simp [intOf]; omega
            · have e1 : m = e.toNat := by omega
              go_wp2
              go_roundw
              case rel => exact ⟨j + 1, by omega, by go_num, by rw [HT.out, ← Int.mul_assoc, HA.out, e1], HBI.out⟩
              case measure => simp [intOf]; omega
        · have hjn : ¬ (j : Int) < n := by have := HTE.out; omega
          have e : j = te.length := by omega
          subst e
          have HV0 : Hid (tc * mval (xs.take te.length) (te.take te.length) % p = tc * mval xs te % p) := by
            show _ = _
            rw [List.take_of_length_le (show xs.length ≤ te.length by rw [HXL.out]; exact Nat.le_refl _), List.take_of_length_le (Nat.le_refl _)]
          rw [HV0.out]
          obtain ⟨V0, hV0⟩ : ∃ V0, tc * mval xs te % p = V0 := ⟨_, rfl⟩
          have HV1 := hid hV0
          have hv1 : 0 ≤ V0 := by rw [← hV0]; exact Int.emod_nonneg _ (by omega)
          have hv2 : V0 < p := by rw [← hV0]; exact Int.emod_lt_of_pos _ (by omega)
          have HSTEP : Hid ((S0 + V0) % p = lin (mval xs) (fs.take (k + 1)) % p) := by
            show _ = _
            rw [HLT.out, ← HS0.out, ← hV0, ← Int.add_emod]
          rw [hV0]
          clear hV0
          go_wp2
          go_roundw
          case rel => exact ⟨k + 1, by omega, by go_num, by rw [HSTEP.out], HBM.out⟩
          case measure => simp [intOf]; omega
    · go_wp2
      go_ret
      refine ⟨?_, HBW.out.trans (HBR.out.mono HBW.out.size)⟩
      rw [List.take_of_length_le (Nat.not_lt.1 hk2)]; rfl
end Go.Proofs.YtilogbggilchaaaDoor
