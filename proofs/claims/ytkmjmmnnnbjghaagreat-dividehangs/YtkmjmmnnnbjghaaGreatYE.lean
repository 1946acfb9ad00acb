/- LeadOf of the reference, where the vector lies in an elder world: so do the lead's exponents. Printed by genYE.py. -/
import Derived.Test.YtkmjmmnnnbjghaaGreatWI
import Derived.Test.YtkmjmmnnnbjghaaGreatWA
import Derived.Test.YtkmjmmnnnbjghaaGreatL
import Derived.Test.YtkmjmmnnnbjghaaGreatM
namespace Go.Proofs.YtkmjmmnnnbjghaaGreat
set_option linter.unusedSimpArgs false
set_option linter.unusedVariables false
open Go.RowKit

/-- The worlds of LeadOf: the ring, the answer's cell, the term so far. -/
structure LdO (w0 w wr : World) (p n o v : Int) (st : Ld) : Prop where
  below : Below w.heap.size w wr
  box : BoxAt wr w.heap.size p n o v
  res : wr.ownsRow w.heap.size 57 2 (.slice (some ⟨w.heap.size + 1, 0, none⟩) 1 1) 1 [.int .i64 0, .slice none 0 0]
  own : ∃ ea ec, wr.ownsRow w.heap.size 57 2 (.slice (some ⟨w.heap.size + 1 + 1, 0, none⟩) 1 1) 1 [.int .i64 (ldC st), .slice ea (ldE st).length ec] ∧ Sl w0 (.slice ea (ldE st).length ec) (ldE st)
theorem LdO.next {w0 w wr w' : World} {p n o v : Int} {st : Ld} (h : LdO w0 w wr p n o v st) (hb : Below wr.heap.size wr w') : LdO w0 w w' p n o v st := by
  obtain ⟨ea, ec, h1, h2⟩ := h.own
  exact ⟨h.below.trans (hb.mono h.below.size), h.box.below hb, ownBlock_lt h.res hb, ea, ec, ownBlock_lt h1 hb, h2⟩
theorem LdO.put {w0 w wr : World} {p n o v : Int} {st : Ld} (h : LdO w0 w wr p n o v st) (i : Nat) (t : Tm) (ea : Option Addr) (ec : Nat) (hs : Sl w0 (.slice ea t.2.length ec) t.2) :
    LdO w0 w ((wr.setCell ⟨w.heap.size + 1 + 1, 0, none⟩ (.int .i64 t.1)).setCell ⟨w.heap.size + 1 + 1, 1, none⟩ (.slice ea t.2.length ec)) p n o v (some (i, t)) := by
  obtain ⟨ea0, ec0, h1, _⟩ := h.own
  have s1 := h1.stored 0 (.int .i64 t.1)
  have s2 := s1.1.stored 1 (.slice ea t.2.length ec)
  have hg := grown_trans s1.2 s2.2
  have hlt := h.box.1
  refine ⟨h.below.trans (grown_below hg (by omega) h.below.size), ?_, h.res.kept hg (Or.inr (by simp [Value.ownBlock])), ea, ec, ?_, hs⟩
  · have far := fun o => cell_far (o := o) hg hlt (show w.heap.size ≠ w.heap.size + 1 + 1 by omega)
    obtain ⟨_, b0, b1, b2, b3⟩ := h.box
    exact ⟨Nat.lt_of_lt_of_le hlt hg.size, by rw [far]; exact b0, by rw [far]; exact b1, by rw [far]; exact b2, by rw [far]; exact b3⟩
  · have := s2.1
    simpa [ldC, ldE] using this

theorem LdO.first (w0 w : World) (p n o v : Int) : LdO w0 w (((w.alloc (.cells #[.int .i64 p, .int .i64 n, .int .i64 o, .int .i64 v] 23)).alloc (.cells #[.int .i64 0, .slice none 0 0] 57)).alloc (.cells #[.int .i64 0, .slice none 0 0] 57)) p n o v none := by
  have h1 := made_term (w := w.alloc (.cells #[.int .i64 p, .int .i64 n, .int .i64 o, .int .i64 v] 23)) (B := w.heap.size) (by simp) 0 (.slice none 0 0)
  have h2 := made_term (w := (w.alloc (.cells #[.int .i64 p, .int .i64 n, .int .i64 o, .int .i64 v] 23)).alloc (.cells #[.int .i64 0, .slice none 0 0] 57)) (B := w.heap.size) (by simp; omega) 0 (.slice none 0 0)
  refine ⟨below_two.trans (belowNew.mono below_two.size), ((BoxAt.new w p n o v _).below belowNew).below belowNew, ?_, none, 0, ?_, none, 0, rfl, fun h => by simp [ldE] at h⟩
  · have := ownBlock_lt h1 (belowNew (A := .cells #[.int .i64 0, .slice none 0 0] 57))
    simpa using this
  · simpa [ldC, ldE] using h2

set_option maxRecDepth 100000 in
set_option maxHeartbeats 4000000 in
theorem leadOf_old (w0 : World) (p n o v : Int) (N : Nat) (x : Value) (fss : List (List Tm)) (w : World) (h0 : Below w0.heap.size w0 w) (hov : v = 1 ∨ v = 2) (ho : o = 1 ∨ o = 2) (hN0 : 0 < N) (hN : N ≤ 3) (hm : fss.length ≤ 1000) (hf : ∀ f ∈ fss, Right p o N f) (pf : Vl w0 x fss) :
    Calls Tryz.prog 33 #[ringV p n o v, x] w fun e w' => ∃ ea ec, e = .returned (.tuple #[.int .i64 (plc (leadF o v fss fss.length)), .agg #[.int .i64 (ldC (leadF o v fss fss.length)), .slice ea (ldE (leadF o v fss fss.length)).length ec]]) ∧ Sl w0 (.slice ea (ldE (leadF o v fss fss.length)).length ec) (ldE (leadF o v fss fss.length)) ∧ Below w.heap.size w w' := by
  have H0 := hid h0
  clear h0
  have HX := hid pf
  have HF := hid hf
  have HO := hid ho
  have HOV := hid hov
  have HL0 := hid (LdO.first w0 w p n o v)
  obtain ⟨ax, cx, rfl, _⟩ := pf
  clear hf ho hov
  go_enter Tryz.func33, Tryz.ntmps33
  go_wp2_with fail
  go_loopw [6, 8] (fun s i wr => ∃ k : Nat, k ≤ fss.length ∧ i = .int .i64 k ∧ s = .int .i64 (plc (leadF o v fss k)) ∧ LdO w0 w wr p n o v (leadF o v fss k)) (fun _ i _ => fss.length - (intOf i).toNat)
  case atStart => exact ⟨0, Nat.zero_le _, rfl, rfl, HL0.out⟩
  case round =>
    clear HL0
    obtain ⟨k, hk, rfl, rfl, hld⟩ := hrel
    have HLD := hid hld
    clear hld
    by_cases hk2 : k < fss.length
    · obtain ⟨b, off, fa, fc, rfl, hlt, c0, hpf⟩ := vl_at HX.out k hk2
      have HST : Hid (leadF o v fss (k + 1) = leadStep o v (leadF o v fss k) k (fss.getD k [])) := rfl
      have HRT := hid (HF.out _ (getD_memL fss k hk2))
      have HSB : Hid (∀ j' u', leadF o v fss k = some (j', u') → j' < k ∧ u'.2.length = N ∧ ∀ x ∈ u'.2, 0 ≤ x ∧ x ≤ 40000) := fun j' u' h => by
        obtain ⟨h1, us, h2⟩ := leadF_at h
        have hr := HF.out _ (getD_memL fss j' (by omega))
        rw [h2] at hr
        exact ⟨h1, hr.canon.len u' (by simp), hr.bd.bd u' (by simp)⟩
      generalize leadF o v fss k = st at HST HSB HLD
      generalize fss.getD k [] = f at c0 hpf HST HRT
      have HPF := hid hpf
      have hfl2 : f.length ≤ 2000 := HRT.out.len
      have HC0 := hid (cell_keep c0 H0.out)
      clear hpf c0
      go_wp2_with fail
      go_loopw [6, 9] (fun s i wm => ∃ m : Nat, m ≤ f.length ∧ i = .int .i64 m ∧ s = .int .i64 (plc (stM o v st k f m)) ∧ LdO w0 w wm p n o v (stM o v st k f m)) (fun _ i _ => f.length - (intOf i).toNat)
      case atStart => exact ⟨0, Nat.zero_le _, rfl, rfl, HLD.out⟩
      case round =>
        clear HLD
        obtain ⟨m, hmm, rfl, rfl, hlm⟩ := hrel
        have HLM := hid hlm
        have d0 := cell_keep HC0.out hlm.below
        by_cases hm2 : m < f.length
        · obtain ⟨fa2, fc2, hfv, _, hat0⟩ := HPF.out
          obtain ⟨b2, off2, hfa, hlt2, hat⟩ := hat0 (by omega)
          simp only [Value.slice.injEq, true_and] at hfv
          obtain ⟨e1, e2⟩ := hfv
          subst e1
          subst e2
          subst hfa
          obtain ⟨t0, ev, t1, hse⟩ := hat m hm2
          have HNO := hid (fun h => stM_none (o := o) (ov := v) (st := st) (i := k) (f := f) hm2 h)
          have HSO := hid (fun j u h => stM_some (o := o) (ov := v) (N := N) (st := st) (i := k) (f := f) (m := m) (j := j) (u := u) HOV.out HRT.out.canon.falls HRT.out.canon.len hm2 (fun j' u' h' => ⟨(HSB.out j' u' h').1, (HSB.out j' u' h').2.1⟩) h)
          have HTE := hid (And.intro (HRT.out.canon.len _ (getD_memT f m hm2)) (HRT.out.bd.bd _ (getD_memT f m hm2)))
          have HUB : Hid (∀ j u, stM o v st k f m = some (j, u) → u.2.length = N ∧ ∀ x ∈ u.2, 0 ≤ x ∧ x ≤ 40000) := fun j u h => by
            unfold stM at h
            split at h
            · exact (HSB.out j u h).2
            · cases f with
              | nil => simp at hm2
              | cons t ts =>
                have ht : t.2.length = N ∧ ∀ x ∈ t.2, 0 ≤ x ∧ x ≤ 40000 := ⟨HRT.out.canon.len t (by simp), HRT.out.bd.bd t (by simp)⟩
                cases hs : st with
                | none =>
                  rw [hs] at h
                  simp only [leadStep, Option.some.injEq, Prod.mk.injEq] at h
                  rw [← h.2]; exact ht
                | some q =>
                  obtain ⟨j0, u0⟩ := q
                  rw [hs] at h
                  simp only [leadStep] at h
                  split at h
                  · simp only [Option.some.injEq, Prod.mk.injEq] at h
                    rw [← h.2]; exact ht
                  · simp only [Option.some.injEq, Prod.mk.injEq] at h
                    rw [← h.2]; exact (HSB.out j0 u0 hs).2
          generalize stM o v st k f m = cur at HNO HSO HUB HLM hlm
          generalize f.getD m noT = t at t0 hse HNO HSO HTE
          have HSE := hid hse
          obtain ⟨ea, ec, rfl, _⟩ := hse
          have k0 := cell_keep (cell_keep t0 H0.out) hlm.below
          have k1 := cell_keep (cell_keep t1 H0.out) hlm.below
          clear hat0 hat t0 t1
          cases cur with
          | none =>
            have HN1 := hid (HNO.out rfl)
            obtain ⟨mm, hm1⟩ : ∃ mm : Int, plc none = mm := ⟨_, rfl⟩
            have hm0 : mm < 0 := by rw [← hm1]; decide
            have hd : decide (mm < 0) = true := decide_eq_true hm0
            rw [hm1]
            clear hm1 hlm
            obtain ⟨ea0, ec0, hown, _⟩ := HLM.out.own
            have z0 : wr.cell? ⟨w.heap.size + 1 + 1, 0, none⟩ = some (.int .i64 (ldC none)) := hown.cellAt 0 (by omega)
            have z1 : wr.cell? ⟨w.heap.size + 1 + 1, 1, none⟩ = some (.slice ea0 (ldE none).length ec0) := hown.cellAt 1 (by omega)
            have y0 := hown.frozenAt 0
            have y1 := hown.frozenAt 1
            clear hown
            go_wp2_with fail
            go_quiet (fail)
            go_wp2_with fail
            go_region
            all_goals
              have HLQ := hid ((HLM.out.next (below_drewN (Below.refl wr.heap.size wr) (nq + 1))).put k t ea ec HSE.out)
              go_wp2_with fail
              go_roundw
              case rel => exact ⟨m + 1, by omega, by go_num, by rw [HN1.out]; rfl, by rw [HN1.out]; exact HLQ.out⟩
              case measure => simp [intOf]; omega
          | some q =>
            obtain ⟨j, u⟩ := q
            have HS1 := hid (HSO.out j u rfl)
            have HU := hid (HUB.out j u rfl)
            obtain ⟨mm, hmj⟩ : ∃ mm : Int, (j : Int) = mm := ⟨_, rfl⟩
            have hm0 : ¬ mm < 0 := by omega
            have hd : decide (mm < 0) = false := decide_eq_false hm0
            rw [plc_some, hmj]
            rw [hmj] at HS1
            have HMJ := hid hmj
            obtain ⟨ea0, ec0, hown, hsu⟩ := HLM.out.own
            have z1 : wr.cell? ⟨w.heap.size + 1 + 1, 1, none⟩ = some (.slice ea0 u.2.length ec0) := hown.cellAt 1 (by omega)
            have HSU : Hid (Sl w0 (.slice ea0 u.2.length ec0) u.2) := hsu
            have HLL : Hid (t.2.length = u.2.length) := HTE.out.1.trans HU.out.1.symm
            have ht0 : 0 < t.2.length := by rw [HTE.out.1]; exact hN0
            have ht3 : t.2.length ≤ 3 := by rw [HTE.out.1]; exact hN
            obtain ⟨_, bx0, bx1, bx2, bx3⟩ := HLM.out.box
            have KEEP : Hid (∀ W, Below wr.heap.size wr W → (Hid (Below wr.heap.size wr W) ∧ W.cell? ⟨w.heap.size, 0, none⟩ = some (.int .i64 p) ∧ W.cell? ⟨w.heap.size, 1, none⟩ = some (.int .i64 n) ∧ W.cell? ⟨w.heap.size, 2, none⟩ = some (.int .i64 o) ∧ W.cell? ⟨w.heap.size, 3, none⟩ = some (.int .i64 v) ∧ W.cell? ⟨b, off + k, none⟩ = some (.slice (some ⟨b2, off2, none⟩) f.length fc) ∧ W.cell? ⟨b2, off2 + m * 2 + 1, none⟩ = some (.slice ea t.2.length ec) ∧ W.cell? ⟨w.heap.size + 1 + 1, 1, none⟩ = some (.slice ea0 u.2.length ec0))) :=
              fun W hb => ⟨hb, cell_keep bx0 hb, cell_keep bx1 hb, cell_keep bx2 hb, cell_keep bx3 hb, cell_keep d0 hb, cell_keep k1 hb, cell_keep z1 hb⟩
            have HK0 := hid k0
            have HK1 := hid k1
            have HD0 := hid d0
            have HB0 : Hid (Below wr.heap.size wr wr.drew) := (Below.refl _ _).drew
            have HBL := hid hlm.below
            clear hmj hown hsu z1 bx0 bx1 bx2 bx3 hlm k0 k1
            cases hb : aheadB o v k t.2 mm u.2
            · rw [hb, if_neg (by simp)] at HS1
              go_wp2_with fail
              go_region_held (fun W => Hid (Below wr.heap.size wr W) ∧ W.cell? ⟨w.heap.size, 0, none⟩ = some (.int .i64 p) ∧ W.cell? ⟨w.heap.size, 1, none⟩ = some (.int .i64 n) ∧ W.cell? ⟨w.heap.size, 2, none⟩ = some (.int .i64 o) ∧ W.cell? ⟨w.heap.size, 3, none⟩ = some (.int .i64 v) ∧ W.cell? ⟨b, off + k, none⟩ = some (.slice (some ⟨b2, off2, none⟩) f.length fc) ∧ W.cell? ⟨b2, off2 + m * 2 + 1, none⟩ = some (.slice ea t.2.length ec) ∧ W.cell? ⟨w.heap.size + 1 + 1, 1, none⟩ = some (.slice ea0 u.2.length ec0))
                (first | exact KEEP.out _ HB0.out | exact KEEP.out _ (HB0.out.trans (hb9.mono HB0.out.size)))
                (first | (go_at_call 71; refine (ahead_any p n o v k mm _ _ t.2 u.2 _ HO.out ht0 ht3 HLL.out HTE.out.2 HU.out.2 ?_ ?_).mono ?_; exact ((HSE.out.below H0.out).below HBL.out).below HB0.out; exact ((HSU.out.below H0.out).below HBL.out).below HB0.out; rw [hb]; rintro e w9 ⟨rfl, hb9⟩))
              have HB9 := hid (show Below wr.heap.size wr w9 from HB0.out.trans (hb9.mono HB0.out.size))
              clear hb9
              go_wp2_with fail
              go_roundw
              case rel => exact ⟨m + 1, by omega, by go_num, by rw [HS1.out, plc_some, HMJ.out], by rw [HS1.out]; exact HLM.out.next HB9.out⟩
              case measure => simp [intOf]; omega
            · rw [hb, if_pos rfl] at HS1
              go_wp2_with fail
              go_region_held (fun W => Hid (Below wr.heap.size wr W) ∧ W.cell? ⟨w.heap.size, 0, none⟩ = some (.int .i64 p) ∧ W.cell? ⟨w.heap.size, 1, none⟩ = some (.int .i64 n) ∧ W.cell? ⟨w.heap.size, 2, none⟩ = some (.int .i64 o) ∧ W.cell? ⟨w.heap.size, 3, none⟩ = some (.int .i64 v) ∧ W.cell? ⟨b, off + k, none⟩ = some (.slice (some ⟨b2, off2, none⟩) f.length fc) ∧ W.cell? ⟨b2, off2 + m * 2 + 1, none⟩ = some (.slice ea t.2.length ec) ∧ W.cell? ⟨w.heap.size + 1 + 1, 1, none⟩ = some (.slice ea0 u.2.length ec0))
                (first | exact KEEP.out _ HB0.out | exact KEEP.out _ (HB0.out.trans (hb9.mono HB0.out.size)))
                (first | (go_at_call 71; refine (ahead_any p n o v k mm _ _ t.2 u.2 _ HO.out ht0 ht3 HLL.out HTE.out.2 HU.out.2 ?_ ?_).mono ?_; exact ((HSE.out.below H0.out).below HBL.out).below HB0.out; exact ((HSU.out.below H0.out).below HBL.out).below HB0.out; rw [hb]; rintro e w9 ⟨rfl, hb9⟩))
              have HB9 := hid (show Below wr.heap.size wr w9 from HB0.out.trans (hb9.mono HB0.out.size))
              clear hb9
              have HL9 := hid (HLM.out.next HB9.out)
              obtain ⟨ea1, ec1, hown, _⟩ := HL9.out.own
              have z0 : w9.cell? ⟨w.heap.size + 1 + 1, 0, none⟩ = some (.int .i64 (ldC (some (j, u)))) := hown.cellAt 0 (by omega)
              have z1 : w9.cell? ⟨w.heap.size + 1 + 1, 1, none⟩ = some (.slice ea1 (ldE (some (j, u))).length ec1) := hown.cellAt 1 (by omega)
              have y0 := hown.frozenAt 0
              have y1 := hown.frozenAt 1
              have k0 := cell_keep HK0.out HB9.out
              have k1 := cell_keep HK1.out HB9.out
              have d0 := cell_keep HD0.out HB9.out
              clear hown
              go_wp2_with fail
              go_region
              all_goals
                have HLQ := hid ((HL9.out.next (Below.refl w9.heap.size w9).drew).put k t ea ec HSE.out)
                go_wp2_with fail
                go_roundw
                case rel => exact ⟨m + 1, by omega, by go_num, by rw [HS1.out]; rfl, by rw [HS1.out]; exact HLQ.out⟩
                case measure => simp [intOf]; omega
        · have e : m = f.length := by omega
          subst e
          have HFIN : Hid (stM o v st k f f.length = leadF o v fss (k + 1)) := by show _ = _; rw [HST.out, stM_all]
          rw [HFIN.out] at HLM ⊢
          clear hlm
          go_wp2_with fail
          go_roundw
          case rel => exact ⟨k + 1, by omega, by go_num, rfl, HLM.out⟩
          case measure => simp [intOf]; omega
    · have e : k = fss.length := by omega
      subst e
      obtain ⟨ea0, ec0, hown, hsl⟩ := HLD.out.own
      have z0 : wr.cell? ⟨w.heap.size + 1 + 1, 0, none⟩ = some (.int .i64 (ldC (leadF o v fss fss.length))) := hown.cellAt 0 (by omega)
      have z1 : wr.cell? ⟨w.heap.size + 1 + 1, 1, none⟩ = some (.slice ea0 (ldE (leadF o v fss fss.length)).length ec0) := hown.cellAt 1 (by omega)
      have r0 : wr.cell? ⟨w.heap.size + 1, 0, none⟩ = some (.int .i64 0) := HLD.out.res.cellAt 0 (by omega)
      have r1 : wr.cell? ⟨w.heap.size + 1, 1, none⟩ = some (.slice none 0 0) := HLD.out.res.cellAt 1 (by omega)
      have q0 := HLD.out.res.frozenAt 0
      have q1 := HLD.out.res.frozenAt 1
      have HSL := hid hsl
      clear hown hsl
      go_wp2_with fail
      go_region
      have s1 := HLD.out.res.stored 0 (.int .i64 (ldC (leadF o v fss fss.length)))
      have s2 := s1.1.stored 1 (.slice ea0 (ldE (leadF o v fss fss.length)).length ec0)
      have HBF := hid (HLD.out.below.trans (grown_below (grown_trans s1.2 s2.2) (by omega) HLD.out.below.size)).drew
      have x0 := s2.1.cellAt 0 (by omega)
      have x1 := s2.1.cellAt 1 (by omega)
      clear s1 s2
      go_wp2
      refine bodyPost_ret (v := .tuple #[.int .i64 (plc (leadF o v fss fss.length)), .agg #[.int .i64 (ldC (leadF o v fss fss.length)), .slice ea0 (ldE (leadF o v fss fss.length)).length ec0]]) (by simp at x0 x1; simp [results, Tryz.results33, go_sem, x0, x1]) rfl ⟨ea0, ec0, rfl, HSL.out, HBF.out⟩

end Go.Proofs.YtkmjmmnnnbjghaaGreat

/- LeadOf of the reference, of vectors that are greater than what is handed in. -/
namespace Go.Proofs.YtkmjmmnnnbjghaaGreat
set_option linter.unusedSimpArgs false
set_option linter.unusedVariables false
open Go.RowKit

/-- A polynomial on the way of a division. -/
structure Rgb (p o : Int) (N : Nat) (f : List Tm) : Prop where
  canon : Canon p o N f
  bd : ∀ t ∈ f, ∀ x ∈ t.2, 0 ≤ x ∧ x ≤ 40000
  len : f.length ≤ 600000000000

set_option maxRecDepth 100000 in
set_option maxHeartbeats 4000000 in
theorem leadOf_big (w0 : World) (p n o v : Int) (N : Nat) (x : Value) (fss : List (List Tm)) (w : World) (h0 : Below w0.heap.size w0 w) (hov : v = 1 ∨ v = 2) (ho : o = 1 ∨ o = 2) (hN0 : 0 < N) (hN : N ≤ 3) (hm : fss.length ≤ 1000) (hf : ∀ f ∈ fss, Rgb p o N f) (pf : Vl w0 x fss) :
    Calls Tryz.prog 33 #[ringV p n o v, x] w fun e w' => ∃ ea ec, e = .returned (.tuple #[.int .i64 (plc (leadF o v fss fss.length)), .agg #[.int .i64 (ldC (leadF o v fss fss.length)), .slice ea (ldE (leadF o v fss fss.length)).length ec]]) ∧ Sl w0 (.slice ea (ldE (leadF o v fss fss.length)).length ec) (ldE (leadF o v fss fss.length)) ∧ Below w.heap.size w w' := by
  have H0 := hid h0
  clear h0
  have HX := hid pf
  have HF := hid hf
  have HO := hid ho
  have HOV := hid hov
  have HL0 := hid (LdO.first w0 w p n o v)
  obtain ⟨ax, cx, rfl, _⟩ := pf
  clear hf ho hov
  go_enter Tryz.func33, Tryz.ntmps33
  go_wp2_with fail
  go_loopw [6, 8] (fun s i wr => ∃ k : Nat, k ≤ fss.length ∧ i = .int .i64 k ∧ s = .int .i64 (plc (leadF o v fss k)) ∧ LdO w0 w wr p n o v (leadF o v fss k)) (fun _ i _ => fss.length - (intOf i).toNat)
  case atStart => exact ⟨0, Nat.zero_le _, rfl, rfl, HL0.out⟩
  case round =>
    clear HL0
    obtain ⟨k, hk, rfl, rfl, hld⟩ := hrel
    have HLD := hid hld
    clear hld
    by_cases hk2 : k < fss.length
    · obtain ⟨b, off, fa, fc, rfl, hlt, c0, hpf⟩ := vl_at HX.out k hk2
      have HST : Hid (leadF o v fss (k + 1) = leadStep o v (leadF o v fss k) k (fss.getD k [])) := rfl
      have HRT := hid (HF.out _ (getD_memL fss k hk2))
      have HSB : Hid (∀ j' u', leadF o v fss k = some (j', u') → j' < k ∧ u'.2.length = N ∧ ∀ x ∈ u'.2, 0 ≤ x ∧ x ≤ 40000) := fun j' u' h => by
        obtain ⟨h1, us, h2⟩ := leadF_at h
        have hr := HF.out _ (getD_memL fss j' (by omega))
        rw [h2] at hr
        exact ⟨h1, hr.canon.len u' (by simp), hr.bd u' (by simp)⟩
      generalize leadF o v fss k = st at HST HSB HLD
      generalize fss.getD k [] = f at c0 hpf HST HRT
      have HPF := hid hpf
      have hfl2 : f.length ≤ 600000000000 := HRT.out.len
      have HC0 := hid (cell_keep c0 H0.out)
      clear hpf c0
      go_wp2_with fail
      go_loopw [6, 9] (fun s i wm => ∃ m : Nat, m ≤ f.length ∧ i = .int .i64 m ∧ s = .int .i64 (plc (stM o v st k f m)) ∧ LdO w0 w wm p n o v (stM o v st k f m)) (fun _ i _ => f.length - (intOf i).toNat)
      case atStart => exact ⟨0, Nat.zero_le _, rfl, rfl, HLD.out⟩
      case round =>
        clear HLD
        obtain ⟨m, hmm, rfl, rfl, hlm⟩ := hrel
        have HLM := hid hlm
        have d0 := cell_keep HC0.out hlm.below
        by_cases hm2 : m < f.length
        · obtain ⟨fa2, fc2, hfv, _, hat0⟩ := HPF.out
          obtain ⟨b2, off2, hfa, hlt2, hat⟩ := hat0 (by omega)
          simp only [Value.slice.injEq, true_and] at hfv
          obtain ⟨e1, e2⟩ := hfv
          subst e1
          subst e2
          subst hfa
          obtain ⟨t0, ev, t1, hse⟩ := hat m hm2
          have HNO := hid (fun h => stM_none (o := o) (ov := v) (st := st) (i := k) (f := f) hm2 h)
          have HSO := hid (fun j u h => stM_some (o := o) (ov := v) (N := N) (st := st) (i := k) (f := f) (m := m) (j := j) (u := u) HOV.out HRT.out.canon.falls HRT.out.canon.len hm2 (fun j' u' h' => ⟨(HSB.out j' u' h').1, (HSB.out j' u' h').2.1⟩) h)
          have HTE := hid (And.intro (HRT.out.canon.len _ (getD_memT f m hm2)) (HRT.out.bd _ (getD_memT f m hm2)))
          have HUB : Hid (∀ j u, stM o v st k f m = some (j, u) → u.2.length = N ∧ ∀ x ∈ u.2, 0 ≤ x ∧ x ≤ 40000) := fun j u h => by
            unfold stM at h
            split at h
            · exact (HSB.out j u h).2
            · cases f with
              | nil => simp at hm2
              | cons t ts =>
                have ht : t.2.length = N ∧ ∀ x ∈ t.2, 0 ≤ x ∧ x ≤ 40000 := ⟨HRT.out.canon.len t (by simp), HRT.out.bd t (by simp)⟩
                cases hs : st with
                | none =>
                  rw [hs] at h
                  simp only [leadStep, Option.some.injEq, Prod.mk.injEq] at h
                  rw [← h.2]; exact ht
                | some q =>
                  obtain ⟨j0, u0⟩ := q
                  rw [hs] at h
                  simp only [leadStep] at h
                  split at h
                  · simp only [Option.some.injEq, Prod.mk.injEq] at h
                    rw [← h.2]; exact ht
                  · simp only [Option.some.injEq, Prod.mk.injEq] at h
                    rw [← h.2]; exact (HSB.out j0 u0 hs).2
          generalize stM o v st k f m = cur at HNO HSO HUB HLM hlm
          generalize f.getD m noT = t at t0 hse HNO HSO HTE
          have HSE := hid hse
          obtain ⟨ea, ec, rfl, _⟩ := hse
          have k0 := cell_keep (cell_keep t0 H0.out) hlm.below
          have k1 := cell_keep (cell_keep t1 H0.out) hlm.below
          clear hat0 hat t0 t1
          cases cur with
          | none =>
            have HN1 := hid (HNO.out rfl)
            obtain ⟨mm, hm1⟩ : ∃ mm : Int, plc none = mm := ⟨_, rfl⟩
            have hm0 : mm < 0 := by rw [← hm1]; decide
            have hd : decide (mm < 0) = true := decide_eq_true hm0
            rw [hm1]
            clear hm1 hlm
            obtain ⟨ea0, ec0, hown, _⟩ := HLM.out.own
            have z0 : wr.cell? ⟨w.heap.size + 1 + 1, 0, none⟩ = some (.int .i64 (ldC none)) := hown.cellAt 0 (by omega)
            have z1 : wr.cell? ⟨w.heap.size + 1 + 1, 1, none⟩ = some (.slice ea0 (ldE none).length ec0) := hown.cellAt 1 (by omega)
            have y0 := hown.frozenAt 0
            have y1 := hown.frozenAt 1
            clear hown
            go_wp2_with fail
            go_quiet (fail)
            go_wp2_with fail
            go_region
            all_goals
              have HLQ := hid ((HLM.out.next (below_drewN (Below.refl wr.heap.size wr) (nq + 1))).put k t ea ec HSE.out)
              go_wp2_with fail
              go_roundw
              case rel => exact ⟨m + 1, by omega, by go_num, by rw [HN1.out]; rfl, by rw [HN1.out]; exact HLQ.out⟩
              case measure => simp [intOf]; omega
          | some q =>
            obtain ⟨j, u⟩ := q
            have HS1 := hid (HSO.out j u rfl)
            have HU := hid (HUB.out j u rfl)
            obtain ⟨mm, hmj⟩ : ∃ mm : Int, (j : Int) = mm := ⟨_, rfl⟩
            have hm0 : ¬ mm < 0 := by omega
            have hd : decide (mm < 0) = false := decide_eq_false hm0
            rw [plc_some, hmj]
            rw [hmj] at HS1
            have HMJ := hid hmj
            obtain ⟨ea0, ec0, hown, hsu⟩ := HLM.out.own
            have z1 : wr.cell? ⟨w.heap.size + 1 + 1, 1, none⟩ = some (.slice ea0 u.2.length ec0) := hown.cellAt 1 (by omega)
            have HSU : Hid (Sl w0 (.slice ea0 u.2.length ec0) u.2) := hsu
            have HLL : Hid (t.2.length = u.2.length) := HTE.out.1.trans HU.out.1.symm
            have ht0 : 0 < t.2.length := by rw [HTE.out.1]; exact hN0
            have ht3 : t.2.length ≤ 3 := by rw [HTE.out.1]; exact hN
            obtain ⟨_, bx0, bx1, bx2, bx3⟩ := HLM.out.box
            have KEEP : Hid (∀ W, Below wr.heap.size wr W → (Hid (Below wr.heap.size wr W) ∧ W.cell? ⟨w.heap.size, 0, none⟩ = some (.int .i64 p) ∧ W.cell? ⟨w.heap.size, 1, none⟩ = some (.int .i64 n) ∧ W.cell? ⟨w.heap.size, 2, none⟩ = some (.int .i64 o) ∧ W.cell? ⟨w.heap.size, 3, none⟩ = some (.int .i64 v) ∧ W.cell? ⟨b, off + k, none⟩ = some (.slice (some ⟨b2, off2, none⟩) f.length fc) ∧ W.cell? ⟨b2, off2 + m * 2 + 1, none⟩ = some (.slice ea t.2.length ec) ∧ W.cell? ⟨w.heap.size + 1 + 1, 1, none⟩ = some (.slice ea0 u.2.length ec0))) :=
              fun W hb => ⟨hb, cell_keep bx0 hb, cell_keep bx1 hb, cell_keep bx2 hb, cell_keep bx3 hb, cell_keep d0 hb, cell_keep k1 hb, cell_keep z1 hb⟩
            have HK0 := hid k0
            have HK1 := hid k1
            have HD0 := hid d0
            have HB0 : Hid (Below wr.heap.size wr wr.drew) := (Below.refl _ _).drew
            have HBL := hid hlm.below
            clear hmj hown hsu z1 bx0 bx1 bx2 bx3 hlm k0 k1
            cases hb : aheadB o v k t.2 mm u.2
            · rw [hb, if_neg (by simp)] at HS1
              go_wp2_with fail
              go_region_held (fun W => Hid (Below wr.heap.size wr W) ∧ W.cell? ⟨w.heap.size, 0, none⟩ = some (.int .i64 p) ∧ W.cell? ⟨w.heap.size, 1, none⟩ = some (.int .i64 n) ∧ W.cell? ⟨w.heap.size, 2, none⟩ = some (.int .i64 o) ∧ W.cell? ⟨w.heap.size, 3, none⟩ = some (.int .i64 v) ∧ W.cell? ⟨b, off + k, none⟩ = some (.slice (some ⟨b2, off2, none⟩) f.length fc) ∧ W.cell? ⟨b2, off2 + m * 2 + 1, none⟩ = some (.slice ea t.2.length ec) ∧ W.cell? ⟨w.heap.size + 1 + 1, 1, none⟩ = some (.slice ea0 u.2.length ec0))
                (first | exact KEEP.out _ HB0.out | exact KEEP.out _ (HB0.out.trans (hb9.mono HB0.out.size)))
                (first | (go_at_call 71; refine (ahead_any p n o v k mm _ _ t.2 u.2 _ HO.out ht0 ht3 HLL.out HTE.out.2 HU.out.2 ?_ ?_).mono ?_; exact ((HSE.out.below H0.out).below HBL.out).below HB0.out; exact ((HSU.out.below H0.out).below HBL.out).below HB0.out; rw [hb]; rintro e w9 ⟨rfl, hb9⟩))
              have HB9 := hid (show Below wr.heap.size wr w9 from HB0.out.trans (hb9.mono HB0.out.size))
              clear hb9
              go_wp2_with fail
              go_roundw
              case rel => exact ⟨m + 1, by omega, by go_num, by rw [HS1.out, plc_some, HMJ.out], by rw [HS1.out]; exact HLM.out.next HB9.out⟩
              case measure => simp [intOf]; omega
            · rw [hb, if_pos rfl] at HS1
              go_wp2_with fail
              go_region_held (fun W => Hid (Below wr.heap.size wr W) ∧ W.cell? ⟨w.heap.size, 0, none⟩ = some (.int .i64 p) ∧ W.cell? ⟨w.heap.size, 1, none⟩ = some (.int .i64 n) ∧ W.cell? ⟨w.heap.size, 2, none⟩ = some (.int .i64 o) ∧ W.cell? ⟨w.heap.size, 3, none⟩ = some (.int .i64 v) ∧ W.cell? ⟨b, off + k, none⟩ = some (.slice (some ⟨b2, off2, none⟩) f.length fc) ∧ W.cell? ⟨b2, off2 + m * 2 + 1, none⟩ = some (.slice ea t.2.length ec) ∧ W.cell? ⟨w.heap.size + 1 + 1, 1, none⟩ = some (.slice ea0 u.2.length ec0))
                (first | exact KEEP.out _ HB0.out | exact KEEP.out _ (HB0.out.trans (hb9.mono HB0.out.size)))
                (first | (go_at_call 71; refine (ahead_any p n o v k mm _ _ t.2 u.2 _ HO.out ht0 ht3 HLL.out HTE.out.2 HU.out.2 ?_ ?_).mono ?_; exact ((HSE.out.below H0.out).below HBL.out).below HB0.out; exact ((HSU.out.below H0.out).below HBL.out).below HB0.out; rw [hb]; rintro e w9 ⟨rfl, hb9⟩))
              have HB9 := hid (show Below wr.heap.size wr w9 from HB0.out.trans (hb9.mono HB0.out.size))
              clear hb9
              have HL9 := hid (HLM.out.next HB9.out)
              obtain ⟨ea1, ec1, hown, _⟩ := HL9.out.own
              have z0 : w9.cell? ⟨w.heap.size + 1 + 1, 0, none⟩ = some (.int .i64 (ldC (some (j, u)))) := hown.cellAt 0 (by omega)
              have z1 : w9.cell? ⟨w.heap.size + 1 + 1, 1, none⟩ = some (.slice ea1 (ldE (some (j, u))).length ec1) := hown.cellAt 1 (by omega)
              have y0 := hown.frozenAt 0
              have y1 := hown.frozenAt 1
              have k0 := cell_keep HK0.out HB9.out
              have k1 := cell_keep HK1.out HB9.out
              have d0 := cell_keep HD0.out HB9.out
              clear hown
              go_wp2_with fail
              go_region
              all_goals
                have HLQ := hid ((HL9.out.next (Below.refl w9.heap.size w9).drew).put k t ea ec HSE.out)
                go_wp2_with fail
                go_roundw
                case rel => exact ⟨m + 1, by omega, by go_num, by rw [HS1.out]; rfl, by rw [HS1.out]; exact HLQ.out⟩
                case measure => simp [intOf]; omega
        · have e : m = f.length := by omega
          subst e
          have HFIN : Hid (stM o v st k f f.length = leadF o v fss (k + 1)) := by show _ = _; rw [HST.out, stM_all]
          rw [HFIN.out] at HLM ⊢
          clear hlm
          go_wp2_with fail
          go_roundw
          case rel => exact ⟨k + 1, by omega, by go_num, rfl, HLM.out⟩
          case measure => simp [intOf]; omega
    · have e : k = fss.length := by omega
      subst e
      obtain ⟨ea0, ec0, hown, hsl⟩ := HLD.out.own
      have z0 : wr.cell? ⟨w.heap.size + 1 + 1, 0, none⟩ = some (.int .i64 (ldC (leadF o v fss fss.length))) := hown.cellAt 0 (by omega)
      have z1 : wr.cell? ⟨w.heap.size + 1 + 1, 1, none⟩ = some (.slice ea0 (ldE (leadF o v fss fss.length)).length ec0) := hown.cellAt 1 (by omega)
      have r0 : wr.cell? ⟨w.heap.size + 1, 0, none⟩ = some (.int .i64 0) := HLD.out.res.cellAt 0 (by omega)
      have r1 : wr.cell? ⟨w.heap.size + 1, 1, none⟩ = some (.slice none 0 0) := HLD.out.res.cellAt 1 (by omega)
      have q0 := HLD.out.res.frozenAt 0
      have q1 := HLD.out.res.frozenAt 1
      have HSL := hid hsl
      clear hown hsl
      go_wp2_with fail
      go_region
      have s1 := HLD.out.res.stored 0 (.int .i64 (ldC (leadF o v fss fss.length)))
      have s2 := s1.1.stored 1 (.slice ea0 (ldE (leadF o v fss fss.length)).length ec0)
      have HBF := hid (HLD.out.below.trans (grown_below (grown_trans s1.2 s2.2) (by omega) HLD.out.below.size)).drew
      have x0 := s2.1.cellAt 0 (by omega)
      have x1 := s2.1.cellAt 1 (by omega)
      clear s1 s2
      go_wp2
      refine bodyPost_ret (v := .tuple #[.int .i64 (plc (leadF o v fss fss.length)), .agg #[.int .i64 (ldC (leadF o v fss fss.length)), .slice ea0 (ldE (leadF o v fss fss.length)).length ec0]]) (by simp at x0 x1; simp [results, Tryz.results33, go_sem, x0, x1]) rfl ⟨ea0, ec0, rfl, HSL.out, HBF.out⟩

end Go.Proofs.YtkmjmmnnnbjghaaGreat

/- VTimes of the reference, by a polynomial of a greater degree. -/
namespace Go.Proofs.YtkmjmmnnnbjghaaGreat
set_option linter.unusedSimpArgs false
set_option linter.unusedVariables false
open Go.RowKit

/-- A polynomial to multiply by. -/
structure Rg2 (p o : Int) (N : Nat) (f : List Tm) : Prop where
  canon : Canon p o N f
  bd : Bd2 f
  len : f.length ≤ 2000

set_option maxRecDepth 100000 in
set_option maxHeartbeats 2000000 in
theorem vtimes_big (p n o v : Int) (N : Nat) (x y : Value) (f : List Tm) (gss : List (List Tm)) (w : World) (hp : 2 ≤ p ∧ p ≤ 101) (ho : o = 1 ∨ o = 2) (hN0 : 0 < N) (hN : N ≤ 3) (hm : gss.length ≤ 1000) (hf : Rg2 p o N f) (hg : ∀ g ∈ gss, Right p o N g) (pf : Pl w x f) (pg : Vl w y gss) :
    Calls Tryz.prog 38 #[ringV p n o v, x, y] w fun e w' => ∃ u, e = .returned u ∧ Vl w' u (prods p o f gss) ∧ Below w.heap.size w w' := by
  have HX := hid pf
  have HY := hid pg
  have HF := hid hf
  have HG := hid hg
  have HP := hid hp
  have HO := hid ho
  obtain ⟨ax, cx, rfl, _, _⟩ := pf
  obtain ⟨ay, cy, rfl, _⟩ := pg
  unfold prods
  clear hf hg hp ho
  obtain ⟨w1, hw1⟩ : ∃ w1, w1 = w.alloc (.cells #[.int .i64 p, .int .i64 n, .int .i64 o, .int .i64 v] 23) := ⟨_, rfl⟩
  have hbx : BoxAt w1 w.heap.size p n o v := by rw [hw1]; exact BoxAt.new w p n o v _
  have hbw : Below w.heap.size w w1 := by rw [hw1]; exact below_oneG
  have HBX := hid hbx
  have HBW := hid hbw
  clear hbx hbw
  go_enter Tryz.func38, Tryz.ntmps38
  go_wp2_with fail
  rw [← hw1]
  clear hw1
  go_loopw [7, 8] (fun z i wr => ∃ (k : Nat) (us : List Value), k ≤ gss.length ∧ i = .int .i64 k ∧ PRow w1.heap.size wr z us (((gss.map fun g => colL p o (prodL p f g))).take k) ∧ Below w1.heap.size w1 wr) (fun _ i _ => gss.length - (intOf i).toNat)
  case atStart => exact ⟨0, [], Nat.zero_le _, rfl, PRow.nil _ _, Below.refl _ _⟩
  case round =>
    obtain ⟨k, us, hk, rfl, hrow, hbr⟩ := hrel
    have HROW := hid hrow
    have HBR := hid hbr
    obtain ⟨ys, hys⟩ : ∃ ys, ((gss.map fun g => colL p o (prodL p f g))).take k = ys := ⟨_, rfl⟩
    have HTL : Hid (ys.length = k) := by show _ = _; rw [← hys, List.length_take, List.length_map]; omega
    rw [hys] at hrow HROW
    have HYS := hid hys
    clear hys
    obtain ⟨za, zc, hz⟩ := own_sl hrow.own
    subst hz
    clear hrow hbr
    by_cases hk2 : k < gss.length
    · obtain ⟨b2, off2, ga, gc, rfl, hlt2, d0, hpg⟩ := vl_at HY.out k hk2
      have HDN := hid (HBW.out.trans (HBR.out.mono HBW.out.size))
      have HTS : Hid (((gss.map fun g => colL p o (prodL p f g))).take (k + 1) = ys ++ [colL p o (prodL p f (gss.getD k []))]) := by
        show _ = _
        rw [← HYS.out, take_snocL _ _ (by rw [List.length_map]; exact hk2), getD_mapL (fun g => colL p o (prodL p f g)) _ _ hk2]
      have HGK := hid (HG.out _ (getD_memL gss k hk2))
      generalize gss.getD k [] = g at d0 hpg HTS HGK
      have HPG := hid (hpg.below HBW.out)
      clear hpg
      obtain ⟨_, bx0, bx1, bx2, bx3⟩ := HBX.out
      have KEEP : Hid (∀ W, Below w1.heap.size w1 W → (Hid (Below w1.heap.size w1 W) ∧ W.cell? ⟨w.heap.size, 0, none⟩ = some (.int .i64 p) ∧ W.cell? ⟨w.heap.size, 1, none⟩ = some (.int .i64 n) ∧ W.cell? ⟨w.heap.size, 2, none⟩ = some (.int .i64 o) ∧ W.cell? ⟨w.heap.size, 3, none⟩ = some (.int .i64 v) ∧ W.cell? ⟨b2, off2 + k, none⟩ = some (.slice ga g.length gc))) :=
        fun W hb => ⟨hb, cell_keep bx0 hb, cell_keep bx1 hb, cell_keep bx2 hb, cell_keep bx3 hb, cell_keep (cell_keep d0 HBW.out) hb⟩
      have HB0 : Hid (Below w1.heap.size w1 wr.drew) := HBR.out.drew
      clear bx0 bx1 bx2 bx3 d0
      go_wp2
      go_region_held_law (fun W => Hid (Below w1.heap.size w1 W) ∧ W.cell? ⟨w.heap.size, 0, none⟩ = some (.int .i64 p) ∧ W.cell? ⟨w.heap.size, 1, none⟩ = some (.int .i64 n) ∧ W.cell? ⟨w.heap.size, 2, none⟩ = some (.int .i64 o) ∧ W.cell? ⟨w.heap.size, 3, none⟩ = some (.int .i64 v) ∧ W.cell? ⟨b2, off2 + k, none⟩ = some (.slice ga g.length gc))
        (first | exact KEEP.out _ HB0.out | exact KEEP.out _ HB7.out | exact KEEP.out _ (HB6.out.trans (belowNew.mono HB6.out.size)) | exact KEEP.out _ HB6.out)
        (first
          | (refine step_append_prow rfl (.tmp 15) (.tmp 23) 25 rfl Tryz.underlying25 w1.heap.size (.slice za ys.length zc) us ys (by simp [Act.eval, Act.put]) (PR6.out.next belowNew) ⟨w6.heap.size, 0, none⟩ 1 (.slice ua6 (colL p o (prodL p f g)).length uc6) (colL p o (prodL p f g)) (HU6.out.below belowNew) (by simp [Act.eval, Act.put]) (one_newP _ _ _) (by rw [HTL.out]; omega) (Nat.le_trans HB6.out.size (by simp)) ?_; intro v7 w7 r1 r2; have HB7 := hid (show Below w1.heap.size w1 w7 from (PR6.out.next belowNew).grown (HB6.out.trans (belowNew.mono HB6.out.size)) r2 (Nat.le_refl _)); obtain ⟨va7, vc7, hv7⟩ := own_sl r1.own; rw [len_snoc] at hv7; subst hv7; have HR7 := hid r1; clear r1 r2)
          | (go_at_call 74; refine (refProduct_any p n o v N _ _ f g _ HP.out HO.out hN0 hN HF.out.canon.len HGK.out.canon.len ?_ ?_ HF.out.bd HGK.out.bd HF.out.len HGK.out.len ?_ ?_).mono ?_; exact (fun t ht => ⟨by have := HF.out.canon.coef t ht; omega, (HF.out.canon.coef t ht).2⟩); exact (fun t ht => ⟨by have := HGK.out.canon.coef t ht; omega, (HGK.out.canon.coef t ht).2⟩); exact (HX.out.below HBW.out).below HB0.out; exact HPG.out.below HB0.out; rintro e w6 ⟨u6, rfl, hu6, hb6⟩; have PR6 := hid (HROW.out.next (((Below.refl wr.heap.size wr).drew).trans hb6)); have HB6 := hid (show Below w1.heap.size w1 w6 from HB0.out.trans (hb6.mono HB0.out.size)); have HU6 := hid hu6; obtain ⟨ua6, uc6, rfl, _, _⟩ := hu6; clear hb6))
      all_goals
        go_wp2
        first
          | exact ⟨⟨k + 1, us ++ [_], by omega, by go_num, by rw [HTS.out]; exact HR7.out, HB7.out⟩, by simp [intOf]; omega⟩
          | (go_roundw
             case rel => exact ⟨k + 1, us ++ [_], by omega, by go_num, by rw [HTS.out]; exact HR7.out, HB7.out⟩
             case measure => simp [intOf]; omega)
    · have e : k = gss.length := by omega
      subst e
      have HE : Hid ((gss.map fun g => colL p o (prodL p f g)) = ys) := by show _ = _; rw [← HYS.out, List.take_of_length_le (by rw [List.length_map]; exact Nat.le_refl _)]
      have HV := hid HROW.out.vl
      go_wp2
      go_ret
      exact ⟨_, rfl, by rw [HE.out]; exact HV.out, HBW.out.trans (HBR.out.mono HBW.out.size)⟩

end Go.Proofs.YtkmjmmnnnbjghaaGreat

/- Keys: of two terms at places the one that stands ahead has the greater key. -/
namespace Go.Proofs.YtkmjmmnnnbjghaaGreat
set_option linter.unusedSimpArgs false
set_option linter.unusedVariables false
open Go.RowKit

/-- What one more of a variable adds to a key. -/
def W0 (o : Int) : Int := if o = 1 then 68719476736 else 68723671040
def W1 (o : Int) : Int := if o = 1 then 68719476480 else 68719476992
def W2 (o : Int) : Int := if o = 1 then 68715282432 else 68719476736
/-- The key of 1 at a place. -/
def stK (ov i : Int) : Int := if ov = 2 then (255 - i) * 1125899906842624 else 255 - i
def addK (o : Int) (xs : List Int) : Int := xs.getD 0 0 * W0 o + xs.getD 1 0 * W1 o + xs.getD 2 0 * W2 o
def keyL (o ov i : Int) (xs : List Int) : Int := stK ov i + addK o xs

theorem len3 {xs : List Int} (h0 : 0 < xs.length) (h3 : xs.length ≤ 3) : (∃ a, xs = [a]) ∨ (∃ a b, xs = [a, b]) ∨ (∃ a b c, xs = [a, b, c]) := by
  match xs, h0, h3 with
  | [a], _, _ => exact Or.inl ⟨a, rfl⟩
  | [a, b], _, _ => exact Or.inr (Or.inl ⟨a, b, rfl⟩)
  | [a, b, c], _, _ => exact Or.inr (Or.inr ⟨a, b, c, rfl⟩)
  | _ :: _ :: _ :: _ :: _, _, h => simp at h
theorem len3_two {xs ys : List Int} (h0 : 0 < xs.length) (h3 : xs.length ≤ 3) (he : xs.length = ys.length) : (∃ a x, xs = [a] ∧ ys = [x]) ∨ (∃ a b x y, xs = [a, b] ∧ ys = [x, y]) ∨ (∃ a b c x y z, xs = [a, b, c] ∧ ys = [x, y, z]) := by
  rcases len3 h0 h3 with ⟨a, rfl⟩ | ⟨a, b, rfl⟩ | ⟨a, b, c, rfl⟩ <;> rcases len3 (xs := ys) (by omega) (by omega) with ⟨x, rfl⟩ | ⟨x, y, rfl⟩ | ⟨x, y, z, rfl⟩ <;> simp at he <;> simp
/-- Exponents whose degree leaves room in a key. -/
structure Exq (N : Nat) (xs : List Int) : Prop where
  len : xs.length = N
  nn : ∀ x ∈ xs, 0 ≤ x
  deg : sumI xs ≤ 16000

theorem cmp3 (a b : Int) : (cmpI a b = 0 ∧ a = b) ∨ (cmpI a b = -1 ∧ a < b) ∨ (cmpI a b = 1 ∧ b < a) := by
  unfold cmpI
  by_cases h1 : a < b
  · exact Or.inr (Or.inl ⟨if_pos h1, h1⟩)
  · by_cases h2 : b < a
    · exact Or.inr (Or.inr ⟨by rw [if_neg h1, if_pos h2], h2⟩)
    · exact Or.inl ⟨by rw [if_neg h1, if_neg h2], by omega⟩
/-- What is said of the order and of what is added to keys. -/
def OrdK (o : Int) (xs ys : List Int) : Prop := (0 < ordS o xs ys ∧ addK o ys + 256 ≤ addK o xs) ∨ (ordS o xs ys < 0 ∧ addK o xs + 256 ≤ addK o ys) ∨ (ordS o xs ys = 0 ∧ xs = ys)
theorem ord_key1 {o a x : Int} (ho : o = 1 ∨ o = 2) (na : 0 ≤ a) (nx : 0 ≤ x) : OrdK o [a] [x] := by
  unfold OrdK
  rcases ho with rfl | rfl <;> simp only [ordS, revC, lexC, sumI, addK, W0, W1, W2, List.reverse_cons, List.reverse_nil, List.nil_append, List.getD_cons_zero, List.getD_cons_succ, List.getD_nil, List.cons.injEq, eq_self, and_true, if_true, show ¬ ((2 : Int) = 1) from by decide, if_false, Int.add_zero] <;>
    rcases cmp3 a x with ⟨e, h⟩ | ⟨e, h⟩ | ⟨e, h⟩ <;> rcases cmp3 x a with ⟨e2, h2⟩ | ⟨e2, h2⟩ | ⟨e2, h2⟩ <;> simp only [e, e2, if_true, show ¬ ((-1 : Int) = 0) from by decide, show ¬ ((1 : Int) = 0) from by decide, if_false, true_and, false_and, or_false] <;> omega
set_option maxHeartbeats 1000000 in
theorem ord_key2 {o a b x y : Int} (ho : o = 1 ∨ o = 2) (na : 0 ≤ a) (nb : 0 ≤ b) (nx : 0 ≤ x) (ny : 0 ≤ y) (d1 : a + b ≤ 16000) (d2 : x + y ≤ 16000) : OrdK o [a, b] [x, y] := by
  unfold OrdK
  rcases ho with rfl | rfl <;> simp only [ordS, revC, lexC, sumI, addK, W0, W1, W2, List.reverse_cons, List.reverse_nil, List.nil_append, List.cons_append, List.getD_cons_zero, List.getD_cons_succ, List.getD_nil, List.cons.injEq, eq_self, and_true, if_true, show ¬ ((2 : Int) = 1) from by decide, if_false, Int.add_zero]
  · rcases cmp3 (a + b) (x + y) with ⟨e, h⟩ | ⟨e, h⟩ | ⟨e, h⟩ <;> simp only [e, if_true, show ¬ ((-1 : Int) = 0) from by decide, show ¬ ((1 : Int) = 0) from by decide, if_false, true_and, false_and, or_false]
    · rcases cmp3 y b with ⟨e, h⟩ | ⟨e, h⟩ | ⟨e, h⟩ <;> simp only [e, if_true, show ¬ ((-1 : Int) = 0) from by decide, show ¬ ((1 : Int) = 0) from by decide, if_false, true_and, false_and, or_false]
      · rcases cmp3 x a with ⟨e, h⟩ | ⟨e, h⟩ | ⟨e, h⟩ <;> simp only [e, if_true, show ¬ ((-1 : Int) = 0) from by decide, show ¬ ((1 : Int) = 0) from by decide, if_false, true_and, false_and, or_false] <;> omega
      · omega
      · omega
    · omega
    · omega
  · rcases cmp3 (a + b) (x + y) with ⟨e, h⟩ | ⟨e, h⟩ | ⟨e, h⟩ <;> simp only [e, if_true, show ¬ ((-1 : Int) = 0) from by decide, show ¬ ((1 : Int) = 0) from by decide, if_false, true_and, false_and, or_false]
    · rcases cmp3 a x with ⟨e, h⟩ | ⟨e, h⟩ | ⟨e, h⟩ <;> simp only [e, if_true, show ¬ ((-1 : Int) = 0) from by decide, show ¬ ((1 : Int) = 0) from by decide, if_false, true_and, false_and, or_false]
      · rcases cmp3 b y with ⟨e, h⟩ | ⟨e, h⟩ | ⟨e, h⟩ <;> simp only [e, if_true, show ¬ ((-1 : Int) = 0) from by decide, show ¬ ((1 : Int) = 0) from by decide, if_false, true_and, false_and, or_false] <;> omega
      · omega
      · omega
    · omega
    · exact Or.inl ⟨by decide, by omega⟩
set_option maxHeartbeats 2000000 in
theorem ord_key3 {o a b c x y z : Int} (ho : o = 1 ∨ o = 2) (na : 0 ≤ a) (nb : 0 ≤ b) (nc : 0 ≤ c) (nx : 0 ≤ x) (ny : 0 ≤ y) (nz : 0 ≤ z) (d1 : a + (b + c) ≤ 16000) (d2 : x + (y + z) ≤ 16000) : OrdK o [a, b, c] [x, y, z] := by
  unfold OrdK
  rcases ho with rfl | rfl <;> simp only [ordS, revC, lexC, sumI, addK, W0, W1, W2, List.reverse_cons, List.reverse_nil, List.nil_append, List.cons_append, List.getD_cons_zero, List.getD_cons_succ, List.getD_nil, List.cons.injEq, eq_self, and_true, if_true, show ¬ ((2 : Int) = 1) from by decide, if_false, Int.add_zero]
  · rcases cmp3 (a + (b + c)) (x + (y + z)) with ⟨e, h⟩ | ⟨e, h⟩ | ⟨e, h⟩ <;> simp only [e, if_true, show ¬ ((-1 : Int) = 0) from by decide, show ¬ ((1 : Int) = 0) from by decide, if_false, true_and, false_and, or_false]
    · rcases cmp3 z c with ⟨e, h⟩ | ⟨e, h⟩ | ⟨e, h⟩ <;> simp only [e, if_true, show ¬ ((-1 : Int) = 0) from by decide, show ¬ ((1 : Int) = 0) from by decide, if_false, true_and, false_and, or_false]
      · rcases cmp3 y b with ⟨e, h⟩ | ⟨e, h⟩ | ⟨e, h⟩ <;> simp only [e, if_true, show ¬ ((-1 : Int) = 0) from by decide, show ¬ ((1 : Int) = 0) from by decide, if_false, true_and, false_and, or_false]
        · rcases cmp3 x a with ⟨e, h⟩ | ⟨e, h⟩ | ⟨e, h⟩ <;> simp only [e, if_true, show ¬ ((-1 : Int) = 0) from by decide, show ¬ ((1 : Int) = 0) from by decide, if_false, true_and, false_and, or_false] <;> omega
        · omega
        · omega
      · omega
      · omega
    · omega
    · omega
  · rcases cmp3 (a + (b + c)) (x + (y + z)) with ⟨e, h⟩ | ⟨e, h⟩ | ⟨e, h⟩ <;> simp only [e, if_true, show ¬ ((-1 : Int) = 0) from by decide, show ¬ ((1 : Int) = 0) from by decide, if_false, true_and, false_and, or_false]
    · rcases cmp3 a x with ⟨e, h⟩ | ⟨e, h⟩ | ⟨e, h⟩ <;> simp only [e, if_true, show ¬ ((-1 : Int) = 0) from by decide, show ¬ ((1 : Int) = 0) from by decide, if_false, true_and, false_and, or_false]
      · rcases cmp3 b y with ⟨e, h⟩ | ⟨e, h⟩ | ⟨e, h⟩ <;> simp only [e, if_true, show ¬ ((-1 : Int) = 0) from by decide, show ¬ ((1 : Int) = 0) from by decide, if_false, true_and, false_and, or_false]
        · rcases cmp3 c z with ⟨e, h⟩ | ⟨e, h⟩ | ⟨e, h⟩ <;> simp only [e, if_true, show ¬ ((-1 : Int) = 0) from by decide, show ¬ ((1 : Int) = 0) from by decide, if_false, true_and, false_and, or_false] <;> omega
        · omega
        · omega
      · omega
      · omega
    · omega
    · omega
theorem ord_key {o : Int} {N : Nat} {xs ys : List Int} (ho : o = 1 ∨ o = 2) (h0 : 0 < N) (h3 : N ≤ 3) (hx : Exq N xs) (hy : Exq N ys) : OrdK o xs ys := by
  obtain ⟨lx, nx, dx⟩ := hx
  obtain ⟨ly, ny, dy⟩ := hy
  rcases len3_two (xs := xs) (ys := ys) (by omega) (by omega) (by omega) with ⟨a, x, rfl, rfl⟩ | ⟨a, b, x, y, rfl, rfl⟩ | ⟨a, b, c, x, y, z, rfl, rfl⟩
  · exact ord_key1 ho (nx a (by simp)) (ny x (by simp))
  · exact ord_key2 ho (nx a (by simp)) (nx b (by simp)) (ny x (by simp)) (ny y (by simp)) (by simpa [sumI] using dx) (by simpa [sumI] using dy)
  · exact ord_key3 ho (nx a (by simp)) (nx b (by simp)) (nx c (by simp)) (ny x (by simp)) (ny y (by simp)) (ny z (by simp)) (by simpa [sumI] using dx) (by simpa [sumI] using dy)

end Go.Proofs.YtkmjmmnnnbjghaaGreat

/- The program's small functions of flat terms. -/
namespace Go.Proofs.YtkmjmmnnnbjghaaGreat
set_option linter.unusedSimpArgs false
set_option linter.unusedVariables false
open Go.RowKit

def WtK (o : Int) (i : Nat) : Int := if i = 0 then W0 o else if i = 1 then W1 o else W2 o
theorem weight_any (o : Int) (i : Nat) (w : World) (ho : o = 1 ∨ o = 2) (hi : i < 3) : Calls Tryz.prog 55 #[.int .i64 o, .int .i64 i] w fun e w' => e = .returned (.int .i64 (WtK o i)) ∧ w' = w := by
  have h : i = 0 ∨ i = 1 ∨ i = 2 := by omega
  rcases ho with rfl | rfl <;> rcases h with rfl | rfl | rfl <;>
  · go_enter Tryz.func55, Tryz.ntmps55
    go_wp2
    go_ret
    exact ⟨rfl, rfl⟩
theorem start_any (ov : Int) (i : Nat) (w : World) (ho : ov = 1 ∨ ov = 2) (hi : i < 255) : Calls Tryz.prog 56 #[.int .i64 ov, .int .i64 i] w fun e w' => e = .returned (.int .i64 (stK ov i)) ∧ w' = w := by
  rcases ho with rfl | rfl
  · go_enter Tryz.func56, Tryz.ntmps56
    go_wp2
    go_ret
    exact ⟨rfl, rfl⟩
  · go_enter Tryz.func56, Tryz.ntmps56
    go_wp2
    go_ret
    exact ⟨rfl, rfl⟩

/-- The order, in memory. -/
structure OrdB (w : World) (ob : Nat) (p k0 k1 k2 : Int) (sv : Value) : Prop where
  lt : ob < w.heap.size
  c0 : w.cell? ⟨ob, 0, none⟩ = some (.int .u32 p)
  c1 : w.cell? ⟨ob, 1, none⟩ = some (.int .i64 k0)
  c2 : w.cell? ⟨ob, 2, none⟩ = some (.int .i64 k1)
  c3 : w.cell? ⟨ob, 3, none⟩ = some (.int .i64 k2)
  c4 : w.cell? ⟨ob, 4, none⟩ = some sv
theorem OrdB.below {w w' : World} {ob : Nat} {p k0 k1 k2 : Int} {sv : Value} (h : OrdB w ob p k0 k1 k2 sv) (hb : Below w.heap.size w w') : OrdB w' ob p k0 k1 k2 sv :=
  ⟨Nat.lt_of_lt_of_le h.lt hb.size, cell_keep h.c0 hb, cell_keep h.c1 hb, cell_keep h.c2 hb, cell_keep h.c3 hb, cell_keep h.c4 hb⟩
def exV (a b d z : Int) : Value := .agg #[.int .u16 a, .int .u16 b, .int .u16 d, .int .u16 z]
def partK (a b d k0 k1 k2 : Int) (k : Nat) : Int := if k = 0 then 0 else if k = 1 then a * k0 else if k = 2 then a * k0 + b * k1 else a * k0 + b * k1 + d * k2
theorem mulK {a k : Int} (ha : 0 ≤ a ∧ a ≤ 65535) (hk : 0 ≤ k ∧ k ≤ 137438953472) : 0 ≤ a * k ∧ a * k ≤ 9007061815787520 := by
  obtain ⟨h1, h2⟩ := ha
  obtain ⟨h3, h4⟩ := hk
  refine ⟨Int.mul_nonneg h1 h3, ?_⟩
  have : a * k ≤ 65535 * 137438953472 := Int.mul_le_mul h2 h4 h3 (by omega)
  omega

set_option maxRecDepth 100000 in
set_option maxHeartbeats 1000000 in
theorem added_any (ob : Nat) (p k0 k1 k2 : Int) (sv : Value) (a b d z : Int) (w : World) (ho : OrdB w ob p k0 k1 k2 sv) (ha : 0 ≤ a ∧ a ≤ 65535) (hb : 0 ≤ b ∧ b ≤ 65535) (hd : 0 ≤ d ∧ d ≤ 65535) (h0 : 0 ≤ k0 ∧ k0 ≤ 137438953472) (h1 : 0 ≤ k1 ∧ k1 ≤ 137438953472) (h2 : 0 ≤ k2 ∧ k2 ≤ 137438953472) :
    Calls Tryz.prog 97 #[.pointer (some ⟨ob, 0, none⟩), exV a b d z] w fun e w' => e = .returned (.int .i64 (a * k0 + b * k1 + d * k2)) ∧ Below w.heap.size w w' := by
  obtain ⟨m0, n0⟩ := mulK ha h0
  obtain ⟨m1, n1⟩ := mulK hb h1
  obtain ⟨m2, n2⟩ := mulK hd h2
  obtain ⟨hlt, c0, c1, c2, c3, c4⟩ := ho
  obtain ⟨w1, hw1⟩ : ∃ w1, w1 = w.alloc (.cells #[.int .u16 a, .int .u16 b, .int .u16 d, .int .u16 z] 50) := ⟨_, rfl⟩
  have HB : Hid (Below w.heap.size w w1) := by rw [hw1]; exact below_oneG
  have x0 : w1.cell? ⟨w.heap.size, 0, none⟩ = some (.int .u16 a) := by rw [hw1]; simp [go_sem]
  have x1 : w1.cell? ⟨w.heap.size, 1, none⟩ = some (.int .u16 b) := by rw [hw1]; simp [go_sem]
  have x2 : w1.cell? ⟨w.heap.size, 2, none⟩ = some (.int .u16 d) := by rw [hw1]; simp [go_sem]
  have i0 : ∀ w, (Instr.index 101 (.agg #[.int .i64 k0, .int .i64 k1, .int .i64 k2]) (.int .i64 0)).run Tryz.prog w = .ok (.int .i64 k0) w := fun _ => by kernel_rfl
  have i1 : ∀ w, (Instr.index 101 (.agg #[.int .i64 k0, .int .i64 k1, .int .i64 k2]) (.int .i64 1)).run Tryz.prog w = .ok (.int .i64 k1) w := fun _ => by kernel_rfl
  have i2 : ∀ w, (Instr.index 101 (.agg #[.int .i64 k0, .int .i64 k1, .int .i64 k2]) (.int .i64 2)).run Tryz.prog w = .ok (.int .i64 k2) w := fun _ => by kernel_rfl
  unfold exV
  go_enter Tryz.func97, Tryz.ntmps97
  go_wp2_with fail
  rw [← hw1]
  clear hw1
  go_loopw [5, 12] (fun s i wr => ∃ k : Nat, k ≤ 3 ∧ i = .int .i64 k ∧ s = .int .i64 (partK a b d k0 k1 k2 k) ∧ wr = w1) (fun _ i _ => 3 - (intOf i).toNat)
  case atStart => exact ⟨0, by omega, rfl, rfl, rfl⟩
  case round =>
    obtain ⟨k, hk, rfl, rfl, rfl⟩ := hrel
    have h : k = 0 ∨ k = 1 ∨ k = 2 ∨ k = 3 := by omega
    rcases h with rfl | rfl | rfl | rfl
    · simp only [partK, if_true]
      rw [show ((0 : Nat) : Int) = 0 from rfl]
      go_wp2
      go_roundw
      case rel => exact ⟨1, by omega, rfl, by simp [partK], by first | rfl | trivial⟩
      case measure => simp [intOf]
    · simp only [partK, if_true, show ¬ (1 = 0) from by decide, if_false]
      rw [show ((1 : Nat) : Int) = 1 from rfl]
      go_wp2
      go_roundw
      case rel => exact ⟨2, by omega, rfl, by simp [partK], by first | rfl | trivial⟩
      case measure => simp [intOf]
    · simp only [partK, if_true, show ¬ (2 = 0) from by decide, show ¬ (2 = 1) from by decide, if_false]
      rw [show ((2 : Nat) : Int) = 2 from rfl]
      go_wp2
      go_roundw
      case rel => exact ⟨3, by omega, rfl, by simp [partK], by first | rfl | trivial⟩
      case measure => simp [intOf]
    · simp only [partK, if_true, show ¬ (3 = 0) from by decide, show ¬ (3 = 1) from by decide, show ¬ (3 = 2) from by decide, if_false]
      rw [show ((3 : Nat) : Int) = 3 from rfl]
      go_wp2
      go_ret
      exact ⟨rfl, HB.out⟩

end Go.Proofs.YtkmjmmnnnbjghaaGreat
