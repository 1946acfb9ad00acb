/- Value of a polynomial. -/
import Derived.Test.YtilogbggilchaaaDoorPN
import Derived.Test.YtilogbggilchaaaDoorVA
namespace Go.Proofs.YtilogbggilchaaaDoor
set_option linter.unusedSimpArgs false
set_option linter.unusedVariables false
open Go.RowKit
def valE (E n p : Int) (xs : List Int) : Int := if E ≠ 0 then E else if (xs.length : Int) ≠ n then 1 else if xs.any (outV p) then 3 else 0
def valR (E n p : Int) (xs : List Int) (fs : List Tm) : Int := if valE E n p xs = 0 then lin (mval xs) fs % p else 0
theorem any_bdV {p : Int} {xs : List Int} (h : xs.any (outV p) = false) : ∀ x ∈ xs, 0 ≤ x ∧ x < p := by
  intro x hx
  rw [List.any_eq_false] at h
  have := h x hx
  simp [outV] at this; omega
theorem lin_take (φ : List Int → Int) (fs : List Tm) (k : Nat) (h : k < fs.length) : lin φ (fs.take (k + 1)) = lin φ (fs.take k) + (fs.getD k noT).1 * φ (fs.getD k noT).2 := by
  rw [List.take_succ_eq_append_getElem h, lin_append]
  simp [lin, List.getD_eq_getElem?_getD, h]

theorem lens3 {n : Int} {a b : Nat} (h1 : (a : Int) = n) (h2 : b = n.toNat) (h3 : 0 < n.toNat) (h4 : n.toNat ≤ 3) : a = b ∧ 0 < b ∧ b ≤ 3 := by omega

set_option maxRecDepth 100000 in
set_option maxHeartbeats 2000000 in
theorem polyValue_any (p n o v : Int) (chk : List (List Tm) → Int) (HC : Tells p n o v chk) (x av : Value) (fs : List Tm) (xs : List Int) (w : World) (pf : Pl w x fs) (sa : Sl w av xs) :
    Calls Tryd.prog 15 #[ringV p n o v, x, av] w fun e w' => e = .returned (.tuple #[.int .i64 (valR (chk [fs]) n p xs fs), .int .i64 (valE (chk [fs]) n p xs)]) ∧ Below w.heap.size w w' := by
  have HP := hid pf
  have HS := hid sa
  have HT := hid HC
  obtain ⟨a, c, rfl, _, _⟩ := pf
  obtain ⟨aa, ac, rfl, _⟩ := sa
  clear HC
  have HB2 : Hid (∀ A B, Below w.heap.size w ((w.alloc A).alloc B)) := fun A B => below_two
  cases hE : (chk [fs] != 0)
  · have hE0 : chk [fs] = 0 := by simpa using hE
    obtain ⟨hr, hall⟩ := HT.out.2.1 [fs] (by simp) hE0
    obtain ⟨rf, hN0, hN3, hpr, hp, ho⟩ := right_of hr (hall fs (by simp))
    have HR := hid rf
    have HPO := hid hp
    have HE0 := hid hE0
    have hfl : fs.length ≤ 2000 := rf.len
    clear hE0 hr hall rf hp ho hpr
    cases hl : ((xs.length : Int) != n)
    · have HL : Hid ((xs.length : Int) = n) := hid (by simpa using hl)
      cases hany : xs.any (outV p)
      · have hv : valE (chk [fs]) n p xs = 0 ∧ valR (chk [fs]) n p xs fs = lin (mval xs) fs % p := by
          have h1 : valE (chk [fs]) n p xs = 0 := by unfold valE; rw [if_neg (by simpa using HE0.out), if_neg (by simpa using HL.out), if_neg (by simp [hany])]
          exact ⟨h1, by unfold valR; rw [if_pos h1]⟩
        rw [hv.1, hv.2]
        have HX := hid (any_bdV hany)
        have h3 : xs.length ≤ 3 := by have := HL.out; omega
        have h0 : 0 < xs.length := by have := HL.out; omega
        obtain ⟨aa2, ac2, hav, hsa⟩ := HS.out
        simp only [Value.slice.injEq, true_and] at hav
        obtain ⟨e1, e2⟩ := hav
        subst e1
        subst e2
        obtain ⟨ab, aoff, e3, halt, hai⟩ := hsa h0
        subst e3
        have HAI := hid hai
        clear hv hsa hai
        go_enter Tryd.func15, Tryd.ntmps15
        go_wp2_with fail
        refine (HT.out.1 [fs] _ _ (by simp) (pls1 (HP.out.below (HB2.out _ _)) (by simp) (by simp [go_sem]))).mono ?_
        rintro e w1 ⟨rfl, hb1⟩
        rw [HE0.out]
        have HB1 := hid ((HB2.out _ _).trans (hb1.mono (HB2.out _ _).size))
        have bx0 : w1.cell? ⟨w.heap.size, 0, none⟩ = some (.int .i64 p) := by rw [hb1.cell (p := ⟨w.heap.size, 0, none⟩) (by simp; omega)]; simp [go_sem]
        have bx1 : w1.cell? ⟨w.heap.size, 1, none⟩ = some (.int .i64 n) := by rw [hb1.cell (p := ⟨w.heap.size, 1, none⟩) (by simp; omega)]; simp [go_sem]
        clear hb1
        have HAI1 : Hid (IntsAt w1 ab aoff xs) := fun i hi => by rw [HB1.out.cell (p := ⟨ab, aoff + i, none⟩) halt]; exact HAI.out i hi
        go_wp2_with fail
        refine (containsVal_any p _ xs _ _ _ _ h3 bx0 HAI1.out).mono ?_
        rintro e w' ⟨rfl, hw'⟩
        subst w'
        rw [hany]
        go_wp2_with fail
        have HBX := hid bx0
        obtain ⟨wk, hwk⟩ : ∃ wk : World, wk = w1 := ⟨_, rfl⟩
        subst hwk
        clear bx0 bx1
        go_loopw [9, 29] (fun z i wr => ∃ k : Nat, k ≤ fs.length ∧ i = .int .i64 k ∧ z = .int .i64 (lin (mval xs) (fs.take k) % p) ∧ Below wk.heap.size wk wr) (fun _ i _ => fs.length - (intOf i).toNat)
        case atStart => exact ⟨0, Nat.zero_le _, rfl, by simp [lin], Below.refl _ _⟩
        case round =>
          obtain ⟨k, hk, rfl, rfl, hbr⟩ := hrel
          have HBR := hid hbr
          clear hbr
          by_cases hk2 : k < fs.length
          · obtain ⟨a3, c3, hpv, _, hat0⟩ := HP.out
            simp only [Value.slice.injEq, true_and] at hpv
            obtain ⟨e1, e2⟩ := hpv
            subst e1
            subst e2
            obtain ⟨b, off, e3, hlt, hat⟩ := hat0 (by omega)
            subst e3
            obtain ⟨c0, ev, c1, hse⟩ := hat k hk2
            have HDN := hid (HB1.out.trans (HBR.out.mono HB1.out.size))
            have HTT := hid (And.intro (HR.out.canon.coef _ (getD_memT fs k hk2)) (And.intro (HR.out.canon.len _ (getD_memT fs k hk2)) (HR.out.bd _ (getD_memT fs k hk2))))
            have HLT := hid (lin_take (mval xs) fs k hk2)
            generalize fs.getD k noT = t at c0 hse HTT HLT
            obtain ⟨tc, te⟩ := t
            have HSE := hid (hse.below HDN.out)
            obtain ⟨ea, ec, rfl, _⟩ := hse
            simp only at c0 c1
            have d0 := cell_keep c0 HDN.out
            have d1 := cell_keep c1 HDN.out
            obtain ⟨S0, hS0⟩ : ∃ S0, lin (mval xs) (fs.take k) % p = S0 := ⟨_, rfl⟩
            have HS0 := hid hS0
            rw [hS0]
            have hs1 : 0 ≤ S0 := by rw [← hS0]; exact Int.emod_nonneg _ (by have := HPO.out; omega)
            have hs2 : S0 < p := by rw [← hS0]; exact Int.emod_lt_of_pos _ (by have := HPO.out; omega)
            obtain ⟨V0, hV0⟩ : ∃ V0, tc * mval xs te % p = V0 := ⟨_, rfl⟩
            have HV0 := hid hV0
            have hv1 : 0 ≤ V0 := by rw [← hV0]; exact Int.emod_nonneg _ (by have := HPO.out; omega)
            have hv2 : V0 < p := by rw [← hV0]; exact Int.emod_lt_of_pos _ (by have := HPO.out; omega)
            have hp2 : p ≤ 101 := HPO.out.2
            have HSTEP : Hid ((S0 + V0) % p = lin (mval xs) (fs.take (k + 1)) % p) := by
              show _ = _
              rw [HLT.out, ← HS0.out, ← HV0.out, ← Int.add_emod]
            have HL3 := hid (lens3 HL.out HTT.out.2.1 hN0 hN3)
            have HVT := hid (fun (W : World) (h1 : Sl W (.slice ea te.length ec) te) (h2 : Sl W (.slice (some ⟨ab, aoff, none⟩) xs.length ac) xs) => valueOfTerm_any p tc _ _ te xs W HPO.out ⟨Int.le_trans (by decide) HTT.out.1.1, HTT.out.1.2⟩ HL3.out.2.1 HL3.out.2.2 HL3.out.1 HTT.out.2.2 HX.out h1 h2)
            obtain ⟨wt, hwt⟩ : ∃ wt, wt = wr.alloc (.cells #[.int .i64 tc, .slice ea te.length ec] 55) := ⟨_, rfl⟩
            have hbt : Below wr.heap.size wr wt := by rw [hwt]; exact belowNew
            have q0 : wt.cell? ⟨wr.heap.size, 0, none⟩ = some (.int .i64 tc) := by rw [hwt]; simp [go_sem]
            have q1 : wt.cell? ⟨wr.heap.size, 1, none⟩ = some (.slice ea te.length ec) := by rw [hwt]; simp [go_sem]
            have b0 := cell_keep (cell_keep HBX.out HBR.out) hbt
            have HBT := hid hbt
            have KEEP : Hid (∀ W, Below wt.heap.size wt W → (Hid (Below wt.heap.size wt W) ∧ W.cell? ⟨w.heap.size, 0, none⟩ = some (.int .i64 p) ∧ W.cell? ⟨wr.heap.size, 0, none⟩ = some (.int .i64 tc) ∧ W.cell? ⟨wr.heap.size, 1, none⟩ = some (.slice ea te.length ec))) :=
              fun W hb => ⟨hb, cell_keep b0 hb, cell_keep q0 hb, cell_keep q1 hb⟩
            clear hS0 hV0 hat0 hat c0 c1 q0 q1 b0 hbt
            go_wp2_with fail
            rw [← hwt]
            clear hwt d0 d1
            go_region_held (fun W => Hid (Below wt.heap.size wt W) ∧ W.cell? ⟨w.heap.size, 0, none⟩ = some (.int .i64 p) ∧ W.cell? ⟨wr.heap.size, 0, none⟩ = some (.int .i64 tc) ∧ W.cell? ⟨wr.heap.size, 1, none⟩ = some (.slice ea te.length ec))
              (first | assumption | exact KEEP.out _ (Below.refl _ _).drew | exact KEEP.out _ (below_step (by assumption) hb9 (Nat.le_refl _)))
              (first | (go_at_call 39; refine (HVT.out _ ?_ ?_).mono ?_; exact (HSE.out.below HBT.out).below (Below.refl _ _).drew; exact ((HS.out.below HDN.out).below HBT.out).below (Below.refl _ _).drew; rw [HV0.out]; rintro e w9 ⟨rfl, hb9⟩))
            have hb19 : Below wt.heap.size wt w9 := Hid.out (And.left (by assumption))
            have HB9 := hid ((HBR.out.trans (HBT.out.mono HBR.out.size)).trans (hb19.mono (HBR.out.trans (HBT.out.mono HBR.out.size)).size))
            clear hb9 hb19 KEEP
            go_wp2
            go_roundw
            case rel => exact ⟨k + 1, Nat.succ_le_of_lt hk2, by go_num, by rw [HSTEP.out], HB9.out⟩
            case measure => simp [intOf]; omega
          · go_wp2
            go_ret2
            refine ⟨?_, HB1.out.trans (HBR.out.mono HB1.out.size)⟩
            rw [List.take_of_length_le (Nat.not_lt.1 hk2)]; rfl
      · have hv : valE (chk [fs]) n p xs = 3 ∧ valR (chk [fs]) n p xs fs = 0 := by
          have h1 : valE (chk [fs]) n p xs = 3 := by unfold valE; rw [if_neg (by simpa using HE0.out), if_neg (by simpa using HL.out), if_pos hany]
          exact ⟨h1, by unfold valR; rw [h1, if_neg (by omega)]⟩
        rw [hv.1, hv.2]
        have h3 : xs.length ≤ 3 := by have := HL.out; omega
        have h0 : 0 < xs.length := by have := HL.out; omega
        obtain ⟨aa2, ac2, hav, hsa⟩ := HS.out
        simp only [Value.slice.injEq, true_and] at hav
        obtain ⟨e1, e2⟩ := hav
        subst e1
        subst e2
        obtain ⟨ab, aoff, e3, halt, hai⟩ := hsa h0
        subst e3
        have HAI := hid hai
        clear hv hsa hai
        go_enter Tryd.func15, Tryd.ntmps15
        go_wp2_with fail
        refine (HT.out.1 [fs] _ _ (by simp) (pls1 (HP.out.below (HB2.out _ _)) (by simp) (by simp [go_sem]))).mono ?_
        rintro e w1 ⟨rfl, hb1⟩
        rw [HE0.out]
        have HB1 := hid ((HB2.out _ _).trans (hb1.mono (HB2.out _ _).size))
        have bx0 : w1.cell? ⟨w.heap.size, 0, none⟩ = some (.int .i64 p) := by rw [hb1.cell (p := ⟨w.heap.size, 0, none⟩) (by simp; omega)]; simp [go_sem]
        have bx1 : w1.cell? ⟨w.heap.size, 1, none⟩ = some (.int .i64 n) := by rw [hb1.cell (p := ⟨w.heap.size, 1, none⟩) (by simp; omega)]; simp [go_sem]
        clear hb1
        have HAI1 : Hid (IntsAt w1 ab aoff xs) := fun i hi => by rw [HB1.out.cell (p := ⟨ab, aoff + i, none⟩) halt]; exact HAI.out i hi
        go_wp2_with fail
        refine (containsVal_any p _ xs _ _ _ _ h3 bx0 HAI1.out).mono ?_
        rintro e w' ⟨rfl, hw'⟩
        subst w'
        rw [hany]
        go_wp2
        go_ret2
        exact ⟨rfl, HB1.out⟩
    · have hv : valE (chk [fs]) n p xs = 1 ∧ valR (chk [fs]) n p xs fs = 0 := by
        have h1 : valE (chk [fs]) n p xs = 1 := by unfold valE; rw [if_neg (by simpa using HE0.out), if_pos (by simpa using hl)]
        exact ⟨h1, by unfold valR; rw [h1, if_neg (by omega)]⟩
      rw [hv.1, hv.2]
      clear hv
      go_enter Tryd.func15, Tryd.ntmps15
      go_wp2_with fail
      refine (HT.out.1 [fs] _ _ (by simp) (pls1 (HP.out.below (HB2.out _ _)) (by simp) (by simp [go_sem]))).mono ?_
      rintro e w1 ⟨rfl, hb1⟩
      rw [HE0.out]
      have HB1 := hid ((HB2.out _ _).trans (hb1.mono (HB2.out _ _).size))
      have bx1 : w1.cell? ⟨w.heap.size, 1, none⟩ = some (.int .i64 n) := by rw [hb1.cell (p := ⟨w.heap.size, 1, none⟩) (by simp; omega)]; simp [go_sem]
      clear hb1
      go_wp2
      go_ret2
      exact ⟨rfl, HB1.out⟩
  · have hE0 : chk [fs] ≠ 0 := by simpa using hE
    have hv : valE (chk [fs]) n p xs = chk [fs] ∧ valR (chk [fs]) n p xs fs = 0 := by
      have h1 : valE (chk [fs]) n p xs = chk [fs] := by unfold valE; rw [if_pos hE0]
      exact ⟨h1, by unfold valR; rw [h1, if_neg hE0]⟩
    rw [hv.1, hv.2]
    clear hv hE0
    go_enter Tryd.func15, Tryd.ntmps15
    go_wp2_with fail
    refine (HT.out.1 [fs] _ _ (by simp) (pls1 (HP.out.below (HB2.out _ _)) (by simp) (by simp [go_sem]))).mono ?_
    rintro e w1 ⟨rfl, hb1⟩
    have HB1 := hid ((HB2.out _ _).trans (hb1.mono (HB2.out _ _).size))
    clear hb1
    go_wp2
    go_ret2
    exact ⟨rfl, HB1.out⟩
end Go.Proofs.YtilogbggilchaaaDoor
