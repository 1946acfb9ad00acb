/- CheckAlike of the reference. -/
import Derived.Test.YtilogbggilchaaaWE
namespace Go.Proofs.Ytilogbggilchaaa
set_option linter.unusedSimpArgs false
set_option linter.unusedVariables false
open Go.RowKit
def badR (fss : List (List Tm)) : Bool := !betweenB (fss.length : Int) 1 40
def unlV (m : Nat) (fss : List (List Tm)) : Bool := decide (fss.length ≠ m)
def errAlike (p n o v : Int) (vss : List (List (List Tm))) : Int :=
  if errR p n o v ≠ 0 then errR p n o v else if vss.any badR then 3 else if vss.any (unlV (vss.getD 0 []).length) then 1 else firstZ (firstOne p n o) vss
theorem unl_no {fss : List (List Tm)} {m : Nat} (h : ((fss.length : Int) != (m : Int)) = false) : unlV m fss = false := by
  have h1 : (fss.length : Int) = m := by simpa using h
  unfold unlV; exact decide_eq_false (by omega)
theorem unl_yes {fss : List (List Tm)} {m : Nat} (h : ((fss.length : Int) != (m : Int)) = true) : unlV m fss = true := by
  have h1 : ¬ (fss.length : Int) = m := by simpa using h
  unfold unlV; exact decide_eq_true (by omega)
theorem take_snocV {α : Type} (l : List (List α)) (k : Nat) (h : k < l.length) : l.take (k + 1) = l.take k ++ [l.getD k []] := by
  rw [List.take_succ_eq_append_getElem h]; simp [List.getD_eq_getElem?_getD, h]
theorem any_takeV {α : Type} (f : List α → Bool) (l : List (List α)) (k : Nat) (h : k < l.length) (h0 : (l.take k).any f = false) (h1 : f (l.getD k []) = false) : (l.take (k + 1)).any f = false := by
  rw [take_snocV _ _ h, List.any_append, h0]; simpa using h1
theorem getD_memV {α : Type} (l : List (List α)) (k : Nat) (h : k < l.length) : l.getD k [] ∈ l := by
  rw [List.getD_eq_getElem?_getD, List.getElem?_eq_getElem h]; simp
theorem any_atV {α : Type} (f : List α → Bool) (l : List (List α)) (k : Nat) (h : k < l.length) (h1 : f (l.getD k []) = true) : l.any f = true := by
  rw [List.any_eq_true]; exact ⟨_, getD_memV l k h, h1⟩
theorem badR_len {vss : List (List (List Tm))} (h : vss.any badR = false) {f : List (List Tm)} (hf : f ∈ vss) : f.length ≤ 4000000 := by
  have h1 := List.any_eq_false.1 h f hf
  simp [badR, betweenB] at h1
  omega

set_option maxRecDepth 100000 in
set_option maxHeartbeats 4000000 in
theorem checkAlike_any (p n o v : Int) (lv : Value) (vss : List (List (List Tm))) (w : World) (hm : vss.length ≤ 1000) (hs : Wl w lv vss) :
    Calls Try.prog 8 #[ringV p n o v, lv] w fun e w' => e = .returned (.int .i64 (errAlike p n o v vss)) ∧ Below w.heap.size w w' := by
  have HS := hid hs
  obtain ⟨la, lc, rfl, _⟩ := hs
  cases hR : (errR p n o v != 0)
  · have hR0 : errR p n o v = 0 := by simpa using hR
    have HR := hid hR0
    have HE : Hid (errAlike p n o v vss = if vss.any badR then 3 else if vss.any (unlV (vss.getD 0 []).length) then 1 else firstZ (firstOne p n o) vss) := by show _ = _; unfold errAlike; rw [if_neg (by simpa using hR0)]
    clear hR0
    go_enter Try.func8, Try.ntmps8
    go_wp2_with (go_at_call 32; refine (checkRing_any _ _ _ _ _).mono ?_; rintro e w1 ⟨rfl, hb1⟩; have HB1 := hid (show Below w.heap.size w w1 from below_oneG.trans (hb1.mono (by simp))); have HBX := hid ((BoxAt.new w p n o v 23).below hb1); clear hb1)
    have HS1 := hid (HS.out.below HB1.out)
    go_loopw [6] (fun i wr => ∃ k : Nat, k ≤ vss.length ∧ i = .int .i64 k ∧ (vss.take k).any badR = false ∧ wr = w1) (fun i _ => vss.length - (intOf i).toNat)
    case atStart => exact ⟨0, Nat.zero_le _, rfl, by simp, rfl⟩
    case round =>
      obtain ⟨k, hk, rfl, hnb, rfl⟩ := hrel
      have HNB := hid hnb
      clear hnb
      by_cases hk2 : k < vss.length
      · obtain ⟨b, off, va, vc, rfl, hlt, c0, _⟩ := wl_at HS1.out k hk2
        have H1 := hid (any_takeV badR vss k hk2 HNB.out)
        have H2 := hid (any_atV badR vss k hk2)
        generalize vss.getD k [] = fss at c0 H1 H2
        cases hbt : betweenB (fss.length : Int) 1 40
        · have HB : Hid (badR fss = true) := by show _ = _; unfold badR; rw [hbt]; rfl
          go_wp2_with (go_at_call 33; refine (between_any _ _ _ _).mono ?_; rw [hbt]; rintro e w' ⟨rfl, rfl⟩)
          go_ret
          exact ⟨ret_int (by rw [HE.out, if_pos (H2.out HB.out)]), HB1.out⟩
        · have HB : Hid (badR fss = false) := by show _ = _; unfold badR; rw [hbt]; rfl
          go_wp2_with (go_at_call 33; refine (between_any _ _ _ _).mono ?_; rw [hbt]; rintro e w' ⟨rfl, rfl⟩)
          go_roundw
          case rel => exact ⟨k + 1, by omega, by go_num, H1.out HB.out, by simp⟩
          case measure => simp [intOf]; omega
      · have HAB : Hid (vss.any badR = false) := by have h := HNB.out; rw [List.take_of_length_le (by omega)] at h; exact h
        have HE2 : Hid (errAlike p n o v vss = if vss.any (unlV (vss.getD 0 []).length) then 1 else firstZ (firstOne p n o) vss) := by show _ = _; rw [HE.out, if_neg (by rw [HAB.out]; simp)]
        clear HE HNB
        go_wp2_with fail
        go_loopw [7] (fun i wm => ∃ k : Nat, 1 ≤ k ∧ k ≤ 1001 ∧ i = .int .i64 k ∧ (vss.take k).any (unlV (vss.getD 0 []).length) = false ∧ Below wr.heap.size wr wm) (fun i _ => vss.length - (intOf i).toNat)
        case atStart =>
          refine ⟨1, Nat.le_refl _, by omega, rfl, ?_, Below.refl _ _⟩
          cases vss with
          | nil => simp
          | cons a l => simp [unlV]
        case round =>
          obtain ⟨k2, hk1, hk1b, rfl, hnu, hbm⟩ := hrel
          have HNU := hid hnu
          have HBM := hid hbm
          clear hnu hbm
          by_cases hk3 : k2 < vss.length
          · obtain ⟨b, off, va, vc, hla, hlt, c0, _⟩ := wl_at HS1.out k2 hk3
            obtain ⟨b2, off2, va2, vc2, hla2, hlt2, d0, _⟩ := wl_at HS1.out 0 (by omega)
            have H1 := hid (any_takeV (unlV (vss.getD 0 []).length) vss k2 hk3 HNU.out)
            have H2 := hid (any_atV (unlV (vss.getD 0 []).length) vss k2 hk3)
            subst hla
            simp only [Option.some.injEq, Addr.mk.injEq, and_true] at hla2
            obtain ⟨e1, e2⟩ := hla2
            subst e1
            subst e2
            generalize vss.getD k2 [] = fss at c0 H1 H2
            generalize hgs : vss.getD 0 [] = gss at d0 H1 H2
            have k0 := cell_keep c0 HBM.out
            have k1 := cell_keep d0 HBM.out
            simp only [Nat.add_zero] at k1
            have hpos : 0 < vss.length := by omega
            clear c0 d0
            cases hun : ((fss.length : Int) != (gss.length : Int))
            · have HU : Hid (unlV gss.length fss = false) := unl_no hun
              go_wp2_with fail
              go_quiet (fail)
              have HQ1 := hid (below_drewN HBM.out nq)
              go_wp2
              go_roundw
              case rel => exact ⟨k2 + 1, by omega, by omega, by go_num, by first | exact H1.out HU.out | (rw [hgs]; exact H1.out HU.out), HQ1.out⟩
              case measure => simp [intOf]; omega
            · have HU : Hid (unlV gss.length fss = true) := unl_yes hun
              go_wp2_with fail
              go_quiet (fail)
              have HQ1 := hid (below_drewN HBM.out nq)
              go_wp2
              go_ret
              exact ⟨ret_int (by rw [HE2.out, hgs, if_pos (H2.out HU.out)]), HB1.out.trans (HQ1.out.mono HB1.out.size)⟩
          · have HAU : Hid (vss.any (unlV (vss.getD 0 []).length) = false) := by have h := HNU.out; rw [List.take_of_length_le (by omega)] at h; exact h
            have HE3 : Hid (errAlike p n o v vss = firstZ (firstOne p n o) vss) := by show _ = _; rw [HE2.out, if_neg (by rw [HAU.out]; simp)]
            clear HE2 HNU
            go_wp2_with fail
            obtain ⟨wo, hwo⟩ : ∃ wo, wo = wr := ⟨_, rfl⟩
            subst hwo
            have HDN2 := hid (HB1.out.trans (HBM.out.mono HB1.out.size))
            go_loopw [8] (fun i wm => ∃ k : Nat, k ≤ vss.length ∧ i = .int .i64 k ∧ firstZ (firstOne p n o) vss = firstZ (firstOne p n o) (vss.drop k) ∧ Below wo.heap.size wo wm) (fun i _ => vss.length - (intOf i).toNat)
            case atStart => exact ⟨0, Nat.zero_le _, rfl, rfl, Below.refl _ _⟩
            case round =>
              obtain ⟨k4, hk4, rfl, her, hbr⟩ := hrel
              have HBR := hid hbr
              have HER0 := hid her
              clear hbr her
              by_cases hk5 : k4 < vss.length
              · have HER := hid (HER0.out.trans (firstZ_drop (firstOne p n o) vss k4 hk5))
                have HD3 := hid (HBM.out.trans (HBR.out.mono HBM.out.size))
                obtain ⟨b, off, va, vc, rfl, hlt, c0, hvl⟩ := wl_at HS1.out k4 hk5
                have HFLs : Hid ((vss.getD k4 []).length ≤ 4000000) := badR_len HAB.out (getD_memV vss k4 hk5)
                generalize vss.getD k4 [] = fss at c0 hvl HER HFLs
                have HVL := hid (hvl.below HD3.out)
                obtain ⟨_, bx0, bx1, bx2, bx3⟩ := HBX.out.below HD3.out
                have k0 := cell_keep c0 HD3.out
                have KEEP : Hid (∀ W, Below wr.heap.size wr W → (Hid (Below wr.heap.size wr W) ∧ W.cell? ⟨w.heap.size, 0, none⟩ = some (.int .i64 p) ∧ W.cell? ⟨w.heap.size, 1, none⟩ = some (.int .i64 n) ∧ W.cell? ⟨w.heap.size, 2, none⟩ = some (.int .i64 o) ∧ W.cell? ⟨w.heap.size, 3, none⟩ = some (.int .i64 v) ∧ W.cell? ⟨b, off + k4, none⟩ = some (.slice va fss.length vc))) :=
                  fun W hb => ⟨hb, cell_keep bx0 hb, cell_keep bx1 hb, cell_keep bx2 hb, cell_keep bx3 hb, cell_keep k0 hb⟩
                have HB0 : Hid (Below wr.heap.size wr wr.drew) := (Below.refl _ _).drew
                have HEP : Hid (errPolys p n o v fss = firstOne p n o fss) := by show _ = _; unfold errPolys; rw [if_pos HR.out]
                clear bx0 bx1 bx2 bx3 c0 k0 hvl
                have hfl : fss.length ≤ 4000000 := HFLs.out
                go_wp2_with fail
                go_region_held (fun W => Hid (Below wr.heap.size wr W) ∧ W.cell? ⟨w.heap.size, 0, none⟩ = some (.int .i64 p) ∧ W.cell? ⟨w.heap.size, 1, none⟩ = some (.int .i64 n) ∧ W.cell? ⟨w.heap.size, 2, none⟩ = some (.int .i64 o) ∧ W.cell? ⟨w.heap.size, 3, none⟩ = some (.int .i64 v) ∧ W.cell? ⟨b, off + k4, none⟩ = some (.slice va fss.length vc))
                  (first | exact KEEP.out _ HB0.out | exact KEEP.out _ (HB0.out.trans (hb9.mono HB0.out.size)))
                  (first | (go_at_call 9; refine (checkPolys_any p n o v _ fss _ hfl ?_).mono ?_; exact HVL.out.below HB0.out; rw [HEP.out]; rintro e w9 ⟨rfl, hb9⟩))
                have HB9 := hid (show Below wr.heap.size wr w9 from HB0.out.trans (hb9.mono HB0.out.size))
                clear hb9
                cases hz : (firstOne p n o fss != 0)
                · have HZ : Hid (firstOne p n o fss = 0) := by simpa [Hid] using hz
                  go_wp2_with fail
                  go_roundw
                  case rel => exact ⟨k4 + 1, by omega, by go_num, by rw [HER.out, if_pos HZ.out], HBR.out.trans (HB9.out.mono HBR.out.size)⟩
                  case measure => simp [intOf]; omega
                · have HZ : Hid (firstOne p n o fss ≠ 0) := by simpa [Hid] using hz
                  go_wp2_with fail
                  go_ret
                  exact ⟨ret_int (by rw [HE3.out, HER.out, if_neg HZ.out]), HDN2.out.trans ((HBR.out.trans (HB9.out.mono HBR.out.size)).mono HDN2.out.size)⟩
              · go_wp2
                go_ret
                exact ⟨ret_int (by rw [HE3.out, HER0.out, List.drop_eq_nil_of_le (by omega)]; rfl), HDN2.out.trans (HBR.out.mono HDN2.out.size)⟩
  · have HE : Hid (errAlike p n o v vss = errR p n o v) := by show _ = _; unfold errAlike; rw [if_pos (by simpa using hR)]
    rw [HE.out]
    go_enter Try.func8, Try.ntmps8
    go_wp2_with (go_at_call 32; refine (checkRing_any _ _ _ _ _).mono ?_; rintro e w1 ⟨rfl, hb1⟩; have HB1 := hid (show Below w.heap.size w w1 from below_oneG.trans (hb1.mono (by simp))); clear hb1)
    go_ret
    exact ⟨rfl, HB1.out⟩
end Go.Proofs.Ytilogbggilchaaa
