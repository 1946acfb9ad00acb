/- VectorCombines, walked. Printed by genWZ.py. -/
import Derived.Test.YtilogbggilchaaaWY
namespace Go.Proofs.Ytilogbggilchaaa
set_option linter.unusedSimpArgs false
set_option linter.unusedVariables false
open Go.RowKit
set_option maxRecDepth 100000 in
set_option maxHeartbeats 4000000 in
theorem vectorCombines_EO (p n o v rank : Int) (x y z : Value) (cs : List (List Tm)) (vss : List (List (List Tm))) (ds : List Int) (w : World) (pc : Vl w x cs) (pv : Wl w y vss) (sd : Sl w z ds) (hE : errComb p n o v rank cs vss ≠ 0) (hvl : 0 < vss.length) (hA : errAlike p n o v [vss.getD 0 []] = 0) (hlen : ds.length = (vss.getD 0 []).length) :
    Calls Try.prog 4 #[ringV p n o v, .int .i64 rank, x, y, z] w fun e w' => e = .returned (.bool true) ∧ Below w.heap.size w w' := by
  have HX := hid pc
  have HY := hid pv
  have HD := hid sd
  obtain ⟨ax, cx, rfl, _⟩ := pc
  obtain ⟨ay, cy, rfl, _⟩ := pv
  obtain ⟨az, cz, rfl, _⟩ := sd
  obtain ⟨w1, hw1⟩ : ∃ w1, w1 = w.alloc (.cells #[.int .i64 p, .int .i64 n, .int .i64 o, .int .i64 v] 23) := ⟨_, rfl⟩
  have HBX : Hid (BoxAt w1 w.heap.size p n o v) := by rw [hw1]; exact BoxAt.new w p n o v _
  have HBW : Hid (Below w.heap.size w w1) := by rw [hw1]; exact below_oneG
  have HC1 := hid (fun (W : World) (hb : Below w1.heap.size w1 W) => vecCombine_any p n o v rank _ _ cs vss W ((HX.out.below HBW.out).below hb) ((HY.out.below HBW.out).below hb))
  have HC2 := hid (fun (W : World) (hb : Below w1.heap.size w1 W) => checkCombine_any p n o v rank _ _ cs vss W ((HX.out.below HBW.out).below hb) ((HY.out.below HBW.out).below hb))
  have HC3 := hid (fun (W : World) (hb : Below w1.heap.size w1 W) (h : errComb p n o v rank cs vss = 0) => combineOf_R p n o v rank _ _ cs vss W h ((HX.out.below HBW.out).below hb) ((HY.out.below HBW.out).below hb))
  have HC4 := hid (fun (W : World) (a b : Value) (h1 : Vl W a (visR (errComb p n o v rank cs vss) (combR p n o v rank cs vss))) (h2 : Vl W b (combR p n o v rank cs vss)) => vectorIs_any a b _ _ W (fun h => comb_okp h) h1 h2)
  rw [(comb_vis p n o v rank cs vss).1, (comb_vis p n o v rank cs vss).2] at HC4
  have HRB := hid (fun (h : errComb p n o v rank cs vss ≠ 0) => combR_bad h)
  generalize errComb p n o v rank cs vss = E at HC1 HC2 HC3 HC4 HRB hE
  generalize combR p n o v rank cs vss = F at HC1 HC3 HC4 HRB
  have hEB : (E == 0) = false := by simpa using hE
  have hF := HRB.out hE
  subst hF
  clear hE HC3 HRB
  obtain ⟨b2, off2, va, vc, rfl, hlt2, d0, hpv⟩ := wl_at HY.out 0 hvl
  rw [Nat.add_zero] at d0
  have HL0 := hid (hpv.below HBW.out)
  generalize vss.getD 0 [] = f0 at d0 HL0 hpv hA hlen
  have KEEP : Hid (∀ W, Below w1.heap.size w1 W → (Hid (Below w1.heap.size w1 W) ∧ W.cell? ⟨w.heap.size, 0, none⟩ = some (.int .i64 p) ∧ W.cell? ⟨w.heap.size, 1, none⟩ = some (.int .i64 n) ∧ W.cell? ⟨w.heap.size, 2, none⟩ = some (.int .i64 o) ∧ W.cell? ⟨w.heap.size, 3, none⟩ = some (.int .i64 v) ∧ W.cell? ⟨b2, off2, none⟩ = some (.slice va f0.length vc))) := fun W hb => by
    obtain ⟨_, bx0, bx1, bx2, bx3⟩ := HBX.out.below hb
    exact ⟨hb, bx0, bx1, bx2, bx3, cell_keep (cell_keep d0 HBW.out) hb⟩
  have HDG := hid (fun (W : World) (hb : Below w1.heap.size w1 W) => vecDegree_any p n o v _ _ ds f0 W ((HD.out.below HBW.out).below hb) (HL0.out.below hb))
  have HAL := hid (fun (W : World) (lv : Value) (hb : Below w1.heap.size w1 W) (h : Wl W lv [f0]) => checkAlike_any p n o v lv [f0] W (by simp) h)
  clear d0 hpv

  have HA1 := hid (alike_one hA)
  rw [hA] at HDG HAL
  have HLE := hid hlen
  have hd40 : ds.length ≤ 40 := by have h5 := HA1.out.1; omega
  have hlB : ((ds.length : Int) != (f0.length : Int)) = false := by rw [hlen]; simp
  clear hA hlen
  go_enter Try.func4, Try.ntmps4
  go_wp2_with (first
    | (go_at_call 18; try rw [← hw1]; refine (HC1.out _ (Below.refl _ _)).mono ?_; rintro e w2 ⟨u2, rfl, hu2, hb2⟩; have HB2 := hid hb2; have HU2 := hid hu2; obtain ⟨ua2, uc2, rfl, _⟩ := hu2; obtain ⟨_, x0, x1, x2, x3⟩ := HBX.out.below hb2; clear hb2)
    | (go_at_call 19; refine (HC2.out _ HB2.out).mono ?_; rintro e w3 ⟨rfl, hb3⟩; have HB3 := hid (HB2.out.trans (hb3.mono HB2.out.size)); have HU3 := hid (HU2.out.below hb3); obtain ⟨_, y0, y1, y2, y3⟩ := HBX.out.below HB3.out; clear hb3 x0 x1 x2 x3)
    | (go_at_call 13; refine (vectorBegun_any _).mono ?_; rintro e w5 ⟨rfl, hb5⟩; have HB5 := hid (HB3.out.trans (hb5.mono HB3.out.size)); have HU5 := hid (HU3.out.below hb5); clear hb5 y0 y1 y2 y3)
    | (go_at_call 16; refine (HC4.out _ _ _ HU5.out (Vl.empty _)).mono ?_; rintro e w6 ⟨rfl, hb6⟩; have HB6 := hid (HB5.out.trans (hb6.mono HB5.out.size)); obtain ⟨_, z0, z1, z2, z3⟩ := HBX.out.below HB6.out; clear hb6))
  have HB0 : Hid (Below w1.heap.size w1 w6.drew) := HB6.out.drew
  clear z0 z1 z2 z3
  go_region_held (fun W => Hid (Below w1.heap.size w1 W) ∧ W.cell? ⟨w.heap.size, 0, none⟩ = some (.int .i64 p) ∧ W.cell? ⟨w.heap.size, 1, none⟩ = some (.int .i64 n) ∧ W.cell? ⟨w.heap.size, 2, none⟩ = some (.int .i64 o) ∧ W.cell? ⟨w.heap.size, 3, none⟩ = some (.int .i64 v) ∧ W.cell? ⟨b2, off2, none⟩ = some (.slice va f0.length vc))
    (first | exact KEEP.out _ HB0.out | exact KEEP.out _ HB7.out)
    (first | (go_at_call 21; refine (HDG.out _ HB0.out).mono ?_; rintro e w7 ⟨rfl, hb7⟩; have HB7 := hid (show Below w1.heap.size w1 w7 from HB0.out.trans (hb7.mono HB0.out.size)); clear hb7))
  go_wp2_with fail
  have HB8 : Hid (Below w1.heap.size w1 w7.drew) := HB7.out.drew
  go_region_held (fun W => Hid (Below w1.heap.size w1 W) ∧ W.cell? ⟨w.heap.size, 0, none⟩ = some (.int .i64 p) ∧ W.cell? ⟨w.heap.size, 1, none⟩ = some (.int .i64 n) ∧ W.cell? ⟨w.heap.size, 2, none⟩ = some (.int .i64 o) ∧ W.cell? ⟨w.heap.size, 3, none⟩ = some (.int .i64 v) ∧ W.cell? ⟨b2, off2, none⟩ = some (.slice va f0.length vc))
    (first | exact KEEP.out _ HB8.out | exact KEEP.out _ (HB8.out.alloc HB8.out.size _) | exact KEEP.out _ HB9.out)
    (first | (go_at_call 8; refine (HAL.out _ _ (HB8.out.alloc HB8.out.size _) (wl_one (HL0.out.below (HB8.out.alloc HB8.out.size _)) (by simp) (by simp [go_sem]))).mono ?_; rintro e w9 ⟨rfl, hb9⟩; have HB9 := hid (show Below w1.heap.size w1 w9 from (HB8.out.alloc HB8.out.size _).trans (hb9.mono (HB8.out.alloc HB8.out.size _).size)); clear hb9))
  have g9 := (KEEP.out _ HB9.out).2.2.2.2.2
  go_wp2_with fail
  clear hlB
  go_loopw [17, 19] (fun u i W => W = w9 ∧ ((∃ k : Nat, k ≤ ds.length ∧ i = .int .i64 k ∧ u = .int .i64 0 ∧ ∀ j, j < k → outB (ds.getD j 0) = false) ∨ (∃ k : Nat, k ≤ ds.length ∧ i = .int .i64 k ∧ u = .int .i64 3 ∧ ds.any outB = true))) (fun _ i _ => ds.length - (intOf i).toNat)
  case atStart => exact ⟨rfl, Or.inl ⟨0, Nat.zero_le _, rfl, rfl, fun j hj => by omega⟩⟩
  case round =>
    obtain ⟨rfl, ⟨k, hk, rfl, rfl, hz⟩ | ⟨k, hk, rfl, rfl, hz⟩⟩ := hrel
    · have HZ := hid hz
      clear hz
      by_cases hk2 : k < ds.length
      · have HK2 := hid hk2
        obtain ⟨bd, od, rfl, hltd, hcd⟩ := sl_at HD.out k hk2
        have gd := cell_keep (cell_keep hcd HBW.out) HB9.out
        have HAN := hid (fun h => any_atI outB ds k hk2 h)
        have HNX : Hid (outB (ds.getD k 0) = false → ∀ j, j < k + 1 → outB (ds.getD j 0) = false) := fun h j hj => by
          by_cases h2 : j < k
          · exact HZ.out j h2
          · have e : j = k := by omega
            subst e; exact h
        clear hcd
        generalize ds.getD k 0 = dk at gd HAN HNX
        by_cases hlo : dk < 0
        · have HO := hid (HAN.out (by unfold outB; exact decide_eq_true (Or.inl hlo)))
          go_wp2
          go_roundw
          case rel => exact ⟨by first | rfl | trivial, Or.inr ⟨k + 1, by have h5 := HK2.out; have h6 := HLE.out; omega, by go_num, rfl, HO.out⟩⟩
          case measure => (have h5 := HK2.out; have h6 := HLE.out; simp [intOf]; omega)
        · by_cases hhi : 200 < dk
          · have HO := hid (HAN.out (by unfold outB; exact decide_eq_true (Or.inr hhi)))
            go_wp2
            go_roundw
            case rel => exact ⟨by first | rfl | trivial, Or.inr ⟨k + 1, by have h5 := HK2.out; have h6 := HLE.out; omega, by go_num, rfl, HO.out⟩⟩
            case measure => (have h5 := HK2.out; have h6 := HLE.out; simp [intOf]; omega)
          · have HO := hid (HNX.out (by unfold outB; exact decide_eq_false (by omega)))
            go_wp2
            go_roundw
            case rel => exact ⟨by first | rfl | trivial, Or.inl ⟨k + 1, by have h5 := HK2.out; have h6 := HLE.out; omega, by go_num, rfl, HO.out⟩⟩
            case measure => (have h5 := HK2.out; have h6 := HLE.out; simp [intOf]; omega)
      · have e : k = ds.length := by omega
        subst e
        have HNO : Hid (ds.any outB = false) := any_noneI HZ.out
        have HV := hid (vd_ok HLE.out HNO.out)
        have HDD : Hid (∀ d ∈ ds, 0 ≤ d ∧ d ≤ 200) := fun d hd => by
          have h := List.any_eq_false.1 HNO.out d hd
          unfold outB at h
          simp at h
          omega
        have HVD := hid (fun (W : World) (hb : Below w1.heap.size w1 W) => vdegree_any _ _ p o n.toNat ds f0 W HA1.out.2.1 HA1.out.2.2.1 HLE.out HA1.out.1 HDD.out HA1.out.2.2.2 ((HD.out.below HBW.out).below hb) (HL0.out.below hb))
        rw [HV.out.1, HV.out.2]
        generalize degE (degsTo ds f0 f0.length) = de at HVD
        generalize degV (degsTo ds f0 f0.length) = dv at HVD
        go_wp2_with (go_at_call 22; refine (HVD.out _ HB9.out).mono ?_; rintro e w10 ⟨rfl, hb10⟩; have HB10 := hid (HB9.out.trans (hb10.mono HB9.out.size)); clear hb10)
        go_ret
        exact ⟨rfl, HBW.out.trans (HB10.out.mono HBW.out.size)⟩
    · have HV := hid (vd_out HLE.out hz)
      clear hz
      rw [HV.out.1, HV.out.2]
      go_wp2
      all_goals go_ret
      all_goals exact ⟨rfl, HBW.out.trans (HB9.out.mono HBW.out.size)⟩
end Go.Proofs.Ytilogbggilchaaa
