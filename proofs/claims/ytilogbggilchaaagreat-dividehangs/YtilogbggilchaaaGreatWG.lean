/- vector.checkPolys, isRank, checkAll, Check. -/
import Derived.Test.YtilogbggilchaaaGreatWA
import Derived.Test.YtilogbggilchaaaGreatTL
import Derived.Test.YtilogbggilchaaaGreatPN
namespace Go.Proofs.YtilogbggilchaaaGreat
set_option linter.unusedSimpArgs false
set_option linter.unusedVariables false
open Go.RowKit
theorem cur_one {p n o v : Int} {f : List Tm} (hR : errR p n o v = 0) : cur p n o v [f] = errOne p n o f := by
  have e : errCur p n o v f = errOne p n o f := by unfold errCur; rw [if_neg (by simpa using hR)]
  have hu : cur p n o v [f] = if errCur p n o v f ≠ 0 then errCur p n o v f else 0 := rfl
  rw [hu, e]
  by_cases h : errOne p n o f = 0
  · rw [if_neg (by simpa using h), h]
  · rw [if_pos h]

set_option maxRecDepth 100000 in
set_option maxHeartbeats 1000000 in
theorem vecPolys_any (p n o v : Int) (lv : Value) (fss : List (List Tm)) (w : World) (hR : errR p n o v = 0) (hm : fss.length ≤ 1200000000000) (hs : Vl w lv fss) :
    Calls Tryz.prog 48 #[ringV p n o v, lv] w fun e w' => e = .returned (.int .i64 (firstOne p n o fss)) ∧ Below w.heap.size w w' := by
  have HS := hid hs
  have HR := hid hR
  have HT := hid (tells p n o v)
  obtain ⟨la, lc, rfl, _⟩ := hs
  obtain ⟨w1, hw1⟩ : ∃ w1, w1 = w.alloc (.cells #[.int .i64 p, .int .i64 n, .int .i64 o, .int .i64 v] 23) := ⟨_, rfl⟩
  have hbx : BoxAt w1 w.heap.size p n o v := by rw [hw1]; exact BoxAt.new w p n o v _
  have hbw : Below w.heap.size w w1 := by rw [hw1]; exact below_oneG
  have HBX := hid hbx
  have HBW := hid hbw
  clear hR hbx hbw
  go_enter Tryz.func48, Tryz.ntmps48
  go_wp2_with fail
  rw [← hw1]
  clear hw1
  go_loopw [10] (fun i wr => ∃ k : Nat, k ≤ fss.length ∧ i = .int .i64 k ∧ firstOne p n o fss = firstOne p n o (fss.drop k) ∧ Below w1.heap.size w1 wr) (fun i _ => fss.length - (intOf i).toNat)
  case atStart => exact ⟨0, Nat.zero_le _, rfl, rfl, Below.refl _ _⟩
  case round =>
    obtain ⟨k, hk, rfl, her, hbr⟩ := hrel
    have HBR := hid hbr
    have HER0 := hid her
    clear hbr her
    by_cases hk2 : k < fss.length
    · have HER := hid (HER0.out.trans (firstOne_drop p n o fss k hk2))
      have HDN := hid (HBW.out.trans (HBR.out.mono HBW.out.size))
      obtain ⟨b, off, fa, fc, rfl, hlt, c0, hpf⟩ := vl_at HS.out k hk2
      generalize fss.getD k [] = f at c0 hpf HER
      have HPF := hid (hpf.below HDN.out)
      have d0 := cell_keep c0 HDN.out
      have HC1 := hid (cur_one (f := f) HR.out)
      obtain ⟨_, bx0, bx1, bx2, bx3⟩ := HBX.out.below HBR.out
      clear c0 hpf
      cases hz : (errOne p n o f != 0)
      · have HZ : Hid (errOne p n o f = 0) := by simpa [Hid] using hz
        go_wp2_with (go_at_call 86; refine (polyCheck_any p n o v _ HT.out _ f _ HPF.out).mono ?_; rw [HC1.out]; rintro e w2 ⟨rfl, hb2⟩; have HB2 := hid (HBR.out.trans (hb2.mono HBR.out.size)); clear hb2)
        go_roundw
        case rel => exact ⟨k + 1, by omega, by go_num, by rw [HER.out, if_pos HZ.out], HB2.out⟩
        case measure => simp [intOf]; omega
      · have HZ : Hid (errOne p n o f ≠ 0) := by simpa [Hid] using hz
        go_wp2_with (go_at_call 86; refine (polyCheck_any p n o v _ HT.out _ f _ HPF.out).mono ?_; rw [HC1.out]; rintro e w2 ⟨rfl, hb2⟩; have HB2 := hid (HBR.out.trans (hb2.mono HBR.out.size)); clear hb2)
        go_ret
        exact ⟨ret_int (by rw [HER.out, if_neg HZ.out]), HBW.out.trans (HB2.out.mono HBW.out.size)⟩
    · go_wp2
      go_ret
      exact ⟨ret_int (by rw [HER0.out, List.drop_eq_nil_of_le (by omega)]; rfl), HBW.out.trans (HBR.out.mono HBW.out.size)⟩

set_option maxHeartbeats 1000000 in
theorem isRank_any (m : Int) (w : World) : Calls Tryz.prog 85 #[.int .i64 m] w fun e w' => e = .returned (.bool (betweenB m 1 40)) ∧ w' = w := by
  have HE : Hid (betweenB m 1 40 = decide (1 ≤ m ∧ m ≤ 40)) := by show _ = _; simp [betweenB]
  rw [HE.out]
  by_cases h1 : 1 ≤ m
  · by_cases h2 : m ≤ 40
    · have HD : Hid (decide (1 ≤ m ∧ m ≤ 40) = true) := decide_eq_true ⟨h1, h2⟩
      rw [HD.out]
      go_enter Tryz.func85, Tryz.ntmps85
      go_wp2
      go_ret
      exact ⟨ret_bool (by simp [h2]), rfl⟩
    · have HD : Hid (decide (1 ≤ m ∧ m ≤ 40) = false) := decide_eq_false (by omega)
      rw [HD.out]
      go_enter Tryz.func85, Tryz.ntmps85
      go_wp2
      go_ret
      exact ⟨ret_bool (by simp [h2]), rfl⟩
  · have HD : Hid (decide (1 ≤ m ∧ m ≤ 40) = false) := decide_eq_false (by omega)
    rw [HD.out]
    go_enter Tryz.func85, Tryz.ntmps85
    go_wp2
    go_ret
    exact ⟨rfl, rfl⟩

set_option maxHeartbeats 1000000 in
theorem badFn_any (va : Option Addr) (vc : Nat) (fss : List (List Tm)) (w : World) : Calls Tryz.prog 90 #[.slice va fss.length vc] w fun e w' => e = .returned (.bool (badR fss)) ∧ w' = w := by
  go_enter Tryz.func90, Tryz.ntmps90
  go_wp2_with (go_at_call 85; refine (isRank_any _ _).mono ?_; rintro e w' ⟨rfl, rfl⟩)
  go_ret
  exact ⟨rfl, rfl⟩
set_option maxHeartbeats 1000000 in
theorem unlFn_any (va : Option Addr) (vc vb : Nat) (fss : List (List Tm)) (la : Option Addr) (lc : Nat) (vss : List (List (List Tm))) (w : World) (hp : 0 < vss.length) (hb : w.cell? ⟨vb, 0, none⟩ = some (.slice la vss.length lc)) (hs : Wl w (.slice la vss.length lc) vss) :
    Calls Tryz.prog 91 #[.slice va fss.length vc, .pointer (some ⟨vb, 0, none⟩)] w fun e w' => e = .returned (.bool (unlV (vss.getD 0 []).length fss)) ∧ w' = w := by
  obtain ⟨b, off, va2, vc2, rfl, hlt, c0, _⟩ := wl_at hs 0 hp
  generalize vss.getD 0 [] = gss at c0
  simp only [Nat.add_zero] at c0
  clear hs
  cases hun : ((fss.length : Int) != (gss.length : Int))
  · have HU := hid (unl_no (m := gss.length) hun)
    rw [HU.out]
    go_enter Tryz.func91, Tryz.ntmps91
    go_wp2
    go_ret
    exact ⟨ret_bool (by simp), rfl⟩
  · have HU := hid (unl_yes (m := gss.length) hun)
    rw [HU.out]
    go_enter Tryz.func91, Tryz.ntmps91
    go_wp2
    go_ret
    exact ⟨ret_bool (by simp), rfl⟩

set_option maxHeartbeats 1000000 in
theorem indexBad_any (lv : Value) (vss : List (List (List Tm))) (w : World) (hm : vss.length ≤ 1000) (hs : Wl w lv vss) :
    Calls Tryz.prog 117 #[lv, .func (.func 90) #[] #[]] w fun e w' => ∃ r : Int, e = .returned (.int .i64 r) ∧ decide (0 ≤ r) = vss.any badR ∧ w' = w := by
  have HS := hid hs
  obtain ⟨la, lc, rfl, _⟩ := hs
  go_enter Tryz.func117, Tryz.ntmps117
  go_wp2
  go_loop [8] (fun i => ∃ k : Nat, k ≤ vss.length ∧ i = .int .i64 k ∧ (vss.take k).any badR = false) (fun i => vss.length - (intOf i).toNat)
  case atStart => exact ⟨0, Nat.zero_le _, rfl, by simp⟩
  case round =>
    obtain ⟨k, hk, rfl, hn⟩ := hrel
    have HN := hid hn
    clear hn
    by_cases hlt : k < vss.length
    · obtain ⟨b, off, va, vc, rfl, _, c0, _⟩ := wl_at HS.out k hlt
      have H1 := hid (any_takeV badR vss k hlt HN.out)
      have H2 := hid (any_atV badR vss k hlt)
      generalize vss.getD k [] = fss at c0 H1 H2
      cases hy : badR fss
      · go_wp2_with (go_at_call 90; refine (badFn_any _ _ fss _).mono ?_; rw [hy]; rintro e w' ⟨rfl, rfl⟩)
        go_round
        case rel => exact ⟨k + 1, by omega, by go_num, H1.out hy⟩
        case measure => simp [intOf]; omega
      · go_wp2_with (go_at_call 90; refine (badFn_any _ _ fss _).mono ?_; rw [hy]; rintro e w' ⟨rfl, rfl⟩)
        go_ret
        exact ⟨(k : Int), rfl, by rw [H2.out hy]; simp, rfl⟩
    · go_wp2
      go_ret
      exact ⟨-1, rfl, by have := HN.out; rw [List.take_of_length_le (by omega)] at this; rw [this]; simp, rfl⟩
set_option maxHeartbeats 1000000 in
theorem indexUnl_any (la : Option Addr) (lc vb : Nat) (vss : List (List (List Tm))) (w : World) (hm : vss.length ≤ 1000) (hb : w.cell? ⟨vb, 0, none⟩ = some (.slice la vss.length lc)) (hs : Wl w (.slice la vss.length lc) vss) :
    Calls Tryz.prog 117 #[.slice la vss.length lc, .func (.func 91) #[] #[.pointer (some ⟨vb, 0, none⟩)]] w fun e w' => ∃ r : Int, e = .returned (.int .i64 r) ∧ decide (0 ≤ r) = vss.any (unlV (vss.getD 0 []).length) ∧ w' = w := by
  have HS := hid hs
  have HB := hid hb
  have HUN : Hid (0 < vss.length → ∀ va vc fss, Calls Tryz.prog 91 #[.slice va fss.length vc, .pointer (some ⟨vb, 0, none⟩)] w fun e w' => e = .returned (.bool (unlV (vss.getD 0 []).length fss)) ∧ w' = w) := fun hp va vc fss => unlFn_any va vc vb fss la lc vss w hp hb hs
  obtain ⟨m, hmm⟩ : ∃ m, (vss.getD 0 []).length = m := ⟨_, rfl⟩
  rw [hmm] at HUN ⊢
  clear hs hb hmm
  go_enter Tryz.func117, Tryz.ntmps117
  go_wp2
  go_loop [8] (fun i => ∃ k : Nat, k ≤ vss.length ∧ i = .int .i64 k ∧ (vss.take k).any (unlV m) = false) (fun i => vss.length - (intOf i).toNat)
  case atStart => exact ⟨0, Nat.zero_le _, rfl, by simp⟩
  case round =>
    obtain ⟨k, hk, rfl, hn⟩ := hrel
    have HN := hid hn
    clear hn
    by_cases hlt : k < vss.length
    · obtain ⟨b, off, va, vc, rfl, _, c0, _⟩ := wl_at HS.out k hlt
      have H1 := hid (any_takeV (unlV m) vss k hlt HN.out)
      have H2 := hid (any_atV (unlV m) vss k hlt)
      generalize vss.getD k [] = fss at c0 H1 H2
      have HC := hid (HUN.out (by omega) va vc fss)
      cases hy : unlV m fss
      · go_wp2_with (go_at_call 91; refine HC.out.mono ?_; rw [hy]; rintro e w' ⟨rfl, rfl⟩)
        go_round
        case rel => exact ⟨k + 1, by omega, by go_num, H1.out hy⟩
        case measure => simp [intOf]; omega
      · go_wp2_with (go_at_call 91; refine HC.out.mono ?_; rw [hy]; rintro e w' ⟨rfl, rfl⟩)
        go_ret
        exact ⟨(k : Int), rfl, by rw [H2.out hy]; simp, rfl⟩
    · go_wp2
      go_ret
      exact ⟨-1, rfl, by have := HN.out; rw [List.take_of_length_le (by omega)] at this; rw [this]; simp, rfl⟩
set_option maxHeartbeats 1000000 in
theorem containsBad_any (lv : Value) (vss : List (List (List Tm))) (w : World) (hm : vss.length ≤ 1000) (hs : Wl w lv vss) :
    Calls Tryz.prog 89 #[lv, .func (.func 90) #[] #[]] w fun e w' => e = .returned (.bool (vss.any badR)) ∧ w' = w := by
  have HS := hid hs
  obtain ⟨la, lc, rfl, _⟩ := hs
  go_enter Tryz.func89, Tryz.ntmps89
  go_wp2_with (go_at_call 117; refine (indexBad_any _ vss _ hm HS.out).mono ?_; rintro e w' ⟨r, rfl, hr, rfl⟩)
  go_ret
  exact ⟨by rw [← hr]; rfl, rfl⟩
set_option maxHeartbeats 1000000 in
theorem containsUnl_any (la : Option Addr) (lc vb : Nat) (vss : List (List (List Tm))) (w : World) (hm : vss.length ≤ 1000) (hb : w.cell? ⟨vb, 0, none⟩ = some (.slice la vss.length lc)) (hs : Wl w (.slice la vss.length lc) vss) :
    Calls Tryz.prog 89 #[.slice la vss.length lc, .func (.func 91) #[] #[.pointer (some ⟨vb, 0, none⟩)]] w fun e w' => e = .returned (.bool (vss.any (unlV (vss.getD 0 []).length))) ∧ w' = w := by
  have HI := hid (indexUnl_any la lc vb vss w hm hb hs)
  clear hs hb
  go_enter Tryz.func89, Tryz.ntmps89
  go_wp2_with (go_at_call 117; refine HI.out.mono ?_; rintro e w' ⟨r, rfl, hr, rfl⟩; have HRR := hid hr; clear hr)
  go_ret
  exact ⟨by rw [← HRR.out]; rfl, rfl⟩

set_option maxRecDepth 100000 in
set_option maxHeartbeats 2000000 in
theorem vecAll_any (p n o v : Int) (lv : Value) (vss : List (List (List Tm))) (w : World) (hm : vss.length ≤ 1000) (hs : Wl w lv vss) :
    Calls Tryz.prog 52 #[ringV p n o v, lv] w fun e w' => e = .returned (.int .i64 (errAlike p n o v vss)) ∧ Below w.heap.size w w' := by
  have HS := hid hs
  obtain ⟨la, lc, rfl, _⟩ := hs
  obtain ⟨w2, hw2⟩ : ∃ w2, w2 = (w.alloc (.cells #[.int .i64 p, .int .i64 n, .int .i64 o, .int .i64 v] 23)).alloc (.cells #[.slice la vss.length lc] 26) := ⟨_, rfl⟩
  have hb2 : Below w.heap.size w w2 := by rw [hw2]; exact below_two
  have hbx : BoxAt w2 w.heap.size p n o v := by rw [hw2]; exact (BoxAt.new w p n o v _).below below_oneG
  have hcf : w2.cell? ⟨w.heap.size + 1, 0, none⟩ = some (.slice la vss.length lc) := by rw [hw2]; simp [go_sem]
  have HB2 := hid hb2
  have HBX := hid hbx
  have HCF := hid hcf
  obtain ⟨_, bx0, bx1, bx2, bx3⟩ := hbx
  clear hb2
  cases hR : (errR p n o v != 0)
  · have hR0 : errR p n o v = 0 := by simpa using hR
    have HR := hid hR0
    have HE : Hid (errAlike p n o v vss = if vss.any badR then 3 else if vss.any (unlV (vss.getD 0 []).length) then 1 else firstZ (firstOne p n o) vss) := by show _ = _; unfold errAlike; rw [if_neg (by simpa using hR0)]
    clear hR0
    go_enter Tryz.func52, Tryz.ntmps52
    go_wp2_with fail
    try rw [← hw2]
    refine (ring_any p n o v w2).mono ?_
    rintro e w3 ⟨rfl, hb3⟩
    have HB3 := hid (HB2.out.trans (hb3.mono HB2.out.size))
    have HBX3 := hid (HBX.out.below hb3)
    have hcf3 := cell_keep HCF.out hb3
    have HCF3 := hid hcf3
    have HS3 := hid (HS.out.below HB3.out)
    clear hb3 bx0 bx1 bx2 bx3 hcf hw2
    obtain ⟨_, bx0, bx1, bx2, bx3⟩ := HBX3.out
    have HCB := hid (containsBad_any _ vss w3 hm HS3.out)
    have HCU := hid (containsUnl_any la lc (w.heap.size + 1) vss w3 hm HCF3.out HS3.out)
    cases hab : vss.any badR
    · have HE2 : Hid (errAlike p n o v vss = if vss.any (unlV (vss.getD 0 []).length) then 1 else firstZ (firstOne p n o) vss) := by show _ = _; rw [HE.out, if_neg (by rw [hab]; simp)]
      have HAB := hid hab
      cases hun : vss.any (unlV (vss.getD 0 []).length)
      · rw [hun] at HCU
        have HUN := hid hun
        have HE3 : Hid (errAlike p n o v vss = firstZ (firstOne p n o) vss) := by show _ = _; rw [HE2.out, if_neg (by rw [hun]; simp)]
        clear HE HE2 hun
        go_wp2_with fail
        refine HCB.out.mono ?_
        rw [HAB.out]
        rintro e w4 ⟨rfl, rfl⟩
        go_wp2_with fail
        refine HCU.out.mono ?_
        rintro e w4 ⟨rfl, rfl⟩
        go_wp2_with fail
        obtain ⟨wo, hwo⟩ : ∃ wo, wo = w4 := ⟨_, rfl⟩
        subst hwo
        clear bx0 bx1 bx2 bx3 hcf3
        go_loopw [21] (fun i wr => ∃ k : Nat, k ≤ vss.length ∧ i = .int .i64 k ∧ firstZ (firstOne p n o) vss = firstZ (firstOne p n o) (vss.drop k) ∧ Below wo.heap.size wo wr) (fun i _ => vss.length - (intOf i).toNat)
        case atStart => exact ⟨0, Nat.zero_le _, rfl, rfl, Below.refl _ _⟩
        case round =>
          obtain ⟨k, hk, rfl, her, hbr⟩ := hrel
          have HBR := hid hbr
          have HER0 := hid her
          clear hbr her
          by_cases hk2 : k < vss.length
          · have HER := hid (HER0.out.trans (firstZ_drop (firstOne p n o) vss k hk2))
            obtain ⟨b, off, va, vc, rfl, hlt, c0, hvl⟩ := wl_at HS3.out k hk2
            have HFLs : Hid ((vss.getD k []).length ≤ 1200000000000) := badR_len HAB.out (getD_memV vss k hk2)
            generalize vss.getD k [] = fss at c0 hvl HER HFLs
            have HVL := hid (hvl.below HBR.out)
            have d0 := cell_keep c0 HBR.out
            obtain ⟨_, bx0, bx1, bx2, bx3⟩ := HBX3.out.below HBR.out
            clear c0 hvl
            cases hz : (firstOne p n o fss != 0)
            · have HZ : Hid (firstOne p n o fss = 0) := by simpa [Hid] using hz
              go_wp2_with (go_at_call 48; refine (vecPolys_any p n o v _ fss _ HR.out HFLs.out HVL.out).mono ?_; rintro e w4 ⟨rfl, hb4⟩; have HB4 := hid (HBR.out.trans (hb4.mono HBR.out.size)); clear hb4)
              go_roundw
              case rel => exact ⟨k + 1, by omega, by go_num, by rw [HER.out, if_pos HZ.out], HB4.out⟩
              case measure => simp [intOf]; omega
            · have HZ : Hid (firstOne p n o fss ≠ 0) := by simpa [Hid] using hz
              go_wp2_with (go_at_call 48; refine (vecPolys_any p n o v _ fss _ HR.out HFLs.out HVL.out).mono ?_; rintro e w4 ⟨rfl, hb4⟩; have HB4 := hid (HBR.out.trans (hb4.mono HBR.out.size)); clear hb4)
              go_ret
              exact ⟨ret_int (by rw [HE3.out, HER.out, if_neg HZ.out]), HB3.out.trans (HB4.out.mono HB3.out.size)⟩
          · go_wp2
            go_ret
            exact ⟨ret_int (by rw [HE3.out, HER0.out, List.drop_eq_nil_of_le (by omega)]; rfl), HB3.out.trans (HBR.out.mono HB3.out.size)⟩
      · rw [hun] at HCU
        have HE3 : Hid (errAlike p n o v vss = 1) := by show _ = _; rw [HE2.out, if_pos hun]
        clear hun
        clear HE HE2
        go_wp2_with fail
        refine HCB.out.mono ?_
        rw [HAB.out]
        rintro e w4 ⟨rfl, rfl⟩
        go_wp2_with fail
        refine HCU.out.mono ?_
        rintro e w4 ⟨rfl, rfl⟩
        go_wp2_with fail
        go_ret
        exact ⟨ret_int HE3.out.symm, HB3.out⟩
    · have HE3 : Hid (errAlike p n o v vss = 3) := by show _ = _; rw [HE.out, if_pos hab]
      clear HE
      go_wp2_with (go_at_call 89; refine (containsBad_any _ vss _ hm HS3.out).mono ?_; rw [hab]; rintro e w' ⟨rfl, rfl⟩)
      go_ret
      exact ⟨ret_int HE3.out.symm, HB3.out⟩
  · have HE : Hid (errAlike p n o v vss = errR p n o v) := by show _ = _; unfold errAlike; rw [if_pos (by simpa using hR)]
    rw [HE.out]
    go_enter Tryz.func52, Tryz.ntmps52
    go_wp2_with fail
    try rw [← hw2]
    refine (ring_any p n o v w2).mono ?_
    rintro e w3 ⟨rfl, hb3⟩
    have HB3 := hid (HB2.out.trans (hb3.mono HB2.out.size))
    clear hb3
    go_wp2
    go_ret
    exact ⟨rfl, HB3.out⟩
end Go.Proofs.YtilogbggilchaaaGreat
