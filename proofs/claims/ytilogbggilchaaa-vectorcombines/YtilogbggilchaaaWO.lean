/- vector.Degree. -/
import Derived.Test.YtilogbggilchaaaWN
namespace Go.Proofs.Ytilogbggilchaaa
set_option linter.unusedSimpArgs false
set_option linter.unusedVariables false
open Go.RowKit
set_option maxHeartbeats 400000 in
theorem degFn_any (x : Int) (w : World) : Calls Try.prog 51 #[.int .i64 x] w fun e w' => e = .returned (.bool (outB x)) ∧ w' = w := by
  unfold outB
  by_cases h : x < 0
  · go_enter Try.func51, Try.ntmps51
    go_wp2
    go_ret
    exact ⟨by simp [h], rfl⟩
  · go_enter Try.func51, Try.ntmps51
    go_wp2
    go_ret
    exact ⟨by simp; omega, rfl⟩
set_option maxHeartbeats 400000 in
theorem indexDeg_any (x : Value) (xs : List Int) (w : World) (hm : xs.length ≤ 1000) (hs : Sl w x xs) :
    Calls Try.prog 72 #[x, .func (.func 51) #[] #[]] w fun e w' => ∃ r : Int, e = .returned (.int .i64 r) ∧ decide (0 ≤ r) = xs.any outB ∧ w' = w := by
  obtain ⟨a, cap, rfl, h1⟩ := hs
  have HC := hid h1
  clear h1
  go_enter Try.func72, Try.ntmps72
  go_wp2
  go_loop [8] (fun i => ∃ k : Nat, k ≤ xs.length ∧ i = .int .i64 k ∧ (xs.take k).any outB = false) (fun i => xs.length - (intOf i).toNat)
  case atStart => exact ⟨0, Nat.zero_le _, rfl, by simp⟩
  case round =>
    obtain ⟨k, hk, rfl, hn⟩ := hrel
    have HN := hid hn
    clear hn
    by_cases hlt : k < xs.length
    · obtain ⟨b, off, rfl, _, hc⟩ := HC.out (by omega)
      have hcell := hc k hlt
      have H1 := hid (any_take outB xs k hlt HN.out)
      have H2 := hid (any_at outB xs k hlt)
      generalize xs.getD k 0 = y at hcell H1 H2
      clear hc
      cases hy : outB y
      · go_wp2_with (go_at_call 51; refine (degFn_any _ _).mono ?_; rintro e w' ⟨rfl, rfl⟩)
        go_round
        case rel => exact ⟨k + 1, by omega, by go_num, H1.out hy⟩
        case measure => simp [intOf]; omega
      · go_wp2_with (go_at_call 51; refine (degFn_any _ _).mono ?_; rintro e w' ⟨rfl, rfl⟩)
        go_ret
        exact ⟨(k : Int), rfl, by rw [H2.out hy]; simp, rfl⟩
    · go_wp2
      go_ret
      exact ⟨-1, rfl, by have := HN.out; rw [List.take_of_length_le (by omega)] at this; rw [this]; simp, rfl⟩
set_option maxHeartbeats 400000 in
theorem containsDeg_any (x : Value) (xs : List Int) (w : World) (hm : xs.length ≤ 1000) (hs : Sl w x xs) :
    Calls Try.prog 50 #[x, .func (.func 51) #[] #[]] w fun e w' => e = .returned (.bool (xs.any outB)) ∧ w' = w := by
  have HS := hid hs
  obtain ⟨a, cap, rfl, _⟩ := hs
  go_enter Try.func50, Try.ntmps50
  go_wp2_with (go_at_call 72; refine (indexDeg_any _ xs _ hm HS.out).mono ?_; rintro e w' ⟨r, rfl, hr, rfl⟩)
  go_ret
  exact ⟨by rw [← hr]; rfl, rfl⟩

def degE : List Int → Int
  | [] => 5
  | z :: zs => if zs.all (fun y => y == z) then 0 else 4
def degV : List Int → Int
  | [] => 0
  | z :: zs => if zs.all (fun y => y == z) then z else 0
theorem degE_cons (z : Int) (zs : List Int) : degE (z :: zs) = if zs.all (fun y => y == z) then 0 else 4 := rfl
theorem degV_cons (z : Int) (zs : List Int) : degV (z :: zs) = if zs.all (fun y => y == z) then z else 0 := rfl
def vdE (E : Int) (ds : List Int) (fss : List (List Tm)) : Int := if E ≠ 0 then E else if ds.length ≠ fss.length then 1 else if ds.any outB then 3 else degE (degsTo ds fss fss.length)
def vdV (E : Int) (ds : List Int) (fss : List (List Tm)) : Int := if E ≠ 0 then 0 else if ds.length ≠ fss.length then 0 else if ds.any outB then 0 else degV (degsTo ds fss fss.length)
theorem vd_bad {E : Int} {ds : List Int} {fss : List (List Tm)} (h : E ≠ 0) : vdE E ds fss = E ∧ vdV E ds fss = 0 := by
  constructor
  · unfold vdE; rw [if_pos h]
  · unfold vdV; rw [if_pos h]
theorem vd_len {ds : List Int} {fss : List (List Tm)} (h : ds.length ≠ fss.length) : vdE 0 ds fss = 1 ∧ vdV 0 ds fss = 0 := by
  constructor
  · unfold vdE; rw [if_neg (by simp), if_pos h]
  · unfold vdV; rw [if_neg (by simp), if_pos h]
theorem vd_out {ds : List Int} {fss : List (List Tm)} (h : ds.length = fss.length) (ha : ds.any outB = true) : vdE 0 ds fss = 3 ∧ vdV 0 ds fss = 0 := by
  constructor
  · unfold vdE; rw [if_neg (by simp), if_neg (by omega), if_pos ha]
  · unfold vdV; rw [if_neg (by simp), if_neg (by omega), if_pos ha]
theorem vd_ok {ds : List Int} {fss : List (List Tm)} (h : ds.length = fss.length) (ha : ds.any outB = false) : vdE 0 ds fss = degE (degsTo ds fss fss.length) ∧ vdV 0 ds fss = degV (degsTo ds fss fss.length) := by
  constructor
  · unfold vdE; rw [if_neg (by simp), if_neg (by omega), if_neg (by rw [ha]; simp)]
  · unfold vdV; rw [if_neg (by simp), if_neg (by omega), if_neg (by rw [ha]; simp)]
theorem nat_eq {a b : Nat} (h : ((a : Int) != (b : Int)) = false) : a = b := by
  have h1 : (a : Int) = b := by simpa using h
  omega
theorem nat_ne {a b : Nat} (h : ((a : Int) != (b : Int)) = true) : a ≠ b := by
  have h1 : ¬ (a : Int) = b := by simpa using h
  omega

set_option maxRecDepth 100000 in
set_option maxHeartbeats 2000000 in
theorem vecDegree_any (p n o v : Int) (x y : Value) (ds : List Int) (fss : List (List Tm)) (w : World) (sd : Sl w x ds) (pf : Vl w y fss) :
    Calls Try.prog 21 #[ringV p n o v, x, y] w fun e w' => e = .returned (.tuple #[.int .i64 (vdV (errAlike p n o v [fss]) ds fss), .int .i64 (vdE (errAlike p n o v [fss]) ds fss)]) ∧ Below w.heap.size w w' := by
  have HX := hid sd
  have HY := hid pf
  obtain ⟨ax, cx, rfl, _⟩ := sd
  obtain ⟨ay, cy, rfl, _⟩ := pf
  obtain ⟨w2, hw2⟩ : ∃ w2, w2 = w.alloc (.cells #[.int .i64 p, .int .i64 n, .int .i64 o, .int .i64 v] 23) := ⟨_, rfl⟩
  have hb2 : Below w.heap.size w w2 := by rw [hw2]; exact below_oneG
  have hbx : BoxAt w2 w.heap.size p n o v := by rw [hw2]; exact BoxAt.new w p n o v _
  have hs2 : w2.heap.size = w.heap.size + 1 := by rw [hw2]; simp
  have HB2 := hid hb2
  have HW2 : Hid (∀ T, Wl (w2.alloc (.cells #[.slice ay fss.length cy] T)) (.slice (some ⟨w2.heap.size, 0, none⟩) 1 1) [fss]) := fun T => wl_one ((HY.out.below hb2).below below_oneG) (by simp) (by simp [go_sem])
  rw [hs2] at HW2
  have HVA := hid (fun T => vecAll_any p n o v _ [fss] _ (by simp) (HW2.out T))
  obtain ⟨_, bx0, bx1, bx2, bx3⟩ := hbx
  clear hs2 hb2
  cases hz : (errAlike p n o v [fss] != 0)
  · have hz0 : errAlike p n o v [fss] = 0 := by simpa using hz
    have HZ := hid hz0
    obtain ⟨hR, hall⟩ := alike_ok hz0
    obtain ⟨h1, _, h3⟩ := hall fss (by simp)
    obtain ⟨hpr, hn1, hn2, ho, hov⟩ := ring_ok hR
    have HRT : Hid (∀ f ∈ fss, Right p o n.toNat f) := fun f hf => (right_of hR (h3 f hf)).1
    have hN0 : 0 < n.toNat := by omega
    have hN3 : n.toNat ≤ 3 := by omega
    have h40 : fss.length ≤ 40 := h1.2
    clear hz0 hR hall h1 h3 hpr ho hov
    cases hln : ((ds.length : Int) != (fss.length : Int))
    · have hl : ds.length = fss.length := nat_eq hln
      have HL := hid hl
      have hd40 : ds.length ≤ 1000 := by omega
      clear hl
      cases hany : ds.any outB
      · have hE := vd_ok (fss := fss) HL.out hany
        rw [HZ.out, hE.1, hE.2]
        have HDB : Hid (∀ d ∈ ds, 0 ≤ d ∧ d ≤ 200) := fun d hd => by
          have h := List.any_eq_false.1 hany d hd
          simp [outB] at h
          omega
        have HTD := hid (fun (W : World) (h1 : Sl W (.slice ax ds.length cx) ds) (h2 : Vl W (.slice ay fss.length cy) fss) => termDegrees_any _ _ p o n.toNat ds fss W hN0 hN3 HL.out h40 HDB.out HRT.out h1 h2)
        have HLN := hid (degsTo_len (ds := ds) (fss := fss) (N := 2000) (fun f hf2 => (HRT.out f hf2).len) fss.length (Nat.le_refl _))
        clear hE
        generalize degsTo ds fss fss.length = zs at HTD HLN ⊢
        cases zs with
        | nil =>
          go_enter Try.func21, Try.ntmps21
          go_wp2_with fail
          try rw [← hw2]
          refine (HVA.out _).mono ?_
          rw [HZ.out]
          rintro e w3 ⟨rfl, hb3⟩
          have HB3 := hid (HB2.out.trans ((show Below w2.heap.size w2 w3 from below_oneG.trans (hb3.mono (by simp))).mono HB2.out.size))
          clear hb3 bx0 bx1 bx2 bx3 hw2
          go_wp2_with fail
          refine (containsDeg_any _ ds _ hd40 (HX.out.below HB3.out)).mono ?_
          rw [hany]
          rintro e w4 ⟨rfl, rfl⟩
          go_wp2_with fail
          refine (HTD.out _ (HX.out.below HB3.out) (HY.out.below HB3.out)).mono ?_
          rintro e w5 ⟨u, rfl, hu, hb5⟩
          have HB5 := hid (HB3.out.trans (hb5.mono HB3.out.size))
          obtain ⟨ua, uc, rfl, _⟩ := hu
          clear hb5
          go_wp2
          go_ret2
          exact ⟨rfl, HB5.out⟩
        | cons z zs =>
          have hlen : (z :: zs).length ≤ 4000000 := by have := HLN.out; omega
          cases hal : zs.all (fun y => y == z)
          all_goals
            go_enter Try.func21, Try.ntmps21
            go_wp2_with fail
            try rw [← hw2]
            refine (HVA.out _).mono ?_
            rw [HZ.out]
            rintro e w3 ⟨rfl, hb3⟩
            have HB3 := hid (HB2.out.trans ((show Below w2.heap.size w2 w3 from below_oneG.trans (hb3.mono (by simp))).mono HB2.out.size))
            clear hb3 bx0 bx1 bx2 bx3 hw2
            go_wp2_with fail
            refine (containsDeg_any _ ds _ hd40 (HX.out.below HB3.out)).mono ?_
            rw [hany]
            rintro e w4 ⟨rfl, rfl⟩
            go_wp2_with fail
            refine (HTD.out _ (HX.out.below HB3.out) (HY.out.below HB3.out)).mono ?_
            rintro e w5 ⟨u, rfl, hu, hb5⟩
            have HB5 := hid (HB3.out.trans (hb5.mono HB3.out.size))
            have HU := hid hu
            obtain ⟨ua, uc, rfl, hu1⟩ := hu
            obtain ⟨ub, uoff, rfl, _, huc⟩ := hu1 (by simp)
            have u0 := huc 0 (by simp)
            simp only [Nat.add_zero, List.getD_cons_zero] at u0
            clear hb5 hu1 huc
            go_wp2_with fail
            refine (minI_any _ (z :: zs) _ hlen (by simp) HU.out).mono ?_
            rintro e w6 ⟨r1, rfl, hr1, hm1, rfl⟩
            go_wp2_with fail
            refine (maxI_any _ (z :: zs) _ hlen (by simp) HU.out).mono ?_
            rintro e w6 ⟨r2, rfl, hr2, hm2, rfl⟩
          · have HNE : Hid (r1 ≠ r2) := by
              intro e
              have hn : ¬ zs.all (fun y => y == z) = true := by rw [hal]; simp
              apply hn
              rw [List.all_eq_true]
              intro y hy
              have a1 := hr1 y (by simp [hy])
              have a2 := hr2 y (by simp [hy])
              have b1 := hr1 z (by simp)
              have b2 := hr2 z (by simp)
              simp only [beq_iff_eq]
              omega
            have hne : (r1 != r2) = true := by simpa using HNE.out
            have HDE : Hid (degE (z :: zs) = 4 ∧ degV (z :: zs) = 0) := ⟨by rw [degE_cons, hal]; rfl, by rw [degV_cons, hal]; rfl⟩
            clear hr1 hr2 hm1 hm2
            go_wp2
            go_ret2
            exact ⟨by rw [HDE.out.1, HDE.out.2]; rfl, HB5.out⟩
          · have hall2 : ∀ y ∈ z :: zs, y = z := by
              intro y hy
              rcases List.mem_cons.1 hy with rfl | hy
              · rfl
              · have := List.all_eq_true.1 hal y hy
                simpa using this
            have e1 := hall2 r1 hm1
            have e2 := hall2 r2 hm2
            have hne : (r1 != r2) = false := by rw [e1, e2]; simp
            have HDE : Hid (degE (z :: zs) = 0 ∧ degV (z :: zs) = z) := ⟨by rw [degE_cons, hal]; rfl, by rw [degV_cons, hal]; rfl⟩
            clear hr1 hr2 hm1 hm2 hall2 e1 e2
            go_wp2
            go_ret2
            exact ⟨by rw [HDE.out.1, HDE.out.2]; rfl, HB5.out⟩
      · have hE := vd_out (fss := fss) HL.out hany
        rw [HZ.out, hE.1, hE.2]
        clear hE
        go_enter Try.func21, Try.ntmps21
        go_wp2_with fail
        try rw [← hw2]
        refine (HVA.out _).mono ?_
        rw [HZ.out]
        rintro e w3 ⟨rfl, hb3⟩
        have HB3 := hid (HB2.out.trans ((show Below w2.heap.size w2 w3 from below_oneG.trans (hb3.mono (by simp))).mono HB2.out.size))
        clear hb3 bx0 bx1 bx2 bx3 hw2
        go_wp2_with fail
        refine (containsDeg_any _ ds _ hd40 (HX.out.below HB3.out)).mono ?_
        rw [hany]
        rintro e w4 ⟨rfl, rfl⟩
        go_wp2
        go_ret2
        exact ⟨rfl, HB3.out⟩
    · have hl : ds.length ≠ fss.length := nat_ne hln
      have hE := vd_len hl
      rw [HZ.out, hE.1, hE.2]
      clear hE hl
      go_enter Try.func21, Try.ntmps21
      go_wp2_with fail
      try rw [← hw2]
      refine (HVA.out _).mono ?_
      rw [HZ.out]
      rintro e w3 ⟨rfl, hb3⟩
      have HB3 := hid (HB2.out.trans ((show Below w2.heap.size w2 w3 from below_oneG.trans (hb3.mono (by simp))).mono HB2.out.size))
      clear hb3 bx0 bx1 bx2 bx3 hw2
      go_wp2
      go_ret2
      exact ⟨rfl, HB3.out⟩
  · have hz0 : errAlike p n o v [fss] ≠ 0 := by simpa using hz
    have hE := vd_bad (ds := ds) (fss := fss) hz0
    rw [hE.1, hE.2]
    clear hE hz0
    go_enter Try.func21, Try.ntmps21
    go_wp2_with fail
    try rw [← hw2]
    refine (HVA.out _).mono ?_
    rintro e w3 ⟨rfl, hb3⟩
    have HB3 := hid (HB2.out.trans ((show Below w2.heap.size w2 w3 from below_oneG.trans (hb3.mono (by simp))).mono HB2.out.size))
    clear hb3
    go_wp2
    go_ret2
    exact ⟨rfl, HB3.out⟩
end Go.Proofs.Ytilogbggilchaaa
