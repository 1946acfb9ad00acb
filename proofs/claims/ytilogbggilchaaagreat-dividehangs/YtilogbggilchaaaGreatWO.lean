/- vector.Degree. -/
import Derived.Test.YtilogbggilchaaaGreatWM
import Derived.Test.YtilogbggilchaaaGreatH
import Derived.Test.YtilogbggilchaaaGreatWH
import Derived.Test.YtilogbggilchaaaGreatPJ
namespace Go.Proofs.YtilogbggilchaaaGreat
set_option linter.unusedSimpArgs false
set_option linter.unusedVariables false
open Go.RowKit
set_option maxHeartbeats 400000 in
theorem degFn_any (x : Int) (w : World) : Calls Tryz.prog 80 #[.int .i64 x] w fun e w' => e = .returned (.bool (outB x)) ∧ w' = w := by
  unfold outB
  by_cases h : x < 0
  · go_enter Tryz.func80, Tryz.ntmps80
    go_wp2
    go_ret
    exact ⟨by simp [h], rfl⟩
  · go_enter Tryz.func80, Tryz.ntmps80
    go_wp2
    go_ret
    exact ⟨by simp; omega, rfl⟩
set_option maxHeartbeats 400000 in
theorem indexDeg_any (x : Value) (xs : List Int) (w : World) (hm : xs.length ≤ 1000) (hs : Sl w x xs) :
    Calls Tryz.prog 110 #[x, .func (.func 80) #[] #[]] w fun e w' => ∃ r : Int, e = .returned (.int .i64 r) ∧ decide (0 ≤ r) = xs.any outB ∧ w' = w := by
  obtain ⟨a, cap, rfl, h1⟩ := hs
  have HC := hid h1
  clear h1
  go_enter Tryz.func110, Tryz.ntmps110
  go_wp2
  go_loop [8] (fun i => ∃ k : Nat, k ≤ xs.length ∧ i = .int .i64 k ∧ (xs.take k).any outB = false) (fun i => xs.length - (intOf i).toNat)
  case atStart => exact ⟨0, Nat.zero_le _, rfl, by simp⟩
  case round =>
    obtain ⟨k, hk, rfl, hn⟩ := hrel
    have HN := hid hn
    clear hn
    by_cases hlt : k < xs.length
    · obtain ⟨b, off, rfl, _, hc⟩ := HC.out (by omega)
      have hcell := hc k hlt
      have H1 := hid (any_take outB xs k hlt HN.out)
      have H2 := hid (any_at outB xs k hlt)
      generalize xs.getD k 0 = y at hcell H1 H2
      clear hc
      cases hy : outB y
      · go_wp2_with (go_at_call 80; refine (degFn_any _ _).mono ?_; rintro e w' ⟨rfl, rfl⟩)
        go_round
        case rel => exact ⟨k + 1, by omega, by go_num, H1.out hy⟩
        case measure => simp [intOf]; omega
      · go_wp2_with (go_at_call 80; refine (degFn_any _ _).mono ?_; rintro e w' ⟨rfl, rfl⟩)
        go_ret
        exact ⟨(k : Int), rfl, by rw [H2.out hy]; simp, rfl⟩
    · go_wp2
      go_ret
      exact ⟨-1, rfl, by have := HN.out; rw [List.take_of_length_le (by omega)] at this; rw [this]; simp, rfl⟩
set_option maxHeartbeats 400000 in
theorem containsDeg_any (x : Value) (xs : List Int) (w : World) (hm : xs.length ≤ 1000) (hs : Sl w x xs) :
    Calls Tryz.prog 79 #[x, .func (.func 80) #[] #[]] w fun e w' => e = .returned (.bool (xs.any outB)) ∧ w' = w := by
  have HS := hid hs
  obtain ⟨a, cap, rfl, _⟩ := hs
  go_enter Tryz.func79, Tryz.ntmps79
  go_wp2_with (go_at_call 110; refine (indexDeg_any _ xs _ hm HS.out).mono ?_; rintro e w' ⟨r, rfl, hr, rfl⟩)
  go_ret
  exact ⟨by rw [← hr]; rfl, rfl⟩

def degE : List Int → Int
  | [] => 5
  | z :: zs => if zs.all (fun y => y == z) then 0 else 4
def degV : List Int → Int
  | [] => 0
  | z :: zs => if zs.all (fun y => y == z) then z else 0
theorem degE_cons (z : Int) (zs : List Int) : degE (z :: zs) = if zs.all (fun y => y == z) then 0 else 4 := rfl
theorem degV_cons (z : Int) (zs : List Int) : degV (z :: zs) = if zs.all (fun y => y == z) then z else 0 := rfl
def vdE (E : Int) (ds : List Int) (fss : List (List Tm)) : Int := if E ≠ 0 then E else if ds.length ≠ fss.length then 1 else if ds.any outB then 3 else degE (degsTo ds fss fss.length)
def vdV (E : Int) (ds : List Int) (fss : List (List Tm)) : Int := if E ≠ 0 then 0 else if ds.length ≠ fss.length then 0 else if ds.any outB then 0 else degV (degsTo ds fss fss.length)
theorem vd_bad {E : Int} {ds : List Int} {fss : List (List Tm)} (h : E ≠ 0) : vdE E ds fss = E ∧ vdV E ds fss = 0 := by
  constructor
  · unfold vdE; rw [if_pos h]
  · unfold vdV; rw [if_pos h]
theorem vd_len {ds : List Int} {fss : List (List Tm)} (h : ds.length ≠ fss.length) : vdE 0 ds fss = 1 ∧ vdV 0 ds fss = 0 := by
  constructor
  · unfold vdE; rw [if_neg (by simp), if_pos h]
  · unfold vdV; rw [if_neg (by simp), if_pos h]
theorem vd_out {ds : List Int} {fss : List (List Tm)} (h : ds.length = fss.length) (ha : ds.any outB = true) : vdE 0 ds fss = 3 ∧ vdV 0 ds fss = 0 := by
  constructor
  · unfold vdE; rw [if_neg (by simp), if_neg (by omega), if_pos ha]
  · unfold vdV; rw [if_neg (by simp), if_neg (by omega), if_pos ha]
theorem vd_ok {ds : List Int} {fss : List (List Tm)} (h : ds.length = fss.length) (ha : ds.any outB = false) : vdE 0 ds fss = degE (degsTo ds fss fss.length) ∧ vdV 0 ds fss = degV (degsTo ds fss fss.length) := by
  constructor
  · unfold vdE; rw [if_neg (by simp), if_neg (by omega), if_neg (by rw [ha]; simp)]
  · unfold vdV; rw [if_neg (by simp), if_neg (by omega), if_neg (by rw [ha]; simp)]
theorem nat_eq {a b : Nat} (h : ((a : Int) != (b : Int)) = false) : a = b := by
  have h1 : (a : Int) = b := by simpa using h
  omega
theorem nat_ne {a b : Nat} (h : ((a : Int) != (b : Int)) = true) : a ≠ b := by
  have h1 : ¬ (a : Int) = b := by simpa using h
  omega

set_option maxRecDepth 100000 in
set_option maxHeartbeats 2000000 in
theorem vecDegree_any (p n o v : Int) (x y : Value) (ds : List Int) (fss : List (List Tm)) (w : World) (sd : Sl w x ds) (pf : Vl w y fss) :
    Calls Tryz.prog 46 #[ringV p n o v, x, y] w fun e w' => e = .returned (.tuple #[.int .i64 (vdV (errAlike p n o v [fss]) ds fss), .int .i64 (vdE (errAlike p n o v [fss]) ds fss)]) ∧ Below w.heap.size w w' := by
  have HX := hid sd
  have HY := hid pf
  obtain ⟨ax, cx, rfl, _⟩ := sd
  obtain ⟨ay, cy, rfl, _⟩ := pf
  obtain ⟨w2, hw2⟩ : ∃ w2, w2 = w.alloc (.cells #[.int .i64 p, .int .i64 n, .int .i64 o, .int .i64 v] 23) := ⟨_, rfl⟩
  have hb2 : Below w.heap.size w w2 := by rw [hw2]; exact below_oneG
  have hbx : BoxAt w2 w.heap.size p n o v := by rw [hw2]; exact BoxAt.new w p n o v _
  have hs2 : w2.heap.size = w.heap.size + 1 := by rw [hw2]; simp
  have HB2 := hid hb2
  have HW2 : Hid (∀ T, Wl (w2.alloc (.cells #[.slice ay fss.length cy] T)) (.slice (some ⟨w2.heap.size, 0, none⟩) 1 1) [fss]) := fun T => wl_one ((HY.out.below hb2).below below_oneG) (by simp) (by simp [go_sem])
  rw [hs2] at HW2
  have HVA := hid (fun T => vecAll_any p n o v _ [fss] _ (by simp) (HW2.out T))
  obtain ⟨_, bx0, bx1, bx2, bx3⟩ := hbx
  clear hs2 hb2
  cases hz : (errAlike p n o v [fss] != 0)
  · have hz0 : errAlike p n o v [fss] = 0 := by simpa using hz
    have HZ := hid hz0
    obtain ⟨hR, hall⟩ := alike_ok hz0
    obtain ⟨h1, _, h3⟩ := hall fss (by simp)
    obtain ⟨hpr, hn1, hn2, ho, hov⟩ := ring_ok hR
    have HRT : Hid (∀ f ∈ fss, Right p o n.toNat f) := fun f hf => (right_of hR (h3 f hf)).1
    have hN0 : 0 < n.toNat := by omega
    have hN3 : n.toNat ≤ 3 := by omega
    have h40 : fss.length ≤ 40 := h1.2
    clear hz0 hR hall h1 h3 hpr ho hov
    cases hln : ((ds.length : Int) != (fss.length : Int))
    · have hl : ds.length = fss.length := nat_eq hln
      have HL := hid hl
      have hd40 : ds.length ≤ 1000 := by omega
      clear hl
      cases hany : ds.any outB
      · have hE := vd_ok (fss := fss) HL.out hany
        rw [HZ.out, hE.1, hE.2]
        have HDB : Hid (∀ d ∈ ds, 0 ≤ d ∧ d ≤ 200) := fun d hd => by
          have h := List.any_eq_false.1 hany d hd
          simp [outB] at h
          omega
        have HTD := hid (fun (W : World) (h1 : Sl W (.slice ax ds.length cx) ds) (h2 : Vl W (.slice ay fss.length cy) fss) => termDegrees_any _ _ p o n.toNat ds fss W hN0 hN3 HL.out h40 HDB.out HRT.out h1 h2)
        have HLN := hid (degsTo_len (ds := ds) (fss := fss) (N := 2000) (fun f hf2 => (HRT.out f hf2).len) fss.length (Nat.le_refl _))
        clear hE
        generalize degsTo ds fss fss.length = zs at HTD HLN ⊢
        cases zs with
        | nil =>
          go_enter Tryz.func46, Tryz.ntmps46
          go_wp2_with fail
          try rw [← hw2]
          refine (HVA.out _).mono ?_
          rw [HZ.out]
          rintro e w3 ⟨rfl, hb3⟩
          have HB3 := hid (HB2.out.trans ((show Below w2.heap.size w2 w3 from below_oneG.trans (hb3.mono (by simp))).mono HB2.out.size))
          clear hb3 bx0 bx1 bx2 bx3 hw2
          go_wp2_with fail
          refine (containsDeg_any _ ds _ hd40 (HX.out.below HB3.out)).mono ?_
          rw [hany]
          rintro e w4 ⟨rfl, rfl⟩
          go_wp2_with fail
          refine (HTD.out _ (HX.out.below HB3.out) (HY.out.below HB3.out)).mono ?_
          rintro e w5 ⟨u, rfl, hu, hb5⟩
          have HB5 := hid (HB3.out.trans (hb5.mono HB3.out.size))
          obtain ⟨ua, uc, rfl, _⟩ := hu
          clear hb5
          go_wp2
          go_ret2
          exact ⟨rfl, HB5.out⟩
        | cons z zs =>
          have hlen : (z :: zs).length ≤ 1200000000000 := by have := HLN.out; omega
          cases hal : zs.all (fun y => y == z)
          all_goals
            go_enter Tryz.func46, Tryz.ntmps46
            go_wp2_with fail
            try rw [← hw2]
            refine (HVA.out _).mono ?_
            rw [HZ.out]
            rintro e w3 ⟨rfl, hb3⟩
            have HB3 := hid (HB2.out.trans ((show Below w2.heap.size w2 w3 from below_oneG.trans (hb3.mono (by simp))).mono HB2.out.size))
            clear hb3 bx0 bx1 bx2 bx3 hw2
            go_wp2_with fail
            refine (containsDeg_any _ ds _ hd40 (HX.out.below HB3.out)).mono ?_
            rw [hany]
            rintro e w4 ⟨rfl, rfl⟩
            go_wp2_with fail
            refine (HTD.out _ (HX.out.below HB3.out) (HY.out.below HB3.out)).mono ?_
            rintro e w5 ⟨u, rfl, hu, hb5⟩
            have HB5 := hid (HB3.out.trans (hb5.mono HB3.out.size))
            have HU := hid hu
            obtain ⟨ua, uc, rfl, hu1⟩ := hu
            obtain ⟨ub, uoff, rfl, _, huc⟩ := hu1 (by simp)
            have u0 := huc 0 (by simp)
            simp only [Nat.add_zero, List.getD_cons_zero] at u0
            clear hb5 hu1 huc
            go_wp2_with fail
            refine (minI_any _ (z :: zs) _ hlen (by simp) HU.out).mono ?_
            rintro e w6 ⟨r1, rfl, hr1, hm1, rfl⟩
            go_wp2_with fail
            refine (maxI_any _ (z :: zs) _ hlen (by simp) HU.out).mono ?_
            rintro e w6 ⟨r2, rfl, hr2, hm2, rfl⟩
          · have HNE : Hid (r1 ≠ r2) := by
              intro e
              have hn : ¬ zs.all (fun y => y == z) = true := by rw [hal]; simp
              apply hn
              rw [List.all_eq_true]
              intro y hy
              have a1 := hr1 y (by simp [hy])
              have a2 := hr2 y (by simp [hy])
              have b1 := hr1 z (by simp)
              have b2 := hr2 z (by simp)
              simp only [beq_iff_eq]
              omega
            have hne : (r1 != r2) = true := by simpa using HNE.out
            have HDE : Hid (degE (z :: zs) = 4 ∧ degV (z :: zs) = 0) := ⟨by rw [degE_cons, hal]; rfl, by rw [degV_cons, hal]; rfl⟩
            clear hr1 hr2 hm1 hm2
            go_wp2
            go_ret2
            exact ⟨by rw [HDE.out.1, HDE.out.2]; rfl, HB5.out⟩
          · have hall2 : ∀ y ∈ z :: zs, y = z := by
              intro y hy
              rcases List.mem_cons.1 hy with rfl | hy
              · rfl
              · have := List.all_eq_true.1 hal y hy
                simpa using this
            have e1 := hall2 r1 hm1
            have e2 := hall2 r2 hm2
            have hne : (r1 != r2) = false := by rw [e1, e2]; simp
            have HDE : Hid (degE (z :: zs) = 0 ∧ degV (z :: zs) = z) := ⟨by rw [degE_cons, hal]; rfl, by rw [degV_cons, hal]; rfl⟩
            clear hr1 hr2 hm1 hm2 hall2 e1 e2
            go_wp2
            go_ret2
            exact ⟨by rw [HDE.out.1, HDE.out.2]; rfl, HB5.out⟩
      · have hE := vd_out (fss := fss) HL.out hany
        rw [HZ.out, hE.1, hE.2]
        clear hE
        go_enter Tryz.func46, Tryz.ntmps46
        go_wp2_with fail
        try rw [← hw2]
        refine (HVA.out _).mono ?_
        rw [HZ.out]
        rintro e w3 ⟨rfl, hb3⟩
        have HB3 := hid (HB2.out.trans ((show Below w2.heap.size w2 w3 from below_oneG.trans (hb3.mono (by simp))).mono HB2.out.size))
        clear hb3 bx0 bx1 bx2 bx3 hw2
        go_wp2_with fail
        refine (containsDeg_any _ ds _ hd40 (HX.out.below HB3.out)).mono ?_
        rw [hany]
        rintro e w4 ⟨rfl, rfl⟩
        go_wp2
        go_ret2
        exact ⟨rfl, HB3.out⟩
    · have hl : ds.length ≠ fss.length := nat_ne hln
      have hE := vd_len hl
      rw [HZ.out, hE.1, hE.2]
      clear hE hl
      go_enter Tryz.func46, Tryz.ntmps46
      go_wp2_with fail
      try rw [← hw2]
      refine (HVA.out _).mono ?_
      rw [HZ.out]
      rintro e w3 ⟨rfl, hb3⟩
      have HB3 := hid (HB2.out.trans ((show Below w2.heap.size w2 w3 from below_oneG.trans (hb3.mono (by simp))).mono HB2.out.size))
      clear hb3 bx0 bx1 bx2 bx3 hw2
      go_wp2
      go_ret2
      exact ⟨rfl, HB3.out⟩
  · have hz0 : errAlike p n o v [fss] ≠ 0 := by simpa using hz
    have hE := vd_bad (ds := ds) (fss := fss) hz0
    rw [hE.1, hE.2]
    clear hE hz0
    go_enter Tryz.func46, Tryz.ntmps46
    go_wp2_with fail
    try rw [← hw2]
    refine (HVA.out _).mono ?_
    rintro e w3 ⟨rfl, hb3⟩
    have HB3 := hid (HB2.out.trans ((show Below w2.heap.size w2 w3 from below_oneG.trans (hb3.mono (by simp))).mono HB2.out.size))
    clear hb3
    go_wp2
    go_ret2
    exact ⟨rfl, HB3.out⟩
def vB : List (List Tm) := [[], [(1, [1, 0])]]
theorem pl_new1 {w : World} {c1 : Int} {s1 : Value} {e1 : List Int} {T : TypeId} (h1 : Sl w s1 e1) : Pl (w.alloc (.cells #[.int .i64 c1, s1] T)) (.slice (some ⟨w.heap.size, 0, none⟩) 1 1) [(c1, e1)] := by
  refine ⟨_, 1, rfl, Nat.le_refl _, fun _ => ⟨w.heap.size, 0, rfl, by simp, fun i hi => ?_⟩⟩
  rcases i with _ | i
  · exact ⟨by simp [go_sem], s1, by simp [go_sem], h1.below below_oneG⟩
  · simp at hi
theorem vB_facts : errAlike 7 2 1 1 [vB] = 0 ∧ errAlike 7 2 1 1 [vB, vB] = 0 ∧ leadF 1 1 vB 2 = some (1, (1, [1, 0])) ∧ sums 7 1 vB vB = [[], [(2, [1, 0])]] ∧ visE 0 [[], [(2, [1, 0])]] = 0 ∧ vdE 0 [0, 2] vB = 0 ∧ vdV 0 [0, 2] vB = 3 ∧ errVecs 7 2 1 1 2 [vB] = 0 := by
  refine ⟨by decide +kernel, by decide +kernel, by decide +kernel, by decide +kernel, by decide +kernel, by decide +kernel, by decide +kernel, by decide +kernel⟩

set_option maxRecDepth 100000 in
set_option maxHeartbeats 2000000 in
theorem vectorBegun_any (w : World) : Calls Tryz.prog 13 #[] w fun e w' => e = .returned (.bool true) ∧ Below w.heap.size w w' := by
  obtain ⟨f1, f2, f3, f4, f5, f6, f7, f8⟩ := vB_facts
  have g1 : ldP (leadS (errAlike 7 2 1 1 [vB]) (leadF 1 1 vB vB.length)) = 1 := by rw [f1, show vB.length = 2 from rfl, f3]; rfl
  have g2 : ldC (leadS (errAlike 7 2 1 1 [vB]) (leadF 1 1 vB vB.length)) = 1 := by rw [f1, show vB.length = 2 from rfl, f3]; rfl
  have g3 : leadE (errAlike 7 2 1 1 [vB]) (leadF 1 1 vB vB.length) = 0 := by rw [f1, show vB.length = 2 from rfl, f3]; rfl
  have g4 : visE (errAlike 7 2 1 1 [vB, vB]) (sums 7 1 vB vB) = 0 := by rw [f2, f4]; exact f5
  have g5 : visR (errAlike 7 2 1 1 [vB, vB]) (sums 7 1 vB vB) = [[], [(2, [1, 0])]] := by unfold visR; rw [g4, if_pos rfl, f4]
  have g6 : vdE (errAlike 7 2 1 1 [vB]) [0, 2] vB = 0 := by rw [f1]; exact f6
  have g7 : vdV (errAlike 7 2 1 1 [vB]) [0, 2] vB = 3 := by rw [f1]; exact f7
  have G := hid (And.intro g1 (And.intro g2 (And.intro g3 (And.intro g4 (And.intro g5 (And.intro g6 (And.intro g7 f8)))))))
  clear f1 f2 f3 f4 f5 f6 f7 f8 g1 g2 g3 g4 g5 g6 g7
  go_enter Tryz.func13, Tryz.ntmps13
  go_wp2_with fail
  refine (term_any _ _ _ _ _).mono ?_
  rintro e w1 ⟨rfl, hb1⟩
  have HS1 := hid ((Sl.new2 w 1 0 _).below hb1)
  have HB1 := hid (show Below w.heap.size w w1 from below_one.trans (hb1.mono (by simp)))
  clear hb1
  have HV : Hid (∀ T T', Vl ((w1.alloc (.cells #[.int .i64 1, .slice (some ⟨w.heap.size, 0, none⟩) 2 2] T)).alloc (.cells #[.slice none 0 0, .slice (some ⟨w1.heap.size, 0, none⟩) 1 1] T')) (.slice (some ⟨w1.heap.size + 1, 0, none⟩) 2 2) vB) := fun T T' =>
    pls2 (Pl.empty _) ((pl_new1 HS1.out).below below_oneG) (by simp) (by simp [go_sem]) (by simp [go_sem])
  go_wp2_with fail
  refine (xy_any _).mono ?_
  rintro e w2 ⟨rfl, hb2⟩
  have HV2 := hid ((HV.out _ _).below hb2)
  have HB2 := hid (show Below w.heap.size w w2 from HB1.out.trans ((below_two.trans (hb2.mono below_two.size)).mono HB1.out.size))
  clear hb2
  go_wp2_with fail
  refine (vecLead_any 7 2 1 1 _ vB _ HV2.out).mono ?_
  rw [G.out.1, G.out.2.1, G.out.2.2.1]
  rintro e w3 ⟨la, lc, rfl, _, hb3⟩
  have HV3 := hid (HV2.out.below hb3)
  have HB3 := hid (HB2.out.trans (hb3.mono HB2.out.size))
  clear hb3
  generalize (ldE (leadS (errAlike 7 2 1 1 [vB]) (leadF 1 1 vB vB.length))).length = ll
  obtain ⟨w4, hw4⟩ : ∃ w4, w4 = w3.alloc (.cells #[.int .i64 1, .slice la ll lc] 57) := ⟨_, rfl⟩
  have HB4 : Hid (Below w.heap.size w w4) := by rw [hw4]; exact HB3.out.trans (belowNew.mono HB3.out.size)
  have HV4 : Hid (Vl w4 (.slice (some ⟨w1.heap.size + 1, 0, none⟩) 2 2) vB) := by rw [hw4]; exact HV3.out.below belowNew
  have HC4 : Hid (w4.cell? ⟨w3.heap.size, 0, none⟩ = some (.int .i64 1)) := by show _ = _; rw [hw4]; simp [go_sem]
  go_wp2_with fail
  try rw [← hw4]
  refine (xy_any _).mono ?_
  rintro e w5 ⟨rfl, hb5⟩
  have HV5 := hid (HV4.out.below hb5)
  have HB5 := hid (HB4.out.trans (hb5.mono HB4.out.size))
  have HC5 := hid (cell_keep HC4.out hb5)
  clear hb5 hw4
  go_wp2_with fail
  refine (vecAdd_any 7 2 1 1 _ _ vB vB _ HV5.out HV5.out).mono ?_
  rw [G.out.2.2.2.1, G.out.2.2.2.2.1]
  rintro e w6 ⟨u, rfl, hu, hb6⟩
  have HV6 := hid (HV5.out.below hb6)
  have HB6 := hid (HB5.out.trans (hb6.mono HB5.out.size))
  have HC6 := hid (cell_keep HC5.out hb6)
  have HU6 := hid hu
  obtain ⟨ua, uc, rfl, _⟩ := hu
  clear hb6
  go_wp2_with fail
  refine (xy_any _).mono ?_
  rintro e w7 ⟨rfl, hb7⟩
  have HV7 := hid (HV6.out.below hb7)
  have HB7 := hid (HB6.out.trans (hb7.mono HB6.out.size))
  have HC7 := hid (cell_keep HC6.out hb7)
  have HU7 := hid (HU6.out.below hb7)
  clear hb7
  go_wp2_with fail
  refine (vecDegree_any 7 2 1 1 _ _ [0, 2] vB _ (Sl.new2 _ _ _ _) (HV7.out.below below_one)).mono ?_
  rw [G.out.2.2.2.2.2.1, G.out.2.2.2.2.2.2.1]
  rintro e w8 ⟨rfl, hb8⟩
  have HV8 := hid ((HV7.out.below below_one).below hb8)
  have HB8 := hid (HB7.out.trans ((below_one.trans (hb8.mono (by simp))).mono HB7.out.size))
  have HC8 := hid (cell_keep (cell_keep HC7.out below_one) hb8)
  have HU8 := hid ((HU7.out.below below_one).below hb8)
  clear hb8
  obtain ⟨b, off, fa, fc, hua, hlt, c1, hpl⟩ := vl_at (fss := [[], [(2, [1, 0])]]) HU8.out 1 (by simp)
  subst hua
  have c1' : w8.cell? ⟨b, off + 1, none⟩ = some (.slice fa 1 fc) := c1
  obtain ⟨b2, off2, ea, ec, hfa, hlt2, e0, _, _⟩ := pl_first (t := (2, [1, 0])) (ts := []) hpl
  subst hfa
  simp only at e0
  have c8 := HC8.out
  clear c1 hpl
  go_wp2_with fail
  refine (xy_any _).mono ?_
  rintro e w9 ⟨rfl, hb9⟩
  have HV9 := hid (HV8.out.below hb9)
  have HB9 := hid (HB8.out.trans (hb9.mono HB8.out.size))
  clear hb9
  go_wp2_with fail
  refine (vecCheck_any 7 2 1 1 2 _ [vB] _ (wl_one (HV9.out.below below_oneG) (by simp) (by simp [go_sem]))).mono ?_
  rw [G.out.2.2.2.2.2.2.2]
  rintro e w10 ⟨rfl, hb10⟩
  have HB10 := hid (HB9.out.trans ((below_oneG.trans (hb10.mono (by simp))).mono HB9.out.size))
  clear hb10
  go_wp2
  go_ret
  exact ⟨rfl, HB10.out⟩
def dOut : List Int → Int
  | [] => -1
  | z :: _ => z
def Alike (L : List Int) : Prop := ∀ y ∈ L, y = dOut L
theorem vl_made {w w' : World} {n : Nat} (h : w'.ownsRow w.heap.size 54 1 (.slice (some ⟨w.heap.size, 0, none⟩) n n) n (madeCells (Value.cells (.slice none 0 0)) (n * 1)).toList) : Vl w' (.slice (some ⟨w.heap.size, 0, none⟩) n n) (List.replicate n []) := by
  have hlt := (World.ownsRow.lt h w.heap.size rfl).2
  refine ⟨_, n, by rw [List.length_replicate], fun _ => ⟨w.heap.size, 0, rfl, hlt, fun i hi => ⟨.slice none 0 0, ?_, ?_⟩⟩⟩
  · rw [List.length_replicate] at hi
    rw [Nat.zero_add, h.cellAt i (by omega)]
    simp [madeCells, Value.cells, hi, Nat.mod_one]
  · rw [List.length_replicate] at hi
    have e : (List.replicate n ([] : List Tm)).getD i [] = [] := by simp [List.getD_eq_getElem?_getD, hi]
    rw [e]
    exact Pl.empty _
def combO (p o : Int) (R : Nat) (cs : List (List Tm)) (vss : List (List (List Tm))) : Nat → List (List Tm)
  | 0 => List.replicate R []
  | k + 1 => sums p o (combO p o R cs vss k) (prods p o (cs.getD k []) (vss.getD k []))
def manyC (p o : Int) (c f : List Tm) : Bool := (decide (0 < (c.length : Int)) && decide (0 < (f.length : Int)) && decide (200 < topF (-1) c + topF (-1) f)) || greatB (colL p o (prodL p c f))
def decC (p o rank : Int) (cs : List (List Tm)) (vss : List (List (List Tm))) : Decidable ((∃ i, i < vss.length ∧ ∃ k : Nat, (k : Int) < rank ∧ manyC p o (cs.getD i []) ((vss.getD i []).getD k []) = true) ∨ (combO p o rank.toNat cs vss vss.length).any greatB = true) :=
  decidable_of_iff ((List.range vss.length).any (fun i => (List.range rank.toNat).any fun k => manyC p o (cs.getD i []) ((vss.getD i []).getD k [])) = true ∨ (combO p o rank.toNat cs vss vss.length).any greatB = true)
    (or_congr (by
      simp only [List.any_eq_true, List.mem_range]
      exact ⟨fun ⟨i, h1, k, h2, h3⟩ => ⟨i, h1, k, by omega, h3⟩, fun ⟨i, h1, k, h2, h3⟩ => ⟨i, h1, k, by omega, h3⟩⟩) Iff.rfl)
def errComb (p n o v rank : Int) (cs : List (List Tm)) (vss : List (List (List Tm))) : Int :=
  if errVecs p n o v rank vss ≠ 0 then errVecs p n o v rank vss else if cs.length ≠ vss.length then 1 else if errPolys p n o v cs ≠ 0 then errPolys p n o v cs else haveI := decC p o rank cs vss; if (∃ i, i < vss.length ∧ ∃ k : Nat, (k : Int) < rank ∧ manyC p o (cs.getD i []) ((vss.getD i []).getD k []) = true) ∨ (combO p o rank.toNat cs vss vss.length).any greatB = true then 2 else 0
theorem errVecs_ok {p n o v rank : Int} {vss : List (List (List Tm))} (h : errVecs p n o v rank vss = 0) : errR p n o v = 0 ∧ (1 ≤ rank ∧ rank ≤ 40) ∧ vss.length ≤ 60 ∧ ∀ u ∈ vss, (u.length : Int) = rank ∧ ∀ f ∈ u, errOne p n o f = 0 := by
  unfold errVecs at h
  by_cases hr : errR p n o v = 0
  · rw [if_neg (by simpa using hr)] at h
    unfold errList at h
    cases hb : betweenB rank 1 40
    · rw [if_pos hb] at h; exact absurd h (by decide)
    · rw [if_neg (by rw [hb]; simp)] at h
      by_cases hl : 60 < vss.length
      · rw [if_pos hl] at h; exact absurd h (by decide)
      · rw [if_neg hl] at h
        refine ⟨hr, by simpa [betweenB] using hb, by omega, fun u hu => ?_⟩
        have h1 := firstZ_ok h u hu
        unfold errVec at h1
        by_cases hu2 : (u.length : Int) = rank
        · rw [if_neg (by simpa using hu2)] at h1; exact ⟨hu2, firstOne_ok h1⟩
        · rw [if_pos hu2] at h1; exact absurd h1 (by decide)
  · rw [if_pos hr] at h; exact absurd h hr
theorem great_le {ts : List Tm} (h : greatB ts = false) : ts.length ≤ 2000 := by
  unfold greatB at h
  simp at h
  omega
theorem many_great {p o : Int} {N : Nat} (he : errP p = 0) {c f : List Tm} (hc : Right p o N c) (hf : Right p o N f) : manyC p o c f = greatB (colL p o (prodL p c f)) := by
  unfold manyC
  cases c with
  | nil => simp
  | cons t c =>
    cases f with
    | nil => simp
    | cons u f =>
      cases hg : greatB (colL p o (prodL p (t :: c) (u :: f)))
      · rw [great_prod he hc.canon hf.canon] at hg
        have h2 := of_decide_eq_false (Bool.or_eq_false_iff.1 hg).1
        have b1 := sumI_bd t.2 (fun x hx => by have := hc.bd t (by simp) x hx; omega)
        have b2 := sumI_bd u.2 (fun x hx => by have := hf.bd u (by simp) x hx; omega)
        have a1 : topF (-1) (t :: c) ≤ sumI t.2 := topF_le _ _ (right_head hc.canon) (by omega)
        have a2 : topF (-1) (u :: f) ≤ sumI u.2 := topF_le _ _ (right_head hf.canon) (by omega)
        have h3 : ¬ 200 < topF (-1) (t :: c) + topF (-1) (u :: f) := by omega
        rw [decide_eq_false h3, Bool.and_false, Bool.false_or]
      · rw [Bool.or_true]
def prK (p o : Int) (cs : List (List Tm)) (vss : List (List (List Tm))) (k i : Nat) : List Tm := colL p o (prodL p (cs.getD i []) ((vss.getD i []).getD k []))
def prKs (p o : Int) (cs : List (List Tm)) (vss : List (List (List Tm))) (k m : Nat) : List (List Tm) := (List.range m).map (prK p o cs vss k)
structure AllR (p o : Int) (N R : Nat) (cs : List (List Tm)) (vss : List (List (List Tm))) : Prop where
  c : ∀ c ∈ cs, Right p o N c
  v : ∀ u ∈ vss, u.length = R ∧ ∀ f ∈ u, Right p o N f
  l : cs.length = vss.length
theorem AllR.at {p o : Int} {N R : Nat} {cs : List (List Tm)} {vss : List (List (List Tm))} (h : AllR p o N R cs vss) {k i : Nat} (hi : i < vss.length) (hk : k < R) : Right p o N (cs.getD i []) ∧ Right p o N ((vss.getD i []).getD k []) := by
  have h1 := h.v _ (getD_memV vss i hi)
  exact ⟨h.c _ (getD_memL cs i (by rw [h.l]; exact hi)), h1.2 _ (getD_memL _ k (by rw [h1.1]; exact hk))⟩
theorem AllR.pr {p o : Int} {N R : Nat} {cs : List (List Tm)} {vss : List (List (List Tm))} (hp : 2 ≤ p) (h : AllR p o N R cs vss) {k i : Nat} (hi : i < vss.length) (hk : k < R) : Canon p o N (prK p o cs vss k i) ∧ Bd (prK p o cs vss k i) := by
  obtain ⟨h1, h2⟩ := h.at hi hk
  refine ⟨Okl.col hp (Okl.prod hp h1.canon.okl h2.canon.okl), fun t ht x hx => ?_⟩
  obtain ⟨y, hy, ey⟩ := col_mem ht
  rw [ey] at hx
  exact (prodL_tok hp h1.canon.len h2.canon.len h1.bd h2.bd y hy).2.1 x hx
theorem okl_flat {p : Int} {n : Nat} : ∀ {fss : List (List Tm)}, (∀ f ∈ fss, Okl p n f) → Okl p n fss.flatten
  | [], _ => ⟨fun t ht => by simp at ht, fun t ht => by simp at ht⟩
  | f :: r, h => by rw [List.flatten_cons]; exact (h f (by simp)).append (okl_flat (fun g hg => h g (by simp [hg])))
theorem prKs_succ (p o : Int) (cs : List (List Tm)) (vss : List (List (List Tm))) (k m : Nat) : prKs p o cs vss k (m + 1) = prKs p o cs vss k m ++ [prK p o cs vss k m] := range_snoc _ _
theorem prKs_mem {p o : Int} {cs : List (List Tm)} {vss : List (List (List Tm))} {k m : Nat} {f : List Tm} (h : f ∈ prKs p o cs vss k m) : ∃ i, i < m ∧ f = prK p o cs vss k i := by
  obtain ⟨i, hi, e⟩ := List.mem_map.1 h
  exact ⟨i, List.mem_range.1 hi, e.symm⟩
theorem AllR.okl {p o : Int} {N R : Nat} {cs : List (List Tm)} {vss : List (List (List Tm))} (hp : 2 ≤ p) (h : AllR p o N R cs vss) {k m : Nat} (hm : m ≤ vss.length) (hk : k < R) : Okl p N (prKs p o cs vss k m).flatten :=
  okl_flat (fun f hf => by obtain ⟨i, hi, rfl⟩ := prKs_mem hf; exact (h.pr hp (by omega) hk).1.okl)
theorem combO_at {p o : Int} {N R : Nat} {cs : List (List Tm)} {vss : List (List (List Tm))} (hp : 2 ≤ p) (h : AllR p o N R cs vss) {k : Nat} (hk : k < R) : ∀ m, m ≤ vss.length → (combO p o R cs vss m).length = R ∧ (combO p o R cs vss m).getD k [] = colL p o (prKs p o cs vss k m).flatten
  | 0, _ => ⟨by simp [combO], by simp [combO, prKs, List.getD_eq_getElem?_getD, hk]; rfl⟩
  | m + 1, hm => by
    obtain ⟨h1, h2⟩ := combO_at hp h hk m (by omega)
    have hv := h.v _ (getD_memV vss m (by omega))
    have hpl : (prods p o (cs.getD m []) (vss.getD m [])).length = R := by unfold prods; rw [List.length_map]; exact hv.1
    refine ⟨by simp only [combO]; rw [sums_len (by rw [h1, hpl])]; exact h1, ?_⟩
    simp only [combO]
    rw [sums_at (by rw [h1, hpl]) (by rw [h1]; exact hk), h2]
    have e : (prods p o (cs.getD m []) (vss.getD m [])).getD k [] = prK p o cs vss k m := by
      unfold prods prK
      exact getD_mapL _ _ k (by rw [hv.1]; exact hk)
    rw [e, prKs_succ, List.flatten_append]
    have e2 : [prK p o cs vss k m].flatten = prK p o cs vss k m := by simp
    rw [e2]
    have o1 := h.okl hp (k := k) (m := m) (by omega) hk
    have o2 := (h.pr hp (i := m) (by omega) hk).1.okl
    exact Same.col hp ((Okl.col (o := o) hp o1).okl.append o2) (o1.append o2) (Same.append (same_col p o _) (Same.refl p _))
def cmE (p o : Int) (cs : List (List Tm)) (vss : List (List (List Tm))) (m k : Nat) : Int := if (prKs p o cs vss k m).any greatB = true ∨ 2000 < (colL p o (prKs p o cs vss k m).flatten).length then 2 else 0
def cmR (p o : Int) (cs : List (List Tm)) (vss : List (List (List Tm))) (m k : Nat) : List Tm := if cmE p o cs vss m k = 0 then colL p o (prKs p o cs vss k m).flatten else []
theorem cm_great {p o : Int} {cs : List (List Tm)} {vss : List (List (List Tm))} {m k i : Nat} (hi : i < m) (h : greatB (prK p o cs vss k i) = true) : cmE p o cs vss m k = 2 ∧ cmR p o cs vss m k = [] := by
  have e : cmE p o cs vss m k = 2 := by
    have hany : (prKs p o cs vss k m).any greatB = true := List.any_eq_true.2 ⟨prK p o cs vss k i, List.mem_map.2 ⟨i, List.mem_range.2 hi, rfl⟩, h⟩
    unfold cmE
    rw [if_pos (Or.inl hany)]
  exact ⟨e, by unfold cmR; rw [e]; rfl⟩
theorem cm_none {p o : Int} {cs : List (List Tm)} {vss : List (List (List Tm))} {m k : Nat} (h : ∀ i, i < m → greatB (prK p o cs vss k i) = false) : (prKs p o cs vss k m).any greatB = false := by
  rw [List.any_eq_false]
  intro f hf
  obtain ⟨i, hi, rfl⟩ := prKs_mem hf
  rw [h i hi]; simp
theorem cm_long {p o : Int} {cs : List (List Tm)} {vss : List (List (List Tm))} {m k : Nat} (h : 2000 < (colL p o (prKs p o cs vss k m).flatten).length) : cmE p o cs vss m k = 2 ∧ cmR p o cs vss m k = [] := by
  have e : cmE p o cs vss m k = 2 := by unfold cmE; rw [if_pos (Or.inr h)]
  exact ⟨e, by unfold cmR; rw [e]; rfl⟩
theorem cm_ok {p o : Int} {cs : List (List Tm)} {vss : List (List (List Tm))} {m k : Nat} (h : ∀ i, i < m → greatB (prK p o cs vss k i) = false) (h2 : ¬ 2000 < (colL p o (prKs p o cs vss k m).flatten).length) : cmE p o cs vss m k = 0 ∧ cmR p o cs vss m k = colL p o (prKs p o cs vss k m).flatten := by
  have e : cmE p o cs vss m k = 0 := by unfold cmE; rw [if_neg (by rw [cm_none h]; rintro (h | h); cases h; exact h2 h)]
  exact ⟨e, by unfold cmR; rw [e]; rfl⟩
theorem great_deg {ts : List Tm} (h : greatB ts = false) : ∀ x ∈ ts, sumI x.2 ≤ 200 := fun x hx => by
  by_cases h2 : 200 < sumI x.2
  · rw [great_large hx h2] at h; cases h
  · omega
theorem cm_sum {p o : Int} {cs : List (List Tm)} {vss : List (List (List Tm))} {m k : Nat} (h : ∀ i, i < m → greatB (prK p o cs vss k i) = false) : greatB (colL p o (prKs p o cs vss k m).flatten) = decide (2000 < (colL p o (prKs p o cs vss k m).flatten).length) := by
  refine great_small (fun x hx => ?_)
  obtain ⟨y, hy, ey⟩ := col_mem hx
  obtain ⟨f, hf, hyf⟩ := List.mem_flatten.1 hy
  obtain ⟨i, hi, rfl⟩ := prKs_mem hf
  rw [ey]
  exact great_deg (h i hi) y hyf
theorem firstN_two {E : Nat → Int} {m : Nat} (h : ∀ k, k < m → E k = 0 ∨ E k = 2) : (firstN E m 0 = 0 ∧ ∀ k, k < m → E k = 0) ∨ (firstN E m 0 = 2 ∧ ∃ k, k < m ∧ E k = 2) := by
  by_cases hz : ∀ k, k < m → E k = 0
  · exact Or.inl ⟨firstN_all hz, hz⟩
  · refine Or.inr ?_
    have hex : ∀ d, d ≤ m → (∀ k, k < d → E k = 0) ∨ ∃ k, k < d ∧ E k ≠ 0 ∧ ∀ j, j < k → E j = 0 := by
      intro d
      induction d with
      | zero => intro _; exact Or.inl (fun k hk => by omega)
      | succ d ih =>
        intro hd
        rcases ih (by omega) with h1 | ⟨k, h1, h2, h3⟩
        · by_cases h4 : E d = 0
          · exact Or.inl (fun k hk => by
              by_cases h5 : k < d
              · exact h1 k h5
              · rw [show k = d by omega]; exact h4)
          · exact Or.inr ⟨d, by omega, h4, h1⟩
        · exact Or.inr ⟨k, by omega, h2, h3⟩
    rcases hex m (Nat.le_refl _) with h1 | ⟨k, h1, h2, h3⟩
    · exact absurd h1 hz
    · have h4 : E k = 2 := (h k h1).resolve_left h2
      exact ⟨by rw [firstN_hit h1 h3 h2, h4], k, h1, h4⟩
theorem cm_two (p o : Int) (cs : List (List Tm)) (vss : List (List (List Tm))) (m k : Nat) : cmE p o cs vss m k = 0 ∨ cmE p o cs vss m k = 2 := by
  unfold cmE; split
  · exact Or.inr rfl
  · exact Or.inl rfl
open Classical in
theorem comb_all {p n o v : Int} {N R : Nat} {cs : List (List Tm)} {vss : List (List (List Tm))} (he : errP p = 0) (hp : 2 ≤ p) (h : AllR p o N R cs vss) (hv0 : errVecs p n o v (R : Int) vss = 0) (hp0 : errPolys p n o v cs = 0) :
    firstN (cmE p o cs vss vss.length) R 0 = errComb p n o v (R : Int) cs vss ∧ eachR (cmE p o cs vss vss.length) (cmR p o cs vss vss.length) R = if errComb p n o v (R : Int) cs vss = 0 then combO p o R cs vss vss.length else [] := by
  have hmany : ∀ i, i < vss.length → ∀ k, k < R → manyC p o (cs.getD i []) ((vss.getD i []).getD k []) = greatB (prK p o cs vss k i) := fun i hi k hk => many_great he (h.at hi hk).1 (h.at hi hk).2
  have hdef : errComb p n o v (R : Int) cs vss = if (∃ i, i < vss.length ∧ ∃ k : Nat, (k : Int) < (R : Int) ∧ manyC p o (cs.getD i []) ((vss.getD i []).getD k []) = true) ∨ (combO p o R cs vss vss.length).any greatB = true then 2 else 0 := by
    unfold errComb
    rw [if_neg (by rw [hv0]; simp), if_neg (by rw [h.l]; simp), if_neg (by rw [hp0]; simp)]
    by_cases hC : (∃ i, i < vss.length ∧ ∃ k : Nat, (k : Int) < (R : Int) ∧ manyC p o (cs.getD i []) ((vss.getD i []).getD k []) = true) ∨ (combO p o R cs vss vss.length).any greatB = true
    · rw [if_pos hC]; exact if_pos (by rw [Int.toNat_natCast]; exact hC)
    · rw [if_neg hC]; exact if_neg (by rw [Int.toNat_natCast]; exact hC)
  rcases firstN_two (E := cmE p o cs vss vss.length) (m := R) (fun k _ => cm_two p o cs vss vss.length k) with ⟨h1, h2⟩ | ⟨h1, k, hk, h2⟩
  · have hg : ∀ k, k < R → ∀ i, i < vss.length → greatB (prK p o cs vss k i) = false := fun k hk i hi => by
      cases hgk : greatB (prK p o cs vss k i)
      · rfl
      · have := (cm_great hi hgk).1
        rw [h2 k hk] at this
        exact absurd this (by decide)
    have hn : ∀ k, k < R → ¬ 2000 < (colL p o (prKs p o cs vss k vss.length).flatten).length := fun k hk h3 => by
      have := (cm_long h3).1
      rw [h2 k hk] at this
      exact absurd this (by decide)
    have hz : errComb p n o v (R : Int) cs vss = 0 := by
      rw [hdef, if_neg]
      rintro (⟨i, hi, k, hk, h3⟩ | h3)
      · rw [hmany i hi k (by omega), hg k (by omega) i hi] at h3
        cases h3
      · obtain ⟨f, hf, hgf⟩ := List.any_eq_true.1 h3
        obtain ⟨k, hk, rfl⟩ := List.getElem_of_mem hf
        have hkR : k < R := by
          by_cases hR : 0 < R
          · rw [(combO_at hp h hR vss.length (Nat.le_refl _)).1] at hk; exact hk
          · have hR0 : R = 0 := by omega
            subst hR0
            exfalso
            have : (combO p o 0 cs vss vss.length) = [] := by
              have hh : ∀ m, combO p o 0 cs vss m = [] := by
                intro m
                induction m with
                | zero => rfl
                | succ m ih => simp only [combO]; rw [ih]; rfl
              exact hh _
            rw [this] at hk
            simp at hk
        have e := (combO_at hp h hkR vss.length (Nat.le_refl _)).2
        rw [List.getD_eq_getElem?_getD, List.getElem?_eq_getElem hk, Option.getD_some] at e
        rw [e, cm_sum (hg k hkR), decide_eq_false (hn k hkR)] at hgf
        cases hgf
    refine ⟨by rw [h1, hz], ?_⟩
    rw [if_pos hz, eachR_ok h1]
    by_cases hR : 0 < R
    · have hlen := (combO_at hp h hR vss.length (Nat.le_refl _)).1
      refine List.ext_getElem (by rw [List.length_map, List.length_range, hlen]) (fun k hk1 hk2 => ?_)
      rw [List.getElem_map, List.getElem_range]
      have hkR : k < R := by rw [hlen] at hk2; exact hk2
      have e := (combO_at hp h hkR vss.length (Nat.le_refl _)).2
      rw [List.getD_eq_getElem?_getD, List.getElem?_eq_getElem hk2, Option.getD_some] at e
      rw [e, (cm_ok (hg k hkR) (hn k hkR)).2]
    · have hR0 : R = 0 := by omega
      subst hR0
      have hh : ∀ m, combO p o 0 cs vss m = [] := by
        intro m
        induction m with
        | zero => rfl
        | succ m ih => simp only [combO]; rw [ih]; rfl
      rw [hh]; rfl
  · have hz : errComb p n o v (R : Int) cs vss = 2 := by
      rw [hdef, if_pos]
      by_cases hg : ∀ i, i < vss.length → greatB (prK p o cs vss k i) = false
      · refine Or.inr ?_
        have e := (combO_at hp h hk vss.length (Nat.le_refl _))
        refine List.any_eq_true.2 ⟨_, getD_memL _ k (by rw [e.1]; exact hk), ?_⟩
        rw [e.2, cm_sum hg]
        by_cases h3 : 2000 < (colL p o (prKs p o cs vss k vss.length).flatten).length
        · exact decide_eq_true h3
        · rw [(cm_ok hg h3).1] at h2
          exact absurd h2 (by decide)
      · refine Or.inl ?_
        obtain ⟨i, h3⟩ := Classical.not_forall.1 hg
        obtain ⟨hi, h4⟩ := Classical.not_imp.1 h3
        refine ⟨i, hi, k, by omega, ?_⟩
        rw [hmany i hi k hk]
        simpa using h4
    refine ⟨by rw [h1, hz], ?_⟩
    rw [hz, if_neg (by decide), eachR_bad (by rw [h1]; decide)]

set_option maxRecDepth 100000 in
set_option maxHeartbeats 2000000 in
theorem eachC_any (rb cb lb : Nat) (x : Value) (fss : List (List Tm)) (E : Nat → Int) (R : Nat → List Tm) (w : World) (hm : fss.length ≤ 1000) (pf : Vl w x fss)
    (H : ∀ i w' fa fc, i < fss.length → Below w.heap.size w w' → Pl w' (.slice fa (fss.getD i []).length fc) (fss.getD i []) → Calls Tryz.prog 50 #[.int .i64 i, .slice fa (fss.getD i []).length fc, .pointer (some ⟨rb, 0, none⟩), .pointer (some ⟨cb, 0, none⟩), .pointer (some ⟨lb, 0, none⟩)] w' fun e w'' => ∃ u, e = .returned (.tuple #[u, .int .i64 (E i)]) ∧ Pl w'' u (R i) ∧ Below w'.heap.size w' w'') :
    Calls Tryz.prog 49 #[x, .func (.func 50) #[] #[.pointer (some ⟨rb, 0, none⟩), .pointer (some ⟨cb, 0, none⟩), .pointer (some ⟨lb, 0, none⟩)]] w fun e w' => ∃ u, e = .returned (.tuple #[u, .int .i64 (firstN E fss.length 0)]) ∧ Vl w' u (eachR E R fss.length) ∧ Below w.heap.size w w' := by
  have HX := hid pf
  have HH := hid H
  obtain ⟨ax, cx, rfl, _⟩ := pf
  obtain ⟨i0, hi, hz0, hz1, hz2⟩ := info_parts Tryz.infoPolyW
  clear H
  go_enter Tryz.func49, Tryz.ntmps49
  go_wp2_with (at_make; refine wpList_make_full _ rfl _ _ 25 rfl w.heap.size 54 i0 _ 1 Tryz.underlying25 hi hz0 hz1 .i64 .i64 _ _ fss.length rfl rfl rfl rfl (by rw [hz2]; omega) (by unfold maxLen; omega) (Nat.le_refl _) ?_; intro w1 hown hgrow; have HV0 := hid (VHalf.made hown hgrow); clear hown hgrow)
  clear hi hz0 hz1 hz2
  go_loopw [16] (fun i wr => ∃ (k : Nat) (us : List Value), k ≤ fss.length ∧ i = .int .i64 k ∧ us.length = k ∧ (∀ j, j < k → E j = 0) ∧ VHalf w wr w.heap.size fss.length us ((List.range k).map R)) (fun i _ => fss.length - (intOf i).toNat)
  case atStart => exact ⟨0, [], Nat.zero_le _, rfl, rfl, fun j hj => by omega, HV0.out⟩
  case round =>
    clear HV0
    obtain ⟨k, us, hk, rfl, hul, hz, hv⟩ := hrel
    have HZ := hid hz
    have HV := hid hv
    have HUL := hid hul
    clear hz hv hul
    by_cases hk2 : k < fss.length
    · obtain ⟨b, off, fa, fc, rfl, hlt, c0, hpf⟩ := vl_at HX.out k hk2
      have d0 := cell_keep c0 HV.out.below
      have HC := hid (HH.out k wr fa fc hk2 HV.out.below (hpf.below HV.out.below))
      have HHIT := hid (fun h => firstN_hit (E := E) hk2 HZ.out h)
      generalize fss.getD k [] = f at c0 d0 hpf HC
      clear c0 hpf
      cases he : (E k != 0)
      · have HE0 : Hid (E k = 0) := by simpa [Hid] using he
        go_wp2_with (go_at_call 50; refine HC.out.mono ?_; rintro e w2 ⟨u, rfl, hu, hb2⟩; have HV2 := hid (HV.out.next hb2); have HU := hid hu; obtain ⟨ua, uc, rfl, _, _⟩ := hu; obtain ⟨ov, x0, x1⟩ := HV2.out.cells (by have := HUL.out; omega); rw [HUL.out] at x0 x1; clear hb2)
        go_roundw
        case rel =>
          refine ⟨k + 1, us ++ [.slice ua (R k).length uc], by omega, by go_num, by rw [len_snoc, HUL.out], fun j hj => ?_, ?_⟩
          · rcases Nat.lt_or_ge j k with h | h
            · exact HZ.out j h
            · rw [show j = k by omega]; exact HE0.out
          · rw [range_snoc]
            have h := HV2.out.put (by have := HUL.out; omega) _ _ HU.out
            rw [HUL.out] at h
            exact h
        case measure => simp [intOf]; omega
      · have HF : Hid (firstN E fss.length 0 = E k) := HHIT.out (by simpa using he)
        have HNE : Hid (E k ≠ 0) := by simpa [Hid] using he
        go_wp2_with (go_at_call 50; refine HC.out.mono ?_; rintro e w2 ⟨u, rfl, hu, hb2⟩; have HV2 := hid (HV.out.next hb2); obtain ⟨ua, uc, rfl, _, _⟩ := hu; clear hb2)
        go_ret2
        refine ⟨.slice none 0 0, by rw [HF.out]; rfl, ?_, HV2.out.below⟩
        rw [eachR_bad (by rw [HF.out]; exact HNE.out)]
        exact ⟨none, 0, rfl, fun h => by simp at h⟩
    · have e : k = fss.length := by omega
      subst e
      have HF : Hid (firstN E fss.length 0 = 0) := firstN_all HZ.out
      have HD := hid (HV.out.done HUL.out)
      go_wp2
      go_ret2
      refine ⟨.slice (some ⟨w.heap.size, 0, none⟩) fss.length fss.length, by rw [HF.out]; rfl, ?_, HV.out.below⟩
      rw [eachR_ok HF.out]
      exact HD.out
set_option maxRecDepth 100000 in
set_option maxHeartbeats 2000000 in
theorem combinePlace_any (p n o v : Int) (N R q : Nat) (x y : Value) (cs : List (List Tm)) (vss : List (List (List Tm))) (w : World) (hp : 2 ≤ p ∧ p ≤ 101) (ho : o = 1 ∨ o = 2) (hN0 : 0 < N) (hN : N ≤ 3) (hA : AllR p o N R cs vss) (hm : vss.length ≤ 60) (hq : q < R) (hcur : ∀ i, i < vss.length → cur p n o v [cs.getD i [], (vss.getD i []).getD q []] = 0) (pc : Vl w x cs) (pv : Wl w y vss) :
    Calls Tryz.prog 51 #[ringV p n o v, x, y, .int .i64 (q : Int)] w fun e w' => ∃ u, e = .returned (.tuple #[u, .int .i64 (cmE p o cs vss vss.length q)]) ∧ Pl w' u (cmR p o cs vss vss.length q) ∧ Below w.heap.size w w' := by
  have HX := hid pc
  have HY := hid pv
  have HA := hid hA
  have HP := hid hp
  have HO := hid ho
  have HCU := hid hcur
  have HT := hid (tells p n o v)
  have HNN := hid (And.intro hN0 hN)
  obtain ⟨ax, cx, rfl, _⟩ := pc
  obtain ⟨ay, cy, rfl, _⟩ := pv
  obtain ⟨w1, hw1⟩ : ∃ w1, w1 = w.alloc (.cells #[.int .i64 p, .int .i64 n, .int .i64 o, .int .i64 v] 23) := ⟨_, rfl⟩
  have HBX : Hid (BoxAt w1 w.heap.size p n o v) := by rw [hw1]; exact BoxAt.new w p n o v _
  have HBW : Hid (Below w.heap.size w w1) := by rw [hw1]; exact below_oneG
  have hs1 : Hid (w1.heap.size = w.heap.size + 1) := by show _ = _; rw [hw1]; simp
  obtain ⟨i0, hi, hz0, hz1, hz2⟩ := info_parts Tryz.infoPolyW
  have HI := hid (And.intro hi (And.intro hz0 (And.intro hz1 hz2)))
  clear hA hp ho hcur hN0 hN hi hz0 hz1 hz2
  go_enter Tryz.func51, Tryz.ntmps51
  go_wp2_with (at_make; rw [← hw1]; refine wpList_make_full _ rfl _ _ 24 rfl w1.heap.size 54 i0 _ 1 Tryz.underlying24 HI.out.1 HI.out.2.1 HI.out.2.2.1 .i64 .i64 _ _ vss.length rfl rfl rfl rfl (by rw [HI.out.2.2.2]; omega) (by unfold maxLen; omega) (Nat.le_refl _) ?_; intro w2 hown hgrow; have HV0 := hid (VHalf.made hown hgrow); clear hown hgrow)
  clear hw1
  go_loopw [21] (fun i wr => ∃ (k : Nat) (us : List Value), k ≤ vss.length ∧ i = .int .i64 k ∧ us.length = k ∧ (∀ j, j < k → greatB (prK p o cs vss q j) = false) ∧ VHalf w1 wr (w.heap.size + 1) vss.length us ((List.range k).map (prK p o cs vss q))) (fun i _ => vss.length - (intOf i).toNat)
  case atStart =>
    have h0 := HV0.out
    rw [hs1.out] at h0
    exact ⟨0, [], Nat.zero_le _, rfl, rfl, fun j hj => by omega, h0⟩
  case round =>
    clear HV0
    obtain ⟨k, us, hk, rfl, hul, hz, hv⟩ := hrel
    have HZ := hid hz
    have HV := hid hv
    have HUL := hid hul
    clear hz hv hul
    by_cases hk2 : k < vss.length
    · have hk3 : k < cs.length := by rw [HA.out.l]; exact hk2
      have hkI : (k : Int) < (cs.length : Int) := by omega
      obtain ⟨b, off, fa, fc, rfl, hlt, c0, hpf⟩ := vl_at HX.out k hk3
      obtain ⟨b2, off2, va, vc, rfl, hlt2, d0, hpv⟩ := wl_at HY.out k hk2
      have hvl := (HA.out.v _ (getD_memV vss k hk2)).1
      obtain ⟨b3, off3, ga, gc, rfl, hlt3, e0, hpg⟩ := vl_at hpv q (by rw [hvl]; exact hq)
      have d1 := cell_keep (cell_keep d0 HBW.out) HV.out.below
      rw [hvl] at d0 d1
      have HCK := hid (HCU.out k hk2)
      have HPK : Hid (prK p o cs vss q k = colL p o (prodL p (cs.getD k []) ((vss.getD k []).getD q []))) := rfl
      have HGR := hid (fun h => cm_great (p := p) (o := o) (cs := cs) (vss := vss) (m := vss.length) (k := q) (i := k) hk2 h)
      have HNX : Hid (greatB (prK p o cs vss q k) = false → ∀ j, j < k + 1 → greatB (prK p o cs vss q j) = false) := fun h j hj => by
        by_cases h2 : j < k
        · exact HZ.out j h2
        · have e : j = k := by omega
          subst e; exact h
      have HRS := hid (range_snoc (prK p o cs vss q) k)
      generalize prK p o cs vss q k = z at HPK HGR HNX HRS
      generalize cs.getD k [] = c at c0 hpf HCK HPK
      generalize (vss.getD k []).getD q [] = f at e0 hpg HCK HPK
      obtain ⟨_, bx0, bx1, bx2, bx3⟩ := HBX.out
      have KEEP : Hid (∀ W, Below w1.heap.size w1 W → (Hid (Below w1.heap.size w1 W) ∧ W.cell? ⟨w.heap.size, 0, none⟩ = some (.int .i64 p) ∧ W.cell? ⟨w.heap.size, 1, none⟩ = some (.int .i64 n) ∧ W.cell? ⟨w.heap.size, 2, none⟩ = some (.int .i64 o) ∧ W.cell? ⟨w.heap.size, 3, none⟩ = some (.int .i64 v) ∧ W.cell? ⟨b, off + k, none⟩ = some (.slice fa c.length fc) ∧ W.cell? ⟨b3, off3 + q, none⟩ = some (.slice ga f.length gc))) :=
        fun W hb => ⟨hb, cell_keep bx0 hb, cell_keep bx1 hb, cell_keep bx2 hb, cell_keep bx3 hb, cell_keep (cell_keep c0 HBW.out) hb, cell_keep (cell_keep e0 HBW.out) hb⟩
      have HPF := hid (hpf.below HBW.out)
      have HPG := hid (hpg.below HBW.out)
      have HB0 : Hid (Below w1.heap.size w1 wr.drew) := HV.out.below.drew
      have HVD : Hid (VHalf w1 wr.drew (w.heap.size + 1) vss.length us ((List.range k).map (prK p o cs vss q))) := HV.out.next ((Below.refl _ _).drew)
      clear bx0 bx1 bx2 bx3 c0 d0 e0 hpf hpg hpv hvl
      cases hg : greatB z
      · have HMU : Hid (mulE 0 p o c f = 0 ∧ mulR 0 p o c f = z) := by rw [HPK.out]; exact mulE_no rfl (by rw [← HPK.out]; exact hg)
        have HN2 := hid (HNX.out hg)
        clear hg
        go_wp2_with fail
        go_region_held (fun W => Hid (Below w1.heap.size w1 W) ∧ W.cell? ⟨w.heap.size, 0, none⟩ = some (.int .i64 p) ∧ W.cell? ⟨w.heap.size, 1, none⟩ = some (.int .i64 n) ∧ W.cell? ⟨w.heap.size, 2, none⟩ = some (.int .i64 o) ∧ W.cell? ⟨w.heap.size, 3, none⟩ = some (.int .i64 v) ∧ W.cell? ⟨b, off + k, none⟩ = some (.slice fa c.length fc) ∧ W.cell? ⟨b3, off3 + q, none⟩ = some (.slice ga f.length gc))
          (first | exact KEEP.out _ HB0.out | exact KEEP.out _ HB9.out)
          (first | (go_at_call 87; refine (polyMul_any p n o v _ HT.out _ _ c f _ ?_ ?_).mono ?_; exact HPF.out.below HB0.out; exact HPG.out.below HB0.out; rw [HCK.out, HMU.out.1, HMU.out.2]; rintro e w9 ⟨u9, rfl, hu9, hb9⟩; have HU9 := hid hu9; have HV9 := hid (HVD.out.next hb9); have HB9 := hid (show Below w1.heap.size w1 w9 from HB0.out.trans (hb9.mono HB0.out.size)); obtain ⟨ua9, uc9, rfl, _, _⟩ := hu9; obtain ⟨ov, x0, x1⟩ := HV9.out.cells (by have := HUL.out; omega); rw [HUL.out] at x0 x1; clear hb9))
        go_wp2
        go_roundw
        case rel =>
          refine ⟨k + 1, us ++ [.slice ua9 z.length uc9], by omega, by go_num, by rw [len_snoc, HUL.out], HN2.out, ?_⟩
          rw [HRS.out]
          have h := HV9.out.put (by have := HUL.out; omega) _ _ HU9.out
          rw [HUL.out] at h
          exact h
        case measure => simp [intOf]; omega
      · have HMU : Hid (mulE 0 p o c f = 2 ∧ mulR 0 p o c f = []) := mulE_yes rfl (by rw [← HPK.out]; exact hg)
        have HG2 := hid (HGR.out hg)
        clear hg
        go_wp2_with fail
        go_region_held (fun W => Hid (Below w1.heap.size w1 W) ∧ W.cell? ⟨w.heap.size, 0, none⟩ = some (.int .i64 p) ∧ W.cell? ⟨w.heap.size, 1, none⟩ = some (.int .i64 n) ∧ W.cell? ⟨w.heap.size, 2, none⟩ = some (.int .i64 o) ∧ W.cell? ⟨w.heap.size, 3, none⟩ = some (.int .i64 v) ∧ W.cell? ⟨b, off + k, none⟩ = some (.slice fa c.length fc) ∧ W.cell? ⟨b3, off3 + q, none⟩ = some (.slice ga f.length gc))
          (first | exact KEEP.out _ HB0.out | exact KEEP.out _ HB9.out)
          (first | (go_at_call 87; refine (polyMul_any p n o v _ HT.out _ _ c f _ ?_ ?_).mono ?_; exact HPF.out.below HB0.out; exact HPG.out.below HB0.out; rw [HCK.out, HMU.out.1, HMU.out.2]; rintro e w9 ⟨u9, rfl, hu9, hb9⟩; have HB9 := hid (show Below w1.heap.size w1 w9 from HB0.out.trans (hb9.mono HB0.out.size)); obtain ⟨ua9, uc9, rfl, _, _⟩ := hu9; clear hb9))
        go_wp2
        go_ret2
        refine ⟨.slice none 0 0, by rw [HG2.out.1]; rfl, ?_, HBW.out.trans (HB9.out.mono HBW.out.size)⟩
        rw [HG2.out.2]
        exact Pl.empty _
    · have e : k = vss.length := by omega
      subst e
      have HD := hid (HV.out.done HUL.out)
      have HLN : Hid ((prKs p o cs vss q vss.length).length = vss.length) := by show _ = _; unfold prKs; rw [List.length_map, List.length_range]
      have HPF : Hid (∀ f ∈ (List.range vss.length).map (prK p o cs vss q), Canon p o N f ∧ Bd f ∧ f.length ≤ 2000) := fun f hf => by
        obtain ⟨i, hi, rfl⟩ := prKs_mem hf
        have h1 := HA.out.pr HP.out.1 (k := q) (i := i) hi hq
        exact ⟨h1.1, h1.2, great_le (HZ.out i hi)⟩
      obtain ⟨_, bx0, bx1, bx2, bx3⟩ := HBX.out.below HV.out.below
      have HBN := hid (HBW.out.trans (HV.out.below.mono HBW.out.size))
      have HLO := hid (fun h => cm_long (p := p) (o := o) (cs := cs) (vss := vss) (m := vss.length) (k := q) h)
      have HOK := hid (fun h => cm_ok (p := p) (o := o) (cs := cs) (vss := vss) (m := vss.length) (k := q) HZ.out h)
      have HSU : Hid (∀ W, Below wr.heap.size wr W → Calls Tryz.prog 88 #[ringV p n o v, .slice (some ⟨w.heap.size + 1, 0, none⟩) vss.length vss.length] W fun e w' => ∃ u, e = .returned u ∧ Pl w' u (colL p o (prKs p o cs vss q vss.length).flatten) ∧ Below W.heap.size W w') := fun W hb =>
        bareSum_any p n o v N 2000 _ _ W HP.out HO.out HNN.out.1 HNN.out.2 HPF.out (by rw [HLN.out]; omega) (by rw [HLN.out]; omega) (HD.out.below hb)
      generalize colL p o (prKs p o cs vss q vss.length).flatten = s at HSU HLO HOK
      by_cases hl : 2000 < s.length
      · have HL2 := hid (HLO.out hl)
        have hlI : (2000 : Int) < (s.length : Int) := by omega
        go_wp2_with (go_at_call 88; refine (HSU.out _ (Below.refl _ _)).mono ?_; rintro e w8 ⟨u8, rfl, hu8, hb8⟩; have HB8 := hid (HBN.out.trans (hb8.mono HBN.out.size)); obtain ⟨ua8, uc8, rfl, _, _⟩ := hu8; clear hb8)
        go_ret2
        refine ⟨.slice none 0 0, by rw [HL2.out.1]; rfl, ?_, HB8.out⟩
        rw [HL2.out.2]
        exact Pl.empty _
      · have HL2 := hid (HOK.out hl)
        have hlI : ¬ (2000 : Int) < (s.length : Int) := by omega
        go_wp2_with (go_at_call 88; refine (HSU.out _ (Below.refl _ _)).mono ?_; rintro e w8 ⟨u8, rfl, hu8, hb8⟩; have HU8 := hid hu8; have HB8 := hid (HBN.out.trans (hb8.mono HBN.out.size)); obtain ⟨ua8, uc8, rfl, _, _⟩ := hu8; clear hb8)
        go_ret2
        exact ⟨_, by rw [HL2.out.1]; rfl, by rw [HL2.out.2]; exact HU8.out, HB8.out⟩
set_option maxRecDepth 100000 in
set_option maxHeartbeats 1000000 in
theorem vcombFn_any (p n o v : Int) (N R q rb cb lb : Nat) (fv : Value) (ax ay : Option Addr) (cx cy : Nat) (cs : List (List Tm)) (vss : List (List (List Tm))) (w : World) (hp : 2 ≤ p ∧ p ≤ 101) (ho : o = 1 ∨ o = 2) (hN0 : 0 < N) (hN : N ≤ 3) (hA : AllR p o N R cs vss) (hm : vss.length ≤ 60) (hq : q < R) (hcur : ∀ i, i < vss.length → cur p n o v [cs.getD i [], (vss.getD i []).getD q []] = 0)
    (bx : BoxAt w rb p n o v) (hc : w.cell? ⟨cb, 0, none⟩ = some (.slice ax cs.length cx)) (hl : w.cell? ⟨lb, 0, none⟩ = some (.slice ay vss.length cy)) (pc : Vl w (.slice ax cs.length cx) cs) (pv : Wl w (.slice ay vss.length cy) vss) :
    Calls Tryz.prog 50 #[.int .i64 q, fv, .pointer (some ⟨rb, 0, none⟩), .pointer (some ⟨cb, 0, none⟩), .pointer (some ⟨lb, 0, none⟩)] w fun e w' => ∃ u, e = .returned (.tuple #[u, .int .i64 (cmE p o cs vss vss.length q)]) ∧ Pl w' u (cmR p o cs vss vss.length q) ∧ Below w.heap.size w w' := by
  have HC := hid (combinePlace_any p n o v N R q _ _ cs vss w hp ho hN0 hN hA hm hq hcur pc pv)
  obtain ⟨_, bx0, bx1, bx2, bx3⟩ := bx
  clear hp ho hA hcur pc pv
  go_enter Tryz.func50, Tryz.ntmps50
  go_wp2_with (go_at_call 51; refine HC.out.mono ?_; rintro e w9 ⟨u9, rfl, hu9, hb9⟩; have HU9 := hid hu9; have HB9 := hid hb9; obtain ⟨ua9, uc9, rfl, _, _⟩ := hu9; clear hb9)
  go_ret2
  exact ⟨_, rfl, HU9.out, HB9.out⟩

def combR (p n o v rank : Int) (cs : List (List Tm)) (vss : List (List (List Tm))) : List (List Tm) := if errComb p n o v rank cs vss = 0 then combO p o rank.toNat cs vss vss.length else []
theorem combR_bad {p n o v rank : Int} {cs : List (List Tm)} {vss : List (List (List Tm))} (h : errComb p n o v rank cs vss ≠ 0) : combR p n o v rank cs vss = [] := by unfold combR; rw [if_neg h]
theorem below_threeW {w : World} {A B C : Obj} : Below w.heap.size w (((w.alloc A).alloc B).alloc C) := (((Below.refl _ _).alloc (Nat.le_refl _) _).alloc (by simp) _).alloc (by simp; omega) _

set_option maxRecDepth 100000 in
set_option maxHeartbeats 2000000 in
theorem vecCombine_any (p n o v rank : Int) (x y : Value) (cs : List (List Tm)) (vss : List (List (List Tm))) (w : World) (pc : Vl w x cs) (pv : Wl w y vss) :
    Calls Tryz.prog 14 #[ringV p n o v, .int .i64 rank, x, y] w fun e w' => ∃ u, e = .returned (.tuple #[u, .int .i64 (errComb p n o v rank cs vss)]) ∧ Vl w' u (combR p n o v rank cs vss) ∧ Below w.heap.size w w' := by
  have HX := hid pc
  have HY := hid pv
  obtain ⟨ax, cx, rfl, _⟩ := pc
  obtain ⟨ay, cy, rfl, _⟩ := pv
  obtain ⟨w2, hw2⟩ : ∃ w2, w2 = ((w.alloc (.cells #[.int .i64 p, .int .i64 n, .int .i64 o, .int .i64 v] 23)).alloc (.cells #[.slice ax cs.length cx] 24)).alloc (.cells #[.slice ay vss.length cy] 26) := ⟨_, rfl⟩
  have hb2 : Below w.heap.size w w2 := by rw [hw2]; exact below_threeW
  have hbx : BoxAt w2 w.heap.size p n o v := by rw [hw2]; exact (BoxAt.new w p n o v _).below below_two
  have hcf : w2.cell? ⟨w.heap.size + 1, 0, none⟩ = some (.slice ax cs.length cx) := by rw [hw2]; simp [go_sem]
  have hlf : w2.cell? ⟨w.heap.size + 2, 0, none⟩ = some (.slice ay vss.length cy) := by rw [hw2]; simp [go_sem]
  have HB2 := hid hb2
  have HBX := hid hbx
  have HCF := hid hcf
  have HLF := hid hlf
  have HYW := hid (HY.out.below hb2)
  have HXW := hid (HX.out.below hb2)
  clear hb2 hbx hcf hlf
  by_cases hz : errVecs p n o v rank vss = 0
  rotate_left
  · have he : errComb p n o v rank cs vss = errVecs p n o v rank vss := by unfold errComb; rw [if_pos hz]
    have HR := hid (combR_bad (p := p) (n := n) (o := o) (v := v) (rank := rank) (cs := cs) (vss := vss) (by rw [he]; exact hz))
    rw [HR.out, he]
    clear he
    obtain ⟨_, bx0, bx1, bx2, bx3⟩ := HBX.out
    have hcf := HCF.out
    have hlf := HLF.out
    have hzB : (errVecs p n o v rank vss != 0) = true := by simpa using hz
    clear hz
    go_enter Tryz.func14, Tryz.ntmps14
    go_wp2_with fail
    try rw [← hw2]
    refine (vecCheck_any p n o v rank _ vss _ HYW.out).mono ?_
    rintro e w3 ⟨rfl, hb3⟩
    have HB3 := hid (HB2.out.trans (hb3.mono HB2.out.size))
    clear hb3
    go_wp2
    go_ret2
    exact ⟨_, rfl, Vl.empty _, HB3.out⟩
  obtain ⟨hR, hrk, hv60, hvs⟩ := errVecs_ok hz
  have HZ := hid hz
  have HRR := hid hR
  clear hz
  obtain ⟨_, bx0, bx1, bx2, bx3⟩ := HBX.out
  have hcf := HCF.out
  have hlf := HLF.out
  by_cases hl : cs.length = vss.length
  rotate_left
  · have he : errComb p n o v rank cs vss = 1 := by unfold errComb; rw [if_neg (by rw [HZ.out]; simp), if_pos hl]
    have HR := hid (combR_bad (p := p) (n := n) (o := o) (v := v) (rank := rank) (cs := cs) (vss := vss) (by rw [he]; decide))
    rw [HR.out, he]
    clear he hR hvs
    have hlI : ¬ ((cs.length : Int) = (vss.length : Int)) := fun h => hl (Int.ofNat.inj h)
    go_enter Tryz.func14, Tryz.ntmps14
    go_wp2_with fail
    try rw [← hw2]
    refine (vecCheck_any p n o v rank _ vss _ HYW.out).mono ?_
    rw [HZ.out]
    rintro e w3 ⟨rfl, hb3⟩
    have HB3 := hid (HB2.out.trans (hb3.mono HB2.out.size))
    have g1 := cell_keep hcf hb3
    have g2 := cell_keep hlf hb3
    clear hb3 bx0 bx1 bx2 bx3 hcf hlf hw2
    go_wp2
    go_ret2
    exact ⟨_, rfl, Vl.empty _, HB3.out⟩
  have HPE : Hid (errPolys p n o v cs = firstOne p n o cs) := by show _ = _; unfold errPolys; rw [if_pos hR]
  have HL := hid hl
  have HM : Hid (cs.length ≤ 1200000000000) := by show _ ≤ _; omega
  by_cases hpz : errPolys p n o v cs = 0
  rotate_left
  · have he : errComb p n o v rank cs vss = firstOne p n o cs := by unfold errComb; rw [if_neg (by rw [HZ.out]; simp), if_neg (by rw [hl]; simp), if_pos hpz, HPE.out]
    have HR := hid (combR_bad (p := p) (n := n) (o := o) (v := v) (rank := rank) (cs := cs) (vss := vss) (by rw [he, ← HPE.out]; exact hpz))
    rw [HR.out, he]
    have hzB : (firstOne p n o cs != 0) = true := by rw [← HPE.out]; simpa using hpz
    clear he hR hvs hpz
    rw [HL.out] at hcf
    have HXV : Hid (Vl w2 (.slice ax vss.length cx) cs) := by rw [← HL.out]; exact HXW.out
    have hw3 := hw2
    rw [HL.out] at hw3
    rw [HL.out]
    clear hl hw2
    go_enter Tryz.func14, Tryz.ntmps14
    go_wp2_with fail
    try rw [← hw3]
    refine (vecCheck_any p n o v rank _ vss _ HYW.out).mono ?_
    rw [HZ.out]
    rintro e w3 ⟨rfl, hb3⟩
    have HB3 := hid (HB2.out.trans (hb3.mono HB2.out.size))
    have HX3 := hid (HXV.out.below hb3)
    have g1 := cell_keep hcf hb3
    have g2 := cell_keep hlf hb3
    have h0 := cell_keep bx0 hb3
    have h1 := cell_keep bx1 hb3
    have h2 := cell_keep bx2 hb3
    have h3 := cell_keep bx3 hb3
    clear hb3 bx0 bx1 bx2 bx3 hcf hlf hw3
    go_wp2_with (go_at_call 48; refine (vecPolys_any p n o v _ cs _ HRR.out HM.out HX3.out).mono ?_; rintro e w4 ⟨rfl, hb4⟩; have HB4 := hid (HB3.out.trans (hb4.mono HB3.out.size)); clear hb4)
    go_ret2
    exact ⟨_, rfl, Vl.empty _, HB4.out⟩
  obtain ⟨R, rfl⟩ : ∃ R : Nat, rank = (R : Int) := ⟨rank.toNat, by omega⟩
  have HPZ := hid hpz
  obtain ⟨hpr, hn1, hn2, ho, _⟩ := ring_ok hR
  have HP := hid (errP_bd hpr)
  have hcs := (errPolys_ok hpz).2
  have HA : Hid (AllR p o n.toNat R cs vss) := ⟨fun c hc => (right_of hR (hcs c hc)).1, fun u hu => ⟨by have := (hvs u hu).1; omega, fun f hf => (right_of hR ((hvs u hu).2 f hf)).1⟩, hl⟩
  have HCU : Hid (∀ q, q < R → ∀ i, i < vss.length → cur p n o v [cs.getD i [], (vss.getD i []).getD q []] = 0) := fun q hq i hi => cur_zero hR (fun f hf => by
    have hu := hvs _ (getD_memV vss i hi)
    simp only [List.mem_cons, List.not_mem_nil, or_false] at hf
    rcases hf with rfl | rfl
    · exact hcs _ (getD_memL cs i (by rw [hl]; exact hi))
    · exact hu.2 _ (getD_memL _ q (by omega)))
  have HALL := hid (comb_all (n := n) (v := v) hpr HP.out.1 HA.out HZ.out hpz)
  have HCR : Hid (combR p n o v (R : Int) cs vss = eachR (cmE p o cs vss vss.length) (cmR p o cs vss vss.length) R) := by
    show _ = _
    unfold combR
    rw [HALL.out.2, Int.toNat_natCast]
  rw [HCR.out, ← HALL.out.1]
  have hR40 : R ≤ 40 := by omega
  have HLR : Hid ((List.replicate R ([] : List Tm)).length = R) := by show _ = _; rw [List.length_replicate]
  have HEA := hid (fun (W : World) (u : Value) (hb : Below w2.heap.size w2 W) (hu : Vl W u (List.replicate R [])) => eachC_any w.heap.size (w.heap.size + 1) (w.heap.size + 2) u (List.replicate R []) (cmE p o cs vss vss.length) (cmR p o cs vss vss.length) W (by rw [HLR.out]; omega) hu (fun i w' fa fc hi hb' hpf => by
    have hb2 := hb.trans (hb'.mono hb.size)
    exact vcombFn_any p n o v n.toNat R i w.heap.size (w.heap.size + 1) (w.heap.size + 2) _ ax ay cx cy cs vss w' HP.out ho (by omega) (by omega) HA.out hv60 (by rw [HLR.out] at hi; exact hi) (HCU.out i (by rw [HLR.out] at hi; exact hi)) (HBX.out.below hb2) (cell_keep HCF.out hb2) (cell_keep HLF.out hb2) (HXW.out.below hb2) (HYW.out.below hb2)))
  rw [HLR.out] at HEA
  obtain ⟨i0, hi, hz0, hz1, hz2⟩ := info_parts Tryz.infoPolyW
  have HI := hid (And.intro hi (And.intro hz0 (And.intro hz1 hz2)))
  have HF0 : Hid (firstOne p n o cs = 0) := by show _ = _; rw [← HPE.out]; exact HPZ.out
  rw [HL.out] at hcf
  have HXV : Hid (Vl w2 (.slice ax vss.length cx) cs) := by rw [← HL.out]; exact HXW.out
  have hw3 := hw2
  rw [HL.out] at hw3
  rw [HL.out]
  clear hR hrk hvs hl hpz hpr hn1 hn2 ho hcs hi hz0 hz1 hz2 hw2
  go_enter Tryz.func14, Tryz.ntmps14
  go_wp2_with fail
  try rw [← hw3]
  refine (vecCheck_any p n o v (R : Int) _ vss _ HYW.out).mono ?_
  rw [HZ.out]
  rintro e w3 ⟨rfl, hb3⟩
  have HB3 := hid hb3
  have HX3 := hid (HXV.out.below hb3)
  have g1 := cell_keep hcf hb3
  have g2 := cell_keep hlf hb3
  have h0 := cell_keep bx0 hb3
  have h1 := cell_keep bx1 hb3
  have h2 := cell_keep bx2 hb3
  have h3 := cell_keep bx3 hb3
  clear hb3 bx0 bx1 bx2 bx3 hcf hlf hw3
  go_wp2_with (first
    | (go_at_call 48; refine (vecPolys_any p n o v _ cs _ HRR.out HM.out HX3.out).mono ?_; rw [HF0.out]; rintro e w4 ⟨rfl, hb4⟩; have HB4 := hid (show Below w2.heap.size w2 w4 from HB3.out.trans (hb4.mono HB3.out.size)); clear hb4 g1 g2 h0 h1 h2 h3)
    | (at_make; refine wpList_make_full _ rfl _ _ 25 rfl w4.heap.size 54 i0 _ 1 Tryz.underlying25 HI.out.1 HI.out.2.1 HI.out.2.2.1 .i64 .i64 _ _ R rfl rfl rfl rfl (by rw [HI.out.2.2.2]; omega) (by unfold maxLen; omega) (Nat.le_refl _) ?_; intro w5 hown hgrow; have HV5 := hid (vl_made hown); have HB5 : Hid (Below w2.heap.size w2 w5) := HB4.out.trans ((⟨hgrow.os, hgrow.tape, hgrow.output, hgrow.size, fun k hk => hgrow.block k hk (by simp)⟩ : Below w4.heap.size w4 w5).mono HB4.out.size); clear hown hgrow)
    | (go_at_call 49; refine (HEA.out _ _ HB5.out HV5.out).mono ?_; rintro e w6 ⟨u6, rfl, hu6, hb6⟩; have HU6 := hid hu6; have HB6 := hid (HB2.out.trans ((HB5.out.trans (hb6.mono HB5.out.size)).mono HB2.out.size)); obtain ⟨ua6, uc6, rfl, _⟩ := hu6; clear hb6))
  go_ret2
  exact ⟨_, rfl, HU6.out, HB6.out⟩
end Go.Proofs.YtilogbggilchaaaGreat
