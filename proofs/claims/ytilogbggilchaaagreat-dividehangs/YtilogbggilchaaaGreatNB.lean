/- NormalOf of the reference. -/
import Derived.Test.YtilogbggilchaaaGreatQY
import Derived.Test.YtilogbggilchaaaGreatQN
namespace Go.Proofs.YtilogbggilchaaaGreat
set_option linter.unusedSimpArgs false
set_option linter.unusedVariables false
open Go.RowKit
theorem nrm_false {o ov : Int} {lss : List (List (List Tm))} {v : List (List Tm)} {i : Nat} {t : Tm} {k : Nat} (hi : i < v.length) (ht : t ∈ v.getD i []) (h : dvI o ov lss i t.2 = some k) : nrmB o ov lss v = false := by
  unfold nrmB
  rw [List.all_eq_false]
  refine ⟨i, List.mem_range.2 hi, ?_⟩
  intro hc
  rw [List.all_eq_true] at hc
  have := hc t ht
  rw [h] at this
  simp at this
theorem nrm_true {o ov : Int} {lss : List (List (List Tm))} {v : List (List Tm)} (h : ∀ i, i < v.length → ∀ t ∈ v.getD i [], dvI o ov lss i t.2 = none) : nrmB o ov lss v = true := by
  unfold nrmB
  rw [List.all_eq_true]
  intro i hi
  rw [List.all_eq_true]
  intro t ht
  rw [h i (List.mem_range.1 hi) t ht]; rfl

set_option maxRecDepth 100000 in
set_option maxHeartbeats 4000000 in
theorem normalOf_any (p o ov : Int) (N R : Nat) (x lv : Value) (v0 : List (List Tm)) (lss : List (List (List Tm))) (w : World) (hx : RCx p o ov N R) (hl : LOk p o N R lss) (hL : lss.length ≤ 60) (hr : ∀ g ∈ lss, ∀ f ∈ g, Right p o N f) (hvl : v0.length = R) (hv : ∀ f ∈ v0, Right p o N f) (hxv : Vl w x v0) (hlv : Wl w lv lss) :
    Calls Tryz.prog 9 #[ringV p N o ov, x, lv] w fun e w' => e = .returned (.bool (nrmB o ov lss v0)) ∧ Below w.heap.size w w' := by
  have HX := hid hx
  have HLK := hid hl
  have HRR := hid hr
  have HY := hid hlv
  have HV := hid hv
  have HXV := hid hxv
  have HVL := hid hvl
  have hR40 := hx.r
  obtain ⟨ly, lc, rfl, _⟩ := hlv
  obtain ⟨xa, xc, rfl, _⟩ := hxv
  obtain ⟨w1, hw1⟩ : ∃ w1, w1 = w.alloc (.cells #[.int .i64 p, .int .i64 N, .int .i64 o, .int .i64 ov] 23) := ⟨_, rfl⟩
  have HB1 : Hid (Below w.heap.size w w1) := by rw [hw1]; exact belowNew
  have HX1 : Hid (BoxAt w1 w.heap.size p N o ov) := by rw [hw1]; exact BoxAt.new w p N o ov _
  have hvm : v0.length ≤ 40 := by omega
  clear hx hl hr hv hvl
  unfold ringV
  go_enter Tryz.func9, Tryz.ntmps9
  go_wp2_with fail
  rw [← hw1]
  clear hw1
  go_loopw [7] (fun i wr => ∃ k : Nat, k ≤ v0.length ∧ i = .int .i64 k ∧ (∀ m, m < k → ∀ t ∈ v0.getD m [], dvI o ov lss m t.2 = none) ∧ Below w1.heap.size w1 wr) (fun i _ => v0.length - (intOf i).toNat)
  case atStart => exact ⟨0, Nat.zero_le _, rfl, fun m hm => by omega, Below.refl _ _⟩
  case round =>
    obtain ⟨k, hk, rfl, hno, hbr⟩ := hrel
    have HNO := hid hno
    have HBR := hid hbr
    clear hno hbr
    by_cases hk2 : k < v0.length
    · obtain ⟨b, off, fa, fc, rfl, hlt, c0, hpf⟩ := vl_at HXV.out k hk2
      have HRK := hid (HV.out _ (getD_memL v0 k hk2))
      have HNF : Hid (∀ t ∈ v0.getD k [], ∀ m, dvI o ov lss k t.2 = some m → nrmB o ov lss v0 = false) := fun t ht m h => nrm_false hk2 ht h
      have HNX : Hid ((∀ t ∈ v0.getD k [], dvI o ov lss k t.2 = none) → ∀ m, m < k + 1 → ∀ t ∈ v0.getD m [], dvI o ov lss m t.2 = none) := fun h m hm => by
        rcases Nat.lt_or_ge m k with h1 | h1
        · exact HNO.out m h1
        · have : m = k := by omega
          subst this; exact h
      generalize v0.getD k [] = f at c0 hpf HRK HNF HNX
      have hfl : f.length ≤ 2000 := HRK.out.len
      have HPF := hid hpf
      have HC0 := hid (cell_keep c0 HB1.out)
      clear hpf c0
      have cr := cell_keep HC0.out HBR.out
      go_wp2_with fail
      go_loopw [8] (fun i wm => ∃ m : Nat, m ≤ f.length ∧ i = .int .i64 m ∧ (∀ q, q < m → dvI o ov lss k (f.getD q noT).2 = none) ∧ Below w1.heap.size w1 wm) (fun i _ => f.length - (intOf i).toNat)
      case atStart => exact ⟨0, Nat.zero_le _, rfl, fun m hm => by omega, HBR.out⟩
      case round =>
        obtain ⟨m, hm, rfl, hnm, hbm⟩ := hrel
        have HNM := hid hnm
        have HBM := hid hbm
        have cm := cell_keep HC0.out hbm
        clear hnm hbm cr
        rename World => wm
        by_cases hm2 : m < f.length
        · obtain ⟨fa2, fc2, hfv, _, hat0⟩ := HPF.out
          obtain ⟨b3, off3, hfa, hlt3, hat⟩ := hat0 (by omega)
          simp only [Value.slice.injEq, true_and] at hfv
          obtain ⟨e1, e2⟩ := hfv
          subst e1
          subst e2
          subst hfa
          obtain ⟨t0, ev, t1, hse⟩ := hat m hm2
          have HTM := hid (getD_memT f m hm2)
          have HTL := hid (HRK.out.canon.len _ (getD_memT f m hm2))
          have HNF2 : Hid (∀ q, dvI o ov lss k (f.getD m noT).2 = some q → nrmB o ov lss v0 = false) := fun q h => HNF.out _ HTM.out q h
          have HNX2 : Hid (dvI o ov lss k (f.getD m noT).2 = none → ∀ q, q < m + 1 → dvI o ov lss k (f.getD q noT).2 = none) := fun h q hq => by
            rcases Nat.lt_or_ge q m with h1 | h1
            · exact HNM.out q h1
            · have : q = m := by omega
              subst this; exact h
          generalize f.getD m noT = t at t0 hse HTL HNF2 HNX2
          have HSE := hid ((hse.below HB1.out).below HBM.out)
          obtain ⟨ea, ec, rfl, _⟩ := hse
          have k0 := cell_keep (cell_keep t0 HB1.out) HBM.out
          have k1 := cell_keep (cell_keep t1 HB1.out) HBM.out
          obtain ⟨_, bx0, bx1, bx2, bx3⟩ := HX1.out.below HBM.out
          clear hat hat0 t0 t1
          have HDI := hid (fun W (hb : Below wm.heap.size wm W) => divisor_any p N o ov N k (.slice ly lss.length lc) (.slice ea t.2.length ec) t.1 lss t.2 W HX.out.ov HX.out.o HX.out.n0 HX.out.n3 hL (fun g hg => ⟨by rw [HLK.out.len g hg]; omega, HRR.out g hg⟩) (((HY.out.below HB1.out).below HBM.out).below hb) HTL.out (HSE.out.below hb))
          unfold ringV at HDI
          have HB0 : Hid (Below wm.heap.size wm wm.drew) := (Below.refl _ _).drew
          cases hdv : dvI o ov lss k t.2 with
          | none =>
            have HD2 : Hid (∀ W, Below wm.heap.size wm W → Calls Tryz.prog 34 #[.agg #[.int .i64 p, .int .i64 N, .int .i64 o, .int .i64 ov], .slice ly lss.length lc, .int .i64 (k : Int), .agg #[.int .i64 t.1, .slice ea t.2.length ec]] W fun x w' => x = .returned (.int .i64 (-1)) ∧ Below W.heap.size W w') := fun W hb => by
              have h := HDI.out W hb
              rw [dsV_none hdv] at h; exact h
            have HN2 := hid (HNX2.out hdv)
            clear HDI hdv
            go_upto_region 7 with fail
            go_region_with (go_at_call 34; refine (HD2.out _ HB0.out).mono ?_; rintro e9 w9 ⟨rfl, hb9⟩; have HB9 := hid (HB0.out.trans (hb9.mono HB0.out.size)); clear hb9)
            all_goals
              go_wp2_with fail
              go_roundw
              case rel => exact ⟨m + 1, by omega, by go_num, HN2.out, HBM.out.trans (HB9.out.mono HBM.out.size)⟩
              case measure => simp [intOf]; omega
          | some i =>
            have HD2 : Hid (∀ W, Below wm.heap.size wm W → Calls Tryz.prog 34 #[.agg #[.int .i64 p, .int .i64 N, .int .i64 o, .int .i64 ov], .slice ly lss.length lc, .int .i64 (k : Int), .agg #[.int .i64 t.1, .slice ea t.2.length ec]] W fun x w' => x = .returned (.int .i64 (i : Int)) ∧ Below W.heap.size W w') := fun W hb => by
              have h := HDI.out W hb
              rw [dsV_some hdv] at h; exact h
            have HN2 := hid (HNF2.out i hdv)
            clear HDI hdv
            have hi0 : (0 : Int) ≤ (i : Int) := by omega
            go_upto_region 7 with fail
            go_region_with (go_at_call 34; refine (HD2.out _ HB0.out).mono ?_; rintro e9 w9 ⟨rfl, hb9⟩; have HB9 := hid (HB0.out.trans (hb9.mono HB0.out.size)); clear hb9)
            all_goals
              go_wp2_with fail
              go_ret
              exact ⟨by rw [HN2.out]; rfl, HB1.out.trans ((HBM.out.trans (HB9.out.mono HBM.out.size)).mono HB1.out.size)⟩
        · have e : m = f.length := by omega
          subst e
          have HALL : Hid (∀ t ∈ f, dvI o ov lss k t.2 = none) := fun t ht => by
            obtain ⟨q, hq, rfl⟩ := List.getElem_of_mem ht
            have h := HNM.out q hq
            simpa [List.getD_eq_getElem?_getD, hq] using h
          have HN2 := hid (HNX.out HALL.out)
          go_wp2_with fail
          go_roundw
          case rel => exact ⟨k + 1, by omega, by go_num, HN2.out, HBM.out⟩
          case measure => simp [intOf]; omega
    · have e : k = v0.length := by omega
      subst e
      have HT := hid (nrm_true HNO.out)
      go_wp2
      go_ret
      exact ⟨by rw [HT.out]; rfl, HB1.out.trans (HBR.out.mono HB1.out.size)⟩
end Go.Proofs.YtilogbggilchaaaGreat
