/- FieldOps, walked. -/
import Derived.Test.YtkmjmmnnnbjghaaFK
namespace Go.Proofs.Ytkmjmmnnnbjghaa
set_option linter.unusedSimpArgs false
set_option linter.unusedVariables false
open Go.RowKit

set_option maxHeartbeats 400000 in
theorem inFn_any (p x : Int) (b : Nat) (w : World) (hb : w.cell? ⟨b, 0, none⟩ = some (.int .i64 p)) :
    Calls Try.prog 14 #[.int .i64 x, .pointer (some ⟨b, 0, none⟩)] w fun e w' => e = .returned (.bool (!outP p x)) ∧ w' = w := by
  unfold outP
  by_cases h : 0 ≤ x
  · go_enter Try.func14, Try.ntmps14
    go_wp2
    go_ret
    refine ⟨?_, rfl⟩
    show Ending.returned (.bool _) = .returned (.bool _)
    congr 2
    by_cases h2 : x < p
    · have h3 : ¬ (x < 0 ∨ p ≤ x) := by omega
      simp [h2, h3]
    · have h3 : x < 0 ∨ p ≤ x := by omega
      simp [h2, h3]
  · go_enter Try.func14, Try.ntmps14
    go_wp2
    go_ret
    refine ⟨?_, rfl⟩
    show Ending.returned (.bool _) = .returned (.bool _)
    have h3 : x < 0 ∨ p ≤ x := by omega
    simp [h3]

/-- What is known of a world in the middle of the law. -/
structure FMid (w w' : World) (p : Int) : Prop where
  below : Below w.heap.size w w'
  box : w'.cell? ⟨w.heap.size, 0, none⟩ = some (.int .i64 p)
  lt : w.heap.size < w'.heap.size
theorem FMid.next {w w' w2 : World} {p : Int} (h : FMid w w' p) (hb : Below w'.heap.size w' w2) : FMid w w2 p :=
  ⟨h.below.trans (hb.mono h.below.size), by rw [hb.cell (p := ⟨w.heap.size, 0, none⟩) h.lt]; exact h.box, Nat.lt_of_lt_of_le h.lt hb.size⟩

set_option maxRecDepth 100000 in
set_option maxHeartbeats 2000000 in
theorem fieldOps_any (p a b : Int) (w : World) :
    Calls Try.prog 3 #[.int .i64 p, .int .i64 a, .int .i64 b] w fun e w' => e = .returned (.bool true) ∧ Below w.heap.size w w' := by
  go_enter Try.func3, Try.ntmps3
  go_wp2_with fail
  refine (fieldAdd_any p a b _).mono ?_
  rintro e w1 ⟨rfl, hb1⟩
  have M1 := hid (FMid.mk (belowNew.trans (hb1.mono (by simp))) (by rw [hb1.cell (p := ⟨w.heap.size, 0, none⟩) (by simp)]; simp) (by have := hb1.size; simp at this; omega) : FMid w w1 p)
  have c := M1.out.box
  clear hb1
  go_wp2_with fail
  refine (fieldMul_any p a b _).mono ?_
  rintro e w2 ⟨rfl, hb2⟩
  have M2 := hid (M1.out.next hb2)
  clear c hb2
  have c := M2.out.box
  go_wp2_with fail
  refine (fieldInverse_any p a _).mono ?_
  rintro e w3 ⟨rfl, hb3⟩
  have M3 := hid (M2.out.next hb3)
  clear c hb3
  have c := M3.out.box
  go_wp2_with fail
  refine (checkPrime_any p _).mono ?_
  rintro e w' ⟨rfl, hw'⟩
  subst w'
  go_upto_if 45 with fail
  go_cut [13, 14, 15, 16, 17, 18] (fun s13 s14 s15 s16 s17 s18 wc => s13 = .int .i64 (errP p) ∧ s14 = .int .i64 (numE p [a, b]) ∧ s15 = .int .i64 (ivE p a) ∧ s16 = .int .i64 (fopR (· + ·) p a b) ∧ s17 = .int .i64 (fopR (· * ·) p a b) ∧ s18 = .int .i64 (ivR p a) ∧ FMid w wc p)
  case first =>
    cases hz : (errP p == 0)
    · have hz0 : errP p ≠ 0 := by simpa using hz
      have F : Hid (numE p [a, b] = errP p ∧ ivE p a = errP p ∧ fopR (· + ·) p a b = 0 ∧ fopR (· * ·) p a b = 0 ∧ ivR p a = 0) := by
        have n2 : ∀ xs, numE p xs = errP p := fun xs => by unfold numE; rw [if_neg hz0]
        have e1 : ivE p a = errP p := by unfold ivE; rw [n2, if_neg hz0]
        refine ⟨n2 _, e1, ?_, ?_, ?_⟩
        · unfold fopR; rw [n2, if_neg hz0]
        · unfold fopR; rw [n2, if_neg hz0]
        · unfold ivR; rw [e1, if_neg hz0]
      clear hz0
      go_wp2_with fail
      go_meet
      case rel => exact ⟨rfl, by rw [F.out.1], by rw [F.out.2.1], by rw [F.out.2.2.1], by rw [F.out.2.2.2.1], by rw [F.out.2.2.2.2], M3.out⟩
    · have hz0 : errP p = 0 := by simpa using hz
      obtain ⟨hp1, hp2, hpr⟩ := errP_ok hz0
      have HZ := hid hz0
      have N2 : Hid (∀ xs, numE p xs = if xs.any (outP p) then 3 else 0) := fun xs => by unfold numE; rw [if_pos hz0]
      rw [hz0]
      clear hz0 hz
      cases hoa : outP p a
      · have ha : 0 ≤ a ∧ a < p := by simp [outP] at hoa; omega
        obtain ⟨ha1, ha2⟩ := ha
        have E1 : Hid (numE p [a] = 0) := by rw [N2.out]; simp [Hid, hoa]
        have FI : Hid ((a = 0 → ivE p a = 5 ∧ ivR p a = 0) ∧ (a ≠ 0 → ivE p a = 0 ∧ ivR p a = invI p a)) := by
          refine ⟨fun h => ?_, fun h => ?_⟩
          · have e1 : ivE p a = 5 := by unfold ivE; rw [if_pos E1.out, if_pos h]
            exact ⟨e1, by unfold ivR; rw [e1, if_neg (by decide)]⟩
          · have e1 : ivE p a = 0 := by unfold ivE; rw [if_pos E1.out, if_neg h]
            exact ⟨e1, by unfold ivR; rw [if_pos e1]⟩
        obtain ⟨pn, rfl⟩ : ∃ n : Nat, p = n := ⟨p.toNat, by omega⟩
        obtain ⟨an, rfl⟩ : ∃ n : Nat, a = n := ⟨a.toNat, by omega⟩
        cases hob : outP pn b
        · have hb' : 0 ≤ b ∧ b < pn := by simp [outP] at hob; omega
          obtain ⟨hb1, hb2⟩ := hb'
          obtain ⟨hm1, hm2⟩ := mul_bd (a := (an : Int)) (b := b) ⟨by omega, by omega, by omega, by omega⟩
          have E2 : Hid (numE pn [(an : Int), b] = 0) := by rw [N2.out]; simp [Hid, hoa, hob]
          have FO : Hid (∀ g : Int → Int → Int, fopR g pn an b = g an b % pn) := fun g => by unfold fopR; rw [if_pos E2.out]
          cases h0 : ((an : Int) == 0)
          · have h0' : (an : Int) ≠ 0 := by simpa using h0
            have hok := hid (invOk_of (p := pn) (a := an) (by omega) (by omega) hpr (by omega) (by omega))
            have IV := hid (FI.out.2 h0')
            clear h0' hpr
            go_wp2_with (go_at_call 14; refine (inFn_any pn _ _ _ M3.out.box).mono ?_; rintro e w' ⟨rfl, rfl⟩)
            go_quiet (fail)
            go_wp2_with (go_at_call 14; refine (inFn_any pn _ _ _ (by exact M3.out.box)).mono ?_; rintro e w' ⟨rfl, rfl⟩)
            refine (inverseOf_any pn an _ (by omega) (by omega) (by omega) hok.out).mono ?_
            rintro e w4 ⟨rfl, hd4⟩
            go_wp2_with fail
            go_meet
            case rel => exact ⟨by rw [HZ.out], by rw [E2.out], by rw [IV.out.1], by rw [FO.out], by rw [FO.out], by rw [IV.out.2]; rfl, M3.out.next (by obtain ⟨nn, rfl⟩ := hd4; exact below_drewN (below_drewN (Below.refl _ _) _) _)⟩
          · have h0' : (an : Int) = 0 := by simpa using h0
            have IV := hid (FI.out.1 h0')
            clear h0' hpr
            go_wp2_with (go_at_call 14; refine (inFn_any pn _ _ _ M3.out.box).mono ?_; rintro e w' ⟨rfl, rfl⟩)
            go_quiet (fail)
            go_wp2_with (go_at_call 14; refine (inFn_any pn _ _ _ (by exact M3.out.box)).mono ?_; rintro e w' ⟨rfl, rfl⟩)
            go_meet
            case rel => exact ⟨by rw [HZ.out], by rw [E2.out], by rw [IV.out.1], by rw [FO.out], by rw [FO.out], by rw [IV.out.2], M3.out.next (below_drewN (Below.refl _ _) _)⟩
        · have E2 : Hid (numE pn [(an : Int), b] = 3) := by rw [N2.out]; simp [Hid, hoa, hob]
          have FO : Hid (∀ g : Int → Int → Int, fopR g pn an b = 0) := fun g => by unfold fopR; rw [if_neg (by rw [E2.out]; decide)]
          cases h0 : ((an : Int) == 0)
          · have h0' : (an : Int) ≠ 0 := by simpa using h0
            have hok := hid (invOk_of (p := pn) (a := an) (by omega) (by omega) hpr (by omega) (by omega))
            have IV := hid (FI.out.2 h0')
            clear h0' hpr
            go_wp2_with (go_at_call 14; refine (inFn_any pn _ _ _ M3.out.box).mono ?_; rintro e w' ⟨rfl, rfl⟩)
            refine (inverseOf_any pn an _ (by omega) (by omega) (by omega) hok.out).mono ?_
            rintro e w4 ⟨rfl, hd4⟩
            go_wp2_with fail
            go_meet
            case rel => exact ⟨by rw [HZ.out], by rw [E2.out], by rw [IV.out.1], by rw [FO.out], by rw [FO.out], by rw [IV.out.2]; rfl, M3.out.next (by obtain ⟨nn, rfl⟩ := hd4; exact below_drewN (Below.refl _ _) _)⟩
          · have h0' : (an : Int) = 0 := by simpa using h0
            have IV := hid (FI.out.1 h0')
            clear h0' hpr
            go_wp2_with (go_at_call 14; refine (inFn_any pn _ _ _ M3.out.box).mono ?_; rintro e w' ⟨rfl, rfl⟩)
            go_meet
            case rel => exact ⟨by rw [HZ.out], by rw [E2.out], by rw [IV.out.1], by rw [FO.out], by rw [FO.out], by rw [IV.out.2], M3.out⟩
      · have E1 : Hid (numE p [a] = 3) := by rw [N2.out]; simp [Hid, hoa]
        have E2 : Hid (numE p [a, b] = 3) := by rw [N2.out]; simp [Hid, hoa]
        have E3 : Hid (ivE p a = 3) := by unfold Hid ivE; rw [E1.out, if_neg (by decide)]
        have E4 : Hid (ivR p a = 0) := by unfold Hid ivR; rw [E3.out, if_neg (by decide)]
        have FO : Hid (∀ g : Int → Int → Int, fopR g p a b = 0) := fun g => by unfold fopR; rw [if_neg (by rw [E2.out]; decide)]
        clear hpr
        go_wp2_with (go_at_call 14; refine (inFn_any p _ _ _ M3.out.box).mono ?_; rintro e w' ⟨rfl, rfl⟩)
        go_meet
        case rel => exact ⟨by rw [HZ.out], by rw [E2.out], by rw [E3.out], by rw [FO.out], by rw [FO.out], by rw [E4.out], M3.out⟩
  case rest =>
  obtain ⟨rfl, rfl, rfl, rfl, rfl, rfl, hmid⟩ := hcut
  have M4 := hid hmid
  clear hmid c M1 M2 M3
  go_wp2_with fail
  refine (fieldBegun_any _).mono ?_
  rintro e w5 ⟨rfl, hb5⟩
  have M5 := hid (M4.out.next hb5)
  have c := M5.out.box
  clear hb5
  go_wp2_with fail
  refine (check_any p _).mono ?_
  rintro e w' ⟨rfl, hw'⟩
  subst w'
  go_wp2
  go_ret
  exact ⟨by simp, M5.out.below⟩

end Go.Proofs.Ytkmjmmnnnbjghaa
