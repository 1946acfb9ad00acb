/- Add, Mul, Inverse. -/
import Derived.Test.YtkmjmmnnnbjghaaGreatL
import Derived.Test.YtkmjmmnnnbjghaaGreatA
import Derived.ProofKit
import Derived.OpenShut
import Derived.ShutString
import Derived.ChangeOld
import Derived.Deep.Matrix
import Derived.Deep.DeepCutAuto
import Derived.Lib.SliceRun
import Derived.Deep.OwnRows
import Derived.Deep.RegionHeld
import Derived.RegionTactic
namespace Go.Proofs.YtkmjmmnnnbjghaaGreat
set_option linter.unusedSimpArgs false
set_option linter.unusedVariables false
open Go.RowKit

def numE (p : Int) (xs : List Int) : Int := if errP p = 0 then (if xs.any (outP p) then 3 else 0) else errP p
theorem belowNew {w : World} {A : Obj} : Below w.heap.size w (w.alloc A) := (Below.refl _ _).alloc (Nat.le_refl _) _
theorem errP_ok {p : Int} (h : errP p = 0) : 2 ≤ p ∧ p ≤ 101 ∧ primeB p = true := by
  unfold errP at h
  by_cases h1 : p < 2 ∨ 101 < p
  · rw [if_pos h1] at h; omega
  · rw [if_neg h1] at h
    by_cases h2 : primeB p = true
    · exact ⟨by omega, by omega, h2⟩
    · rw [if_neg h2] at h; omega
theorem outP_all {p : Int} {xs : List Int} (h : xs.any (outP p) = false) : ∀ x ∈ xs, 0 ≤ x ∧ x < p := by
  intro x hx
  rw [List.any_eq_false] at h
  have := h x hx
  simp [outP] at this; omega

set_option maxHeartbeats 400000 in
theorem checkNumbers_any (p : Int) (v : Value) (xs : List Int) (w : World) (hm : xs.length ≤ 400) (hs : Sl w v xs) :
    Calls Tryz.prog 133 #[.int .i64 p, v] w fun e w' => e = .returned (.int .i64 (numE p xs)) ∧ Below w.heap.size w w' := by
  have HS := hid hs
  obtain ⟨a, cap, rfl, _⟩ := hs
  cases hp : (errP p != 0)
  · have hp0 : errP p = 0 := by simpa using hp
    cases hx : xs.any (outP p)
    · have e : numE p xs = 0 := by unfold numE; rw [if_pos hp0, if_neg (by simp [hx])]
      rw [e]
      clear e hp0
      go_enter Tryz.func133, Tryz.ntmps133
      go_wp2_with fail
      refine (check_any _ _).mono ?_
      rintro e w' ⟨rfl, rfl⟩
      go_wp2_with fail
      refine (anyOutside_any p _ xs _ hm HS.out).mono ?_
      rintro e w' ⟨rfl, hb⟩
      go_wp2
      go_ret
      exact ⟨rfl, hb⟩
    · have e : numE p xs = 3 := by unfold numE; rw [if_pos hp0, if_pos hx]
      rw [e]
      clear e hp0
      go_enter Tryz.func133, Tryz.ntmps133
      go_wp2_with fail
      refine (check_any _ _).mono ?_
      rintro e w' ⟨rfl, rfl⟩
      go_wp2_with fail
      refine (anyOutside_any p _ xs _ hm HS.out).mono ?_
      rintro e w' ⟨rfl, hb⟩
      go_wp2
      go_ret
      exact ⟨rfl, hb⟩
  · have e : numE p xs = errP p := by unfold numE; rw [if_neg (by simpa using hp)]
    rw [e]
    clear e
    go_enter Tryz.func133, Tryz.ntmps133
    go_wp2_with fail
    refine (check_any _ _).mono ?_
    rintro e w' ⟨rfl, rfl⟩
    go_wp2
    go_ret
    exact ⟨rfl, Below.refl _ _⟩

theorem Sl.of1 (w : World) (a : Int) (T : TypeId) : Sl (w.alloc (.cells #[.int .i64 a] T)) (.slice (some ⟨w.heap.size, 0, none⟩) 1 1) [a] := by
  refine ⟨_, _, rfl, fun _ => ⟨_, _, rfl, by simp, fun i hi => ?_⟩⟩
  simp at hi
  subst hi
  simp
theorem Sl.of2 (w : World) (a b : Int) (T : TypeId) : Sl (w.alloc (.cells #[.int .i64 a, .int .i64 b] T)) (.slice (some ⟨w.heap.size, 0, none⟩) 2 2) [a, b] := by
  refine ⟨_, _, rfl, fun _ => ⟨_, _, rfl, by simp, fun i hi => ?_⟩⟩
  simp at hi
  rcases i with _ | _ | i
  · simp
  · simp
  · omega

def fopR (g : Int → Int → Int) (p a b : Int) : Int := if numE p [a, b] = 0 then g a b % p else 0
theorem numE_two {p a b : Int} (h : numE p [a, b] = 0) : errP p = 0 ∧ 0 ≤ a ∧ a < p ∧ 0 ≤ b ∧ b < p := by
  unfold numE at h
  by_cases h1 : errP p = 0
  · rw [if_pos h1] at h
    cases h2 : [a, b].any (outP p)
    · have := outP_all h2
      have ha := this a (by simp)
      have hb := this b (by simp)
      exact ⟨h1, ha.1, ha.2, hb.1, hb.2⟩
    · rw [if_pos h2] at h; omega
  · rw [if_neg h1] at h; exact absurd h h1

/-- Powers, modulo p. -/
def pwN (p a : Nat) : Nat → Nat
  | 0 => 1
  | k + 1 => pwN p a k * a % p
theorem pwN_lt (p a : Nat) (hp : 2 ≤ p) : ∀ k, pwN p a k < p
  | 0 => by simp [pwN]; omega
  | k + 1 => by simp only [pwN]; exact Nat.mod_lt _ (by omega)
def invN (p a : Nat) : Nat := pwN p a (p - 2)
def invI (p a : Int) : Int := invN p.toNat a.toNat

def invOk (p a : Nat) : Bool := decide (1 ≤ invN p a) && decide (invN p a < p) && (a * invN p a % p == 1 % p) && (List.range (invN p a)).all fun b => a * b % p != 1 % p
/-- Each number but 0 has its inverse, modulo a prime up to 101: by trying all. -/
theorem inv_all : ((List.range 102).all fun p => !(decide (2 ≤ p) && noDiv p p) || (List.range p).all fun a => decide (a = 0) || invOk p a) = true := by decide +kernel
theorem invOk_of {p a : Nat} (h1 : 2 ≤ p) (h2 : p ≤ 101) (h3 : noDiv p p = true) (h4 : 0 < a) (h5 : a < p) : invOk p a = true := by
  have h := inv_all
  rw [List.all_eq_true] at h
  have h6 := h p (by simp; omega)
  rw [h3, decide_eq_true h1] at h6
  simp only [Bool.and_self, Bool.not_true, Bool.false_or] at h6
  rw [List.all_eq_true] at h6
  have h7 := h6 a (by simpa using h5)
  rw [decide_eq_false (by omega)] at h7
  simpa using h7

theorem cast_pw (p a k : Nat) : ((pwN p a (k + 1) : Nat) : Int) = (pwN p a k : Int) * (a : Int) % (p : Int) := by
  simp [pwN, Int.natCast_emod, Int.natCast_mul]

set_option maxHeartbeats 400000 in
theorem inverse_any (p a : Nat) (w : World) (hp : 2 ≤ p) (hp2 : p ≤ 101) (ha : a < p) :
    Calls Tryz.prog 134 #[.int .i64 p, .int .i64 a] w fun e w' => e = .returned (.int .i64 (invN p a)) ∧ w' = w := by
  go_enter Tryz.func134, Tryz.ntmps134
  go_wp2
  go_loop [5, 8] (fun r i => ∃ k : Nat, k ≤ p - 2 ∧ i = .int .i64 k ∧ r = .int .i64 (pwN p a k)) (fun _ i => p - (intOf i).toNat)
  case atStart => exact ⟨0, Nat.zero_le _, rfl, rfl⟩
  case round =>
    obtain ⟨k, hk, rfl, rfl⟩ := hrel
    have hlt := pwN_lt p a hp k
    by_cases hk2 : k < p - 2
    · have hc := cast_pw p a k
      have hmb := mul_bd (a := (pwN p a k : Int)) (b := (a : Int)) ⟨by omega, by omega, by omega, by omega⟩
      obtain ⟨hm1, hm2⟩ := hmb
      have HC := hid hc
      clear hc
      generalize hq : pwN p a k = q at *
      clear hq
      go_wp2
      go_round
      case rel => exact ⟨k + 1, by omega, by go_num, by rw [HC.out]⟩
      case measure => simp [intOf]; omega
    · have e : k = p - 2 := by omega
      go_wp2
      go_ret
      exact ⟨ret_int (by first | rfl | (rw [e]; rfl)), rfl⟩

end Go.Proofs.YtkmjmmnnnbjghaaGreat

/- Inverse; the reference's. -/
namespace Go.Proofs.YtkmjmmnnnbjghaaGreat
set_option linter.unusedSimpArgs false
set_option linter.unusedVariables false
open Go.RowKit

theorem numE_one {p a : Int} (h : numE p [a] = 0) : errP p = 0 ∧ 0 ≤ a ∧ a < p := by
  unfold numE at h
  by_cases h1 : errP p = 0
  · rw [if_pos h1] at h
    cases h2 : [a].any (outP p)
    · have ha := outP_all h2 a (by simp)
      exact ⟨h1, ha.1, ha.2⟩
    · rw [if_pos h2] at h; omega
  · rw [if_neg h1] at h; exact absurd h h1
def ivE (p a : Int) : Int := if numE p [a] = 0 then (if a = 0 then 5 else 0) else numE p [a]
def ivR (p a : Int) : Int := if ivE p a = 0 then invI p a else 0

set_option maxHeartbeats 400000 in
theorem fieldInverse_any (p a : Int) (w : World) :
    Calls Tryz.prog 121 #[.int .i64 p, .int .i64 a] w fun e w' => e = .returned (.tuple #[.int .i64 (ivR p a), .int .i64 (ivE p a)]) ∧ Below w.heap.size w w' := by
  cases hz : (numE p [a] != 0)
  · have hz0 : numE p [a] = 0 := by simpa using hz
    obtain ⟨h1, ha, ha2⟩ := numE_one hz0
    obtain ⟨hp1, hp2, _⟩ := errP_ok h1
    have HZ := hid hz0
    cases h0 : (a == 0)
    · have h0' : a ≠ 0 := by simpa using h0
      have e1 : ivE p a = 0 := by unfold ivE; rw [if_pos hz0, if_neg h0']
      have e2 : ivR p a = invI p a := by unfold ivR; rw [if_pos e1]
      rw [e1, e2]
      obtain ⟨pn, rfl⟩ : ∃ n : Nat, p = n := ⟨p.toNat, by omega⟩
      obtain ⟨an, rfl⟩ : ∃ n : Nat, a = n := ⟨a.toNat, by omega⟩
      have e3 : invI (pn : Int) (an : Int) = invN pn an := rfl
      rw [e3]
      clear e1 e2 e3 h1 hz0 hz h0'
      go_enter Tryz.func121, Tryz.ntmps121
      go_wp2_with fail
      refine (checkNumbers_any pn _ [(an : Int)] _ (by simp) (Sl.of1 _ _ _)).mono ?_
      rintro e w1 ⟨rfl, hb1⟩
      rw [HZ.out]
      go_wp2_with fail
      refine (inverse_any pn an _ (by omega) (by omega) (by omega)).mono ?_
      rintro e w' ⟨rfl, rfl⟩
      go_wp2
      go_ret2
      exact ⟨rfl, belowNew.trans (hb1.mono (by simp))⟩
    · have h0' : a = 0 := by simpa using h0
      have e1 : ivE p a = 5 := by unfold ivE; rw [if_pos hz0, if_pos h0']
      have e2 : ivR p a = 0 := by unfold ivR; rw [if_neg (by rw [e1]; decide)]
      rw [e1, e2]
      clear e1 e2 h1 hz0 hz h0'
      go_enter Tryz.func121, Tryz.ntmps121
      go_wp2_with fail
      refine (checkNumbers_any p _ [a] _ (by simp) (Sl.of1 _ _ _)).mono ?_
      rintro e w1 ⟨rfl, hb1⟩
      rw [HZ.out]
      go_wp2
      go_ret2
      exact ⟨rfl, belowNew.trans (hb1.mono (by simp))⟩
  · have e1 : ivE p a = numE p [a] := by unfold ivE; rw [if_neg (by simpa using hz)]
    have e2 : ivR p a = 0 := by unfold ivR; rw [if_neg (by rw [e1]; simpa using hz)]
    rw [e1, e2]
    clear e1 e2
    go_enter Tryz.func121, Tryz.ntmps121
    go_wp2_with fail
    refine (checkNumbers_any p _ [a] _ (by simp) (Sl.of1 _ _ _)).mono ?_
    rintro e w1 ⟨rfl, hb1⟩
    go_wp2
    go_ret2
    exact ⟨rfl, belowNew.trans (hb1.mono (by simp))⟩

theorem invOk_parts {p a : Nat} (h : invOk p a = true) : 1 ≤ invN p a ∧ invN p a < p ∧ a * invN p a % p = 1 % p ∧ ∀ b, b < invN p a → a * b % p ≠ 1 % p := by
  unfold invOk at h
  simp only [Bool.and_eq_true, decide_eq_true_eq, List.all_eq_true, beq_iff_eq, bne_iff_ne] at h
  obtain ⟨⟨⟨h1, h2⟩, h3⟩, h4⟩ := h
  exact ⟨h1, h2, h3, fun b hb => h4 b (by simpa using hb)⟩

theorem cast_test (p a k : Nat) : ((a : Int) * (k : Int) % (p : Int) == 1 % (p : Int)) = decide (a * k % p = 1 % p) := by
  have e1 : (a : Int) * (k : Int) % (p : Int) = ((a * k % p : Nat) : Int) := by simp
  have e2 : (1 : Int) % (p : Int) = ((1 % p : Nat) : Int) := by simp
  rw [e1, e2]
  by_cases h : a * k % p = 1 % p
  · simp [h]
  · rw [decide_eq_false h]; simp only [beq_eq_false_iff_ne]; intro e; exact h (by exact_mod_cast e)

set_option maxHeartbeats 400000 in
theorem inverseOf_any (p a : Nat) (w : World) (hp : 2 ≤ p) (hp2 : p ≤ 101) (ha : a < p) (hok : invOk p a = true) :
    Calls Tryz.prog 35 #[.int .i64 p, .int .i64 a] w fun e w' => e = .returned (.int .i64 (invN p a)) ∧ ∃ n, w' = w.drewN n := by
  have PARTS := hid (invOk_parts hok)
  clear hok
  go_enter Tryz.func35, Tryz.ntmps35
  go_wp2
  go_loopw [5] (fun i wr => ∃ k n : Nat, 1 ≤ k ∧ k ≤ invN p a ∧ i = .int .i64 k ∧ wr = w.drewN n) (fun i _ => p - (intOf i).toNat)
  case atStart => exact ⟨1, 0, by omega, PARTS.out.1, rfl, rfl⟩
  case round =>
    obtain ⟨k, n0, hk1, hk, rfl, hw0⟩ := hrel
    have HW := hid hw0
    have HK := hid hk
    have hkp : k < p := by have := PARTS.out.2.1; omega
    have hmb := mul_bd (a := (a : Int)) (b := (k : Int)) ⟨by omega, by omega, by omega, by omega⟩
    obtain ⟨hm1, hm2⟩ := hmb
    have hct := cast_test p a k
    clear hw0 hk
    by_cases he : k = invN p a
    · have ht : ((a : Int) * (k : Int) % (p : Int) == 1 % (p : Int)) = true := by rw [hct, he]; exact decide_eq_true PARTS.out.2.2.1
      have HE := hid he
      clear hct he
      go_wp2
      go_quiet (fail)
      go_wp2
      go_ret
      exact ⟨ret_int (by rw [← HE.out]), _, by rw [HW.out, World.drewN_drewN]⟩
    · have ht : ((a : Int) * (k : Int) % (p : Int) == 1 % (p : Int)) = false := by
        rw [hct]; exact decide_eq_false (PARTS.out.2.2.2 k (by have := HK.out; omega))
      have HE := hid he
      clear hct he
      go_wp2
      go_quiet (fail)
      go_wp2
      go_roundw
      case rel => exact ⟨k + 1, _, by omega, by have := HK.out; have := HE.out; omega, by go_num, by rw [HW.out, World.drewN_drewN]⟩
      case measure => simp [intOf]; omega

end Go.Proofs.YtkmjmmnnnbjghaaGreat

/- Looking through rows. -/
namespace Go.Proofs.YtkmjmmnnnbjghaaGreat
set_option linter.unusedSimpArgs false
set_option linter.unusedVariables false
open Go.RowKit

/-- A list of rows. -/
def Rws (w : World) (v : Value) (xss : List (List Int)) : Prop :=
  ∃ a cap, v = .slice a xss.length cap ∧ (0 < xss.length → ∃ b off, a = some ⟨b, off, none⟩ ∧ b < w.heap.size ∧ SlsAt w b off xss)
theorem Rws.below {w w' : World} {v : Value} {xss : List (List Int)} (h : Rws w v xss) (hb : Below w.heap.size w w') : Rws w' v xss := by
  obtain ⟨a, cap, rfl, h⟩ := h
  refine ⟨a, cap, rfl, fun hp => ?_⟩
  obtain ⟨b, off, rfl, hlt, hc⟩ := h hp
  exact ⟨b, off, rfl, Nat.lt_of_lt_of_le hlt hb.size, hc.below hlt hb⟩

theorem anyR_take (f : List Int → Bool) (xs : List (List Int)) (k : Nat) (h : k < xs.length) (h0 : (xs.take k).any f = false) (h1 : f (xs.getD k []) = false) : (xs.take (k + 1)).any f = false := by
  rw [List.take_succ_eq_append_getElem h, List.any_append, h0]
  rw [List.getD_eq_getElem?_getD, List.getElem?_eq_getElem h] at h1
  simpa using h1
theorem getR_mem (xs : List (List Int)) (k : Nat) (h : k < xs.length) : xs.getD k [] ∈ xs := by
  rw [List.getD_eq_getElem?_getD, List.getElem?_eq_getElem h]; simp
theorem anyR_at (f : List Int → Bool) (xs : List (List Int)) (k : Nat) (h : k < xs.length) (h1 : f (xs.getD k []) = true) : xs.any f = true := by
  rw [List.any_eq_true]; exact ⟨_, getR_mem xs k h, h1⟩

/-- What is said of rows, the prime being right. -/
def longR (xs : List Int) : Bool := decide (400 < (xs.length : Int))
def unlikeR (n : Nat) (xs : List Int) : Bool := (xs.length : Int) != (n : Int)
def rowE (p : Int) (xss : List (List Int)) : Int :=
  if 400 < (xss.length : Int) ∨ xss.any longR = true then 2 else if xss.any (unlikeR (xss.getD 0 []).length) then 1 else if xss.any (fun xs => xs.any (outP p)) then 3 else 0
def rowsE (p : Int) (xss : List (List Int)) : Int := if errP p = 0 then rowE p xss else errP p

end Go.Proofs.YtkmjmmnnnbjghaaGreat

/- Rows that came in. -/
namespace Go.Proofs.YtkmjmmnnnbjghaaGreat
set_option linter.unusedSimpArgs false
set_option linter.unusedVariables false
open Go.ChangeShapes Go.WideShapes Go.ChangeAt Go.RowKit Go.Deep

theorem Tryz.ownR : ownKnob Tryz.prog.godebug = none := by kernel_rfl
theorem Tryz.laidOutR : laidOutB Tryz.prog = true := by kernel_rfl
theorem Tryz.cellsIntR : Tryz.prog.cellsOf 3 = 1 := by kernel_rfl
theorem Tryz.cellsIntsR : Tryz.prog.cellsOf 55 = 1 := by kernel_rfl

theorem cellLt {w : World} {a : Addr} {v : Value} (h : w.cell? a = some v) : a.block < w.heap.size := World.block_lt_of_cell? w a h

theorem addrAt {w : World} {a : Addr} {v : Value} (h : w.cell? (a.add 0) = some v) : ∃ b off, a = ⟨b, off, none⟩ := by
  obtain ⟨b, off, spot⟩ := a
  have hspot : spot = none := by simpa [Addr.add] using World.cell?_spot h
  exact ⟨b, off, by rw [hspot]⟩
theorem cellAdd {w : World} {b off i : Nat} {v : Value} (h : w.cell? ((⟨b, off, none⟩ : Addr).add i) = some v) : w.cell? ⟨b, off + i, none⟩ = some v := by
  by_cases h0 : i = 0
  · subst h0; simpa [Addr.add] using h
  · simpa [Addr.add, h0] using h

theorem rws_of {H : Type} {enc : TypeId × Value → H} {W : World} {v : Value} {d : DataW H} {p : List MemPlace} (hv : ∃ a len cap, v = .slice a len cap)
    (h : DataW.Trod enc Tryz.prog W 0 (fun _ => true) true 184 v d p) : ∃ xss : List (List Int), Rws W v xss := by
  obtain ⟨a0, len0, cap0, rfl⟩ := hv
  obtain ⟨fuel, hf⟩ := h
  rcases open_int_rows Tryz.underlying184 Tryz.underlying55 Tryz.underlying3 Tryz.cellsIntsR Tryz.cellsIntR hf with ⟨hcs, _⟩ | ⟨a, len, cap, A, L, C, Z, hcs, _, hl, _, _, hall⟩
  · simp [Value.cells] at hcs
    obtain ⟨rfl, rfl, rfl⟩ := hcs
    exact ⟨[], none, 0, rfl, fun h => absurd h (by simp)⟩
  · simp [Value.cells] at hcs
    obtain ⟨rfl, rfl, rfl⟩ := hcs
    refine ⟨(List.range len0).map (fun r => (Z r).take (L r)), some a, cap0, by simp, fun hp => ?_⟩
    simp at hp
    obtain ⟨b, off, rfl⟩ := addrAt (hall 0 (by omega)).1
    refine ⟨b, off, rfl, cellLt (hall 0 (by omega)).1, fun i hi => ?_⟩
    simp at hi
    obtain ⟨hc, hL, _, hZ, _, hnone, hsome⟩ := hall i (by omega)
    have hg : ((List.range len0).map (fun r => (Z r).take (L r))).getD i [] = (Z i).take (L i) := by
      simp [List.getD_eq_getElem?_getD, hi]
    have hzl : ((Z i).take (L i)).length = L i := by rw [List.length_take]; omega
    rw [hg]
    refine ⟨_, cellAdd hc, A i, C i, by rw [hzl], fun hpos => ?_⟩
    rw [hzl] at hpos
    cases hA : A i with
    | none => have := hnone hA; omega
    | some a' =>
      obtain ⟨_, hcells⟩ := hsome a' hA
      obtain ⟨b', off', rfl⟩ := addrAt (hcells 0 (by omega))
      refine ⟨b', off', rfl, cellLt (hcells 0 (by omega)), fun j hj => ?_⟩
      rw [hzl] at hj
      have e : ((Z i).take (L i)).getD j 0 = (Z i).getD j 0 := by
        simp [List.getD_eq_getElem?_getD, List.getElem?_take, hj]
      rw [e]
      exact cellAdd (hcells j (by omega))

end Go.Proofs.YtkmjmmnnnbjghaaGreat

/- checkRows; CheckRows of the reference. -/
namespace Go.Proofs.YtkmjmmnnnbjghaaGreat
set_option linter.unusedSimpArgs false
set_option linter.unusedVariables false
open Go.RowKit

theorem belowTwo {w : World} {A B : Obj} : Below w.heap.size w ((w.alloc A).alloc B) := belowNew.trans (belowNew.mono (by simp))
theorem longR_ok {xss : List (List Int)} (h : xss.any longR = false) : ∀ xs ∈ xss, xs.length ≤ 400 := by
  intro xs hx
  rw [List.any_eq_false] at h
  have := h xs hx
  simp [longR] at this; omega

end Go.Proofs.YtkmjmmnnnbjghaaGreat

/- Clone; clearing a column. -/
namespace Go.Proofs.YtkmjmmnnnbjghaaGreat
set_option linter.unusedSimpArgs false
set_option linter.unusedVariables false
open Go.RowKit

theorem Tryz.infoInt : (Tryz.prog.info? 3).map (fun i => (i.zero, i.size, i.bytes)) = some (some (.int .i64 0), 1, 8) := by kernel_rfl
abbrev ints (xs : List Int) : List Value := xs.map (Value.int .i64)
/-- A row of the call's own. -/
def Own (w : World) (B : Nat) (v : Value) (xs : List Int) : Prop := w.ownsRow B 3 1 v xs.length (ints xs)

theorem intsAt_news {w : World} {b off : Nat} {xs : List Int} (h : IntsAt w b off xs) : ∀ j u, (ints xs)[j]? = some u → w.cell? ((⟨b, off, none⟩ : Addr).add j) = some u := by
  intro j u hj
  rw [List.getElem?_map] at hj
  cases hx : xs[j]? with
  | none => rw [hx] at hj; simp at hj
  | some x =>
    rw [hx] at hj
    simp at hj
    subst hj
    have hl : j < xs.length := by
      apply Nat.lt_of_not_le; intro hle; rw [List.getElem?_eq_none hle] at hx; simp at hx
    have := h j hl
    rw [List.getD_eq_getElem?_getD, hx] at this
    by_cases h0 : j = 0
    · subst h0; simpa [Addr.add] using this
    · simpa [Addr.add, h0] using this
theorem ints_one (xs : List Int) : ∀ u ∈ ints xs, u.oneCell' = true := by
  intro u hu
  simp at hu
  obtain ⟨x, _, rfl⟩ := hu
  rfl

set_option maxHeartbeats 400000 in
theorem clone_any (v : Value) (xs : List Int) (w : World) (hm : xs.length ≤ 400) (hs : Sl w v xs) :
    Calls Tryz.prog 78 #[v] w fun e w' => ∃ u, e = .returned u ∧ Own w' w.heap.size u xs ∧ Below w.heap.size w w' := by
  obtain ⟨a, cap, rfl, h1⟩ := hs
  have hnil := fun (w : World) (a : Option Addr) (n c : Nat) => Lib.run_eql_slice_nil (P := Tryz.prog) w 55 3 a n c 0 0 Tryz.underlying55
  obtain ⟨i0, hi, hz0, hz1, hz2⟩ := info_parts Tryz.infoInt
  cases a with
  | none =>
    have h0 : xs = [] := List.length_eq_zero_iff.1 (by
      apply Nat.eq_zero_of_not_pos; intro h; obtain ⟨b, off, hh, _⟩ := h1 h; simp at hh)
    subst h0
    clear h1
    go_enter Tryz.func78, Tryz.ntmps78
    go_wp2
    go_ret
    exact ⟨_, rfl, World.ownsRow_nil _ _ _ _, Below.refl _ _⟩
  | some ad =>
    have HN : Hid (∀ j u, (ints xs)[j]? = some u → (w.alloc (.cells #[] 3)).cell? (ad.add j) = some u) := by
      intro j u hj
      by_cases h0 : 0 < xs.length
      · obtain ⟨b, off, hh, hlt, hc⟩ := h1 h0
        simp at hh
        subst hh
        refine intsAt_news (w := w.alloc (.cells #[] 3)) (b := b) (off := off) ?_ j u hj
        intro i hi
        rw [belowNew.cell (p := ⟨b, off + i, none⟩) hlt]; exact hc i hi
      · have : xs = [] := List.length_eq_zero_iff.1 (by omega)
        subst this; simp at hj
    clear h1
    go_enter Tryz.func78, Tryz.ntmps78
    go_wp2_with (at_builtin; refine wpList_append_own _ rfl _ _ 55 rfl w.heap.size 3 i0 (.int .i64 0) 1 8 Tryz.underlying55 hi hz0 hz1 hz2 rfl (by decide) _ _ _ rfl (World.ownsRow_made w #[] 0 (Nat.le_refl _) (by decide) (by simp)) ad xs.length cap (ints xs) rfl (by simp) HN.out (ints_one xs) (by unfold maxLen; omega) (by omega) (by simp) ?_)
    intro v' w1 hown' hgrow _
    try simp only [Nat.zero_add, List.nil_append] at hown'
    have hb : Below w.heap.size w w1 := (belowNew).grown hgrow (by simp) (fun k hk => by simp [Value.ownBlock] at hk; omega)
    have HO := hid hown'
    obtain ⟨g, c, hv⟩ : ∃ g c, v' = .slice g xs.length c := by
      rcases hown'.2 with ⟨h, h'⟩ | ⟨g, c, cur, h, _⟩
      · exact ⟨none, 0, by rw [h, h']⟩
      · exact ⟨_, c, h⟩
    subst hv
    clear hown' hgrow hnil
    go_wp2
    go_ret
    exact ⟨_, rfl, HO.out, hb⟩

end Go.Proofs.YtkmjmmnnnbjghaaGreat

/- Rows of terms of the call's own. -/
namespace Go.Proofs.YtkmjmmnnnbjghaaGreat
set_option linter.unusedSimpArgs false
set_option linter.unusedVariables false
open Go.RowKit

theorem Tryz.infoTerm : (Tryz.prog.info? 57).map (fun i => (i.zero, i.size, i.bytes)) = some (some (.agg #[.int .i64 0, .slice none 0 0]), 2, 32) := by kernel_rfl

/-- A term in memory: its coefficient, the slice of its exponents, and these. -/
abbrev TV := Int × Value × List Int
def tm (t : TV) : Tm := (t.1, t.2.2)
def flat (ts : List TV) : List Value := ts.flatMap fun t => [.int .i64 t.1, t.2.1]
theorem flat_len (ts : List TV) : (flat ts).length = ts.length * 2 := by
  induction ts with
  | nil => rfl
  | cons t ts ih => simp only [flat, List.flatMap_cons, List.length_append, List.length_cons, List.length_nil] at ih ⊢; omega
theorem flat_cons (t : TV) (ts : List TV) : flat (t :: ts) = .int .i64 t.1 :: t.2.1 :: flat ts := rfl
theorem flat_append (ts us : List TV) : flat (ts ++ us) = flat ts ++ flat us := by unfold flat; rw [List.flatMap_append]
def noTV : TV := (0, .slice none 0 0, [])
theorem flat_at : ∀ (ts : List TV) (i : Nat), i < ts.length → (flat ts)[i * 2]? = some (.int .i64 (ts.getD i noTV).1) ∧ (flat ts)[i * 2 + 1]? = some (ts.getD i noTV).2.1
  | [], i, h => by simp at h
  | t :: ts, 0, h => by simp [flat_cons]
  | t :: ts, i + 1, h => by
    have := flat_at ts i (by simpa using h)
    rw [flat_cons, show (i + 1) * 2 = i * 2 + 1 + 1 by omega]
    simpa using this
theorem tm_at (ts : List TV) (i : Nat) (h : i < ts.length) : (ts.map tm).getD i noT = tm (ts.getD i noTV) := by
  simp [List.getD_eq_getElem?_getD, h]
theorem tv_mem (ts : List TV) (i : Nat) (h : i < ts.length) : ts.getD i noTV ∈ ts := by
  rw [List.getD_eq_getElem?_getD, List.getElem?_eq_getElem h]; simp

/-- What the slices of the exponents hold. -/
def Es (w : World) (ts : List TV) : Prop := ∀ t ∈ ts, Sl w t.2.1 t.2.2
theorem Es.below {w w' : World} {ts : List TV} (h : Es w ts) (hb : Below w.heap.size w w') : Es w' ts := fun t ht => (h t ht).below hb
theorem flat_one {w : World} {ts : List TV} (h : Es w ts) : ∀ u ∈ flat ts, u.oneCell' = true := by
  intro u hu
  simp only [flat, List.mem_flatMap] at hu
  obtain ⟨t, ht, hu⟩ := hu
  simp only [List.mem_cons, List.not_mem_nil, or_false] at hu
  rcases hu with rfl | rfl
  · rfl
  · obtain ⟨a, c, e, _⟩ := h t ht; rw [e]; rfl

/-- A row of one's own is a polynomial. -/
theorem own_pl {w : World} {B : Nat} {v : Value} {ts : List TV} (h : w.ownsRow B 57 2 v ts.length (flat ts)) (he : Es w ts) : Pl w v (ts.map tm) := by
  rcases h.2 with ⟨h1, h2⟩ | ⟨g, cap, cur, rfl, hg, hh, hn, hm, hcs, ht⟩
  · refine ⟨none, 0, by rw [h1]; simp [h2], by simp [h2], fun hp => by simp at hp; omega⟩
  · refine ⟨_, cap, by rw [List.length_map], by rw [List.length_map]; exact hn, fun hp => ⟨g, 0, rfl, ?_, fun i hi => ?_⟩⟩
    · apply Nat.lt_of_not_le; intro hle; rw [Array.getElem?_eq_none hle] at hh; simp at hh
    · rw [List.length_map] at hi
      rw [tm_at ts i hi]
      have key : ∀ j, j < ts.length * 2 → w.cell? ⟨g, j, none⟩ = (flat ts)[j]? := by
        intro j hj
        have h1 : (cur.toList.take (ts.length * 2))[j]? = (flat ts)[j]? := by rw [ht]
        rw [List.getElem?_take, if_pos hj] at h1
        rw [← h1]
        unfold World.cell?
        simp only [hh]
        simp
      have h2 := flat_at ts i hi
      refine ⟨?_, (ts.getD i noTV).2.1, ?_, he _ (tv_mem ts i hi)⟩
      · rw [Nat.zero_add, key _ (by omega), h2.1]; rfl
      · rw [Nat.zero_add, key _ (by omega), h2.2]

/-- A polynomial's terms, with their slices. -/
theorem Pl.tvs {w : World} {v : Value} {ts : List Tm} (h : Pl w v ts) : ∃ (a : Option Addr) (cap : Nat) (us : List TV), v = .slice a us.length cap ∧ us.length ≤ cap ∧ us.map tm = ts ∧ Es w us ∧
    (0 < us.length → ∃ b off, a = some ⟨b, off, none⟩ ∧ b < w.heap.size ∧ ∀ j u, (flat us)[j]? = some u → w.cell? ⟨b, off + j, none⟩ = some u) := by
  obtain ⟨a, cap, rfl, hcap, h⟩ := h
  by_cases hp : 0 < ts.length
  · obtain ⟨b, off, rfl, hlt, hc⟩ := h hp
    obtain ⟨V, hV⟩ := Go.Deep.choose_lt (α := Value) (n := ts.length) (p := fun i u => w.cell? ⟨b, off + i * 2 + 1, none⟩ = some u ∧ Sl w u (ts.getD i noT).2) (fun i hi => by
      obtain ⟨_, v, h1, h2⟩ := hc i hi; exact ⟨v, h1, h2⟩)
    let us : List TV := (List.range ts.length).map fun i => ((ts.getD i noT).1, V i, (ts.getD i noT).2)
    have hl : us.length = ts.length := by simp [us]
    have hat : ∀ i, i < ts.length → us.getD i noTV = ((ts.getD i noT).1, V i, (ts.getD i noT).2) := fun i hi => by simp [us, List.getD_eq_getElem?_getD, hi]
    refine ⟨some ⟨b, off, none⟩, cap, us, by rw [hl], by rw [hl]; exact hcap, ?_, ?_, fun _ => ⟨b, off, rfl, hlt, ?_⟩⟩
    · apply List.ext_getElem?
      intro i
      by_cases hi : i < ts.length
      · simp [us, tm, hi]
      · rw [List.getElem?_eq_none (by simp; omega), List.getElem?_eq_none (by omega)]
    · intro t ht
      simp only [us, List.mem_map, List.mem_range] at ht
      obtain ⟨i, hi, rfl⟩ := ht
      exact (hV i hi).2
    · intro j u hj
      have hjl : j < us.length * 2 := by
        rw [← flat_len]
        apply Nat.lt_of_not_le; intro hle; rw [List.getElem?_eq_none hle] at hj; simp at hj
      rw [hl] at hjl
      have hi : j / 2 < ts.length := by omega
      have hf := flat_at us (j / 2) (by rw [hl]; exact hi)
      rw [hat _ hi] at hf
      by_cases he : j % 2 = 0
      · have e : j / 2 * 2 = j := by omega
        rw [e] at hf
        rw [hf.1] at hj
        simp only [Option.some.injEq] at hj
        subst hj
        have := (hc _ hi).1
        rwa [e] at this
      · have e : j / 2 * 2 + 1 = j := by omega
        rw [e] at hf
        rw [hf.2] at hj
        simp only [Option.some.injEq] at hj
        subst hj
        have := (hV _ hi).1
        rwa [Nat.add_assoc, e] at this
  · have e : ts = [] := List.length_eq_zero_iff.1 (by omega)
    subst e
    exact ⟨a, cap, [], rfl, Nat.zero_le _, rfl, fun t ht => by simp at ht, fun h => absurd h (by simp)⟩

end Go.Proofs.YtkmjmmnnnbjghaaGreat

/- Clearing a column. -/
namespace Go.Proofs.YtkmjmmnnnbjghaaGreat
set_option linter.unusedSimpArgs false
set_option linter.unusedVariables false
open Go.RowKit

theorem grown_refl (w : World) (r : Option Nat) : w.grownBy w r := ⟨rfl, rfl, rfl, Nat.le_refl _, fun _ _ _ => rfl⟩
theorem grown_trans {a b c : World} {r : Option Nat} (h : a.grownBy b r) (k : b.grownBy c r) : a.grownBy c r :=
  ⟨k.os.trans h.os, k.tape.trans h.tape, k.output.trans h.output, Nat.le_trans h.size k.size, fun i hi hn => (k.block i (Nat.lt_of_lt_of_le hi h.size) hn).trans (h.block i hi hn)⟩
theorem grown_drew {a b : World} {r : Option Nat} (h : a.grownBy b r) : a.grownBy b.drew r := ⟨h.os, h.tape, h.output, h.size, h.block⟩
theorem grown_set (w : World) (g j : Nat) (u : Value) : w.grownBy (w.setCell ⟨g, j, none⟩ u) (some g) :=
  ⟨rfl, rfl, rfl, by simp [World.setCell], fun k _ hn => Below.heap_setCell _ _ _ _ (fun e => hn (by rw [e]))⟩
theorem grown_below {w w' : World} {g B : Nat} (h : w.grownBy w' (some g)) (hB : B ≤ g) (hw : B ≤ w.heap.size) : Below B w w' :=
  ⟨h.os, h.tape, h.output, h.size, fun k hk => h.block k (by omega) (fun e => by simp at e; omega)⟩
theorem below_grown {w w' : World} {r : Option Nat} (h : Below w.heap.size w w') : w.grownBy w' r :=
  ⟨h.os, h.tape, h.output, h.size, fun k hk _ => h.block k hk⟩
theorem grown_sl {w w' : World} {g : Nat} {v : Value} {xs : List Int} (h : w.grownBy w' (some g)) (hs : Sl w v xs) (hne : ∀ b off n c, v = .slice (some ⟨b, off, none⟩) n c → b ≠ g) : Sl w' v xs := by
  obtain ⟨a, cap, rfl, h1⟩ := hs
  refine ⟨a, cap, rfl, fun hp => ?_⟩
  obtain ⟨b, off, rfl, hlt, hc⟩ := h1 hp
  refine ⟨b, off, rfl, Nat.lt_of_lt_of_le hlt h.size, fun i hi => ?_⟩
  exact h.cell (hc i hi) (fun e => hne b off _ _ rfl (by injection e))

def clrF (p t x y : Int) : Int := (x + t * y) % p

/-- Some of the new row, and the rest of the old one. -/
def mixL (zs xs : List Int) (k : Nat) : List Int := zs.take k ++ xs.drop k
theorem mixL_len (zs xs : List Int) (k : Nat) (h : zs.length = xs.length) (hk : k ≤ xs.length) : (mixL zs xs k).length = xs.length := by
  simp [mixL]; omega
theorem mixL_at (zs xs : List Int) (k : Nat) (h : zs.length = xs.length) (hk : k < xs.length) : (mixL zs xs k).getD k 0 = xs.getD k 0 := by
  simp only [mixL, List.getD_eq_getElem?_getD]
  rw [List.getElem?_append_right (by simp; omega), List.getElem?_drop]
  congr 2
  simp; omega
theorem mixL_set (zs xs : List Int) (k : Nat) (h : zs.length = xs.length) (hk : k < xs.length) : (mixL zs xs k).set k (zs.getD k 0) = mixL zs xs (k + 1) := by
  simp only [mixL]
  rw [List.drop_eq_getElem_cons hk, List.set_append_right _ _ (by simp; omega)]
  have e : k - (zs.take k).length = 0 := by simp; omega
  rw [e, List.set_cons_zero, List.take_succ_eq_append_getElem (by omega), List.append_assoc]
  simp [List.getD_eq_getElem?_getD, show k < zs.length by omega]
theorem ints_set (xs : List Int) (k : Nat) (z : Int) : (ints xs).set k (.int .i64 z) = ints (xs.set k z) := by simp [List.map_set]

end Go.Proofs.YtkmjmmnnnbjghaaGreat

/- clearColumn; the first number that is not 0. -/
namespace Go.Proofs.YtkmjmmnnnbjghaaGreat
set_option linter.unusedSimpArgs false
set_option linter.unusedVariables false
open Go.RowKit

/-- A row, cleared by another that was kept. -/
def clr (p : Int) (row : List Int) (f : Nat × List Int) : List Int :=
  if row.getD f.1 0 = 0 then row else zipI (clrF p (p - row.getD f.1 0)) row f.2

theorem own_cell {w : World} {B g cap : Nat} {xs : List Int} (h : Own w B (.slice (some ⟨g, 0, none⟩) xs.length cap) xs) (k : Nat) (hk : k < xs.length) : w.cell? ⟨g, k, none⟩ = some (.int .i64 (xs.getD k 0)) := by
  have h1 := World.ownsRow.cellAt h k (by omega)
  rw [h1]
  simp [List.getD_eq_getElem?_getD, hk]
theorem own_lt {w : World} {B g cap : Nat} {xs : List Int} {n : Nat} (h : Own w B (.slice (some ⟨g, 0, none⟩) n cap) xs) : B ≤ g ∧ g < w.heap.size := World.ownsRow.lt h g rfl
theorem own_kept {w w' : World} {B g cap : Nat} {xs : List Int} {n : Nat} (h : Own w B (.slice (some ⟨g, 0, none⟩) n cap) xs) (hb : Below w.heap.size w w') : Own w' B (.slice (some ⟨g, 0, none⟩) n cap) xs :=
  World.ownsRow.kept h (below_grown (r := none) hb) (Or.inr (by simp [Value.ownBlock]))

theorem belowThree {w : World} {A B C : Obj} : Below w.heap.size w (((w.alloc A).alloc B).alloc C) := belowTwo.trans (belowNew.mono (by simp; omega))

end Go.Proofs.YtkmjmmnnnbjghaaGreat

/- What was kept, in memory; the pure elimination. -/
namespace Go.Proofs.YtkmjmmnnnbjghaaGreat
set_option linter.unusedSimpArgs false
set_option linter.unusedVariables false
open Go.RowKit

/-- Where the first number stands that is not 0; the length: there is none. -/
def nz : List Int → Nat
  | [] => 0
  | x :: xs => if x = 0 then nz xs + 1 else 0
theorem nz_le : ∀ xs, nz xs ≤ xs.length
  | [] => Nat.le_refl _
  | x :: xs => by simp only [nz, List.length_cons]; split <;> have := nz_le xs <;> omega
theorem nz_at : ∀ xs : List Int, nz xs < xs.length → xs.getD (nz xs) 0 ≠ 0
  | [], h => by simp [nz] at h
  | x :: xs, h => by
    simp only [nz] at h ⊢
    by_cases hx : x = 0
    · rw [if_pos hx] at h ⊢
      have := nz_at xs (by simpa using h)
      simpa using this
    · rw [if_neg hx]; simpa using hx
theorem nz_before : ∀ (xs : List Int) (k : Nat), k < nz xs → xs.getD k 0 = 0
  | [], k, h => by simp [nz] at h
  | x :: xs, k, h => by
    simp only [nz] at h
    by_cases hx : x = 0
    · rw [if_pos hx] at h
      cases k with
      | zero => simpa using hx
      | succ k => have := nz_before xs k (by omega); simpa using this
    · rw [if_neg hx] at h; omega

def redL (p : Int) (row : List Int) (fs : List (Nat × List Int)) : List Int := fs.foldl (clr p) row
def scl (p s : Int) (xs : List Int) : List Int := xs.map fun x => x * s % p
def stepP (p : Int) (fs : List (Nat × List Int)) (row : List Int) : List (Nat × List Int) :=
  if nz (redL p row fs) = (redL p row fs).length then fs else fs ++ [(nz (redL p row fs), scl p (invI p ((redL p row fs).getD (nz (redL p row fs)) 0)) (redL p row fs))]
def pivs (p : Int) (rows : List (List Int)) : List (Nat × List Int) := rows.foldl (stepP p) []

/-- A row of n numbers modulo p. -/
def RowOk (p : Int) (n : Nat) (xs : List Int) : Prop := xs.length = n ∧ ∀ x ∈ xs, 0 ≤ x ∧ x < p
theorem zip_ok {p t : Int} {n : Nat} {xs ys : List Int} (hp : 2 ≤ p) (hx : RowOk p n xs) (hy : RowOk p n ys) : RowOk p n (zipI (clrF p t) xs ys) := by
  refine ⟨by rw [zipI_len _ _ _ (by rw [hx.1, hy.1]), hx.1], ?_⟩
  have hl : xs.length = ys.length := by rw [hx.1, hy.1]
  clear hx hy
  induction xs generalizing ys with
  | nil => intro x hx; simp [zipI] at hx
  | cons x xs ih => cases ys with
    | nil => simp at hl
    | cons y ys =>
      intro z hz
      simp only [zipI, List.mem_cons] at hz
      rcases hz with rfl | hz
      · exact ⟨Int.emod_nonneg _ (by omega), Int.emod_lt_of_pos _ (by omega)⟩
      · exact ih (by simpa using hl) z hz
theorem clr_ok {p : Int} {n : Nat} {xs : List Int} {f : Nat × List Int} (hp : 2 ≤ p) (hx : RowOk p n xs) (hf : RowOk p n f.2) : RowOk p n (clr p xs f) := by
  unfold clr; split
  · exact hx
  · exact zip_ok hp hx hf
theorem redL_ok {p : Int} {n : Nat} (hp : 2 ≤ p) : ∀ (fs : List (Nat × List Int)) (xs : List Int), RowOk p n xs → (∀ f ∈ fs, RowOk p n f.2) → RowOk p n (redL p xs fs)
  | [], xs, hx, _ => hx
  | f :: fs, xs, hx, hf => redL_ok hp fs (clr p xs f) (clr_ok hp hx (hf f (by simp))) (fun g hg => hf g (by simp [hg]))
theorem scl_ok {p s : Int} {n : Nat} {xs : List Int} (hp : 2 ≤ p) (hx : RowOk p n xs) : RowOk p n (scl p s xs) := by
  refine ⟨by simp [scl, hx.1], fun x h => ?_⟩
  simp only [scl, List.mem_map] at h
  obtain ⟨y, _, rfl⟩ := h
  exact ⟨Int.emod_nonneg _ (by omega), Int.emod_lt_of_pos _ (by omega)⟩
def PivOk (p : Int) (n : Nat) (f : Nat × List Int) : Prop := f.1 < n ∧ RowOk p n f.2
theorem stepP_ok {p : Int} {n : Nat} {fs : List (Nat × List Int)} {row : List Int} (hp : 2 ≤ p) (hf : ∀ f ∈ fs, PivOk p n f) (hr : RowOk p n row) : ∀ f ∈ stepP p fs row, PivOk p n f := by
  have h1 := redL_ok hp fs row hr (fun f h => (hf f h).2)
  have h2 := nz_le (redL p row fs)
  intro f hfm
  unfold stepP at hfm
  by_cases hz : nz (redL p row fs) = (redL p row fs).length
  · rw [if_pos hz] at hfm; exact hf f hfm
  · rw [if_neg hz] at hfm
    rw [List.mem_append] at hfm
    rcases hfm with hfm | hfm
    · exact hf f hfm
    · rw [List.mem_singleton] at hfm
      rw [hfm]
      exact ⟨show nz (redL p row fs) < n by rw [← h1.1]; omega, scl_ok hp h1⟩
theorem redL_take {p : Int} {row : List Int} {fs : List (Nat × List Int)} {k : Nat} (h : k < fs.length) : redL p row (fs.take (k + 1)) = clr p (redL p row (fs.take k)) fs[k] := by
  unfold redL
  rw [List.take_succ_eq_append_getElem h, List.foldl_append]
  rfl

/-! In memory. -/
abbrev Piv := (Nat × List Int) × Value
def qcells : List Piv → List Value
  | [] => []
  | q :: r => .int .i64 q.1.1 :: q.2 :: qcells r
theorem qcells_len : ∀ qs, (qcells qs).length = qs.length * 2
  | [] => rfl
  | q :: r => by simp only [qcells, List.length_cons, qcells_len r]; omega
theorem qcells_at : ∀ (qs : List Piv) (k : Nat) (h : k < qs.length), (qcells qs)[2 * k]? = some (.int .i64 qs[k].1.1) ∧ (qcells qs)[2 * k + 1]? = some qs[k].2
  | [], k, h => by simp at h
  | q :: r, 0, h => by simp [qcells]
  | q :: r, k + 1, h => by
    have := qcells_at r k (by simpa using h)
    have e : 2 * (k + 1) = 2 * k + 1 + 1 := by omega
    rw [e]
    simpa [qcells] using this
theorem qcells_snoc (qs : List Piv) (q : Piv) : qcells (qs ++ [q]) = qcells qs ++ [.int .i64 q.1.1, q.2] := by
  induction qs with
  | nil => rfl
  | cons a r ih => simp [qcells, ih]

theorem ownBlock_lt {w : World} {B : Nat} {T : TypeId} {s : Nat} {v : Value} {n : Nat} {xs : List Value} (h : w.ownsRow B T s v n xs) {w' : World} (hb : Below w.heap.size w w') : w'.ownsRow B T s v n xs := by
  cases ho : v.ownBlock with
  | none => exact h.kept (below_grown (r := none) hb) (Or.inl ho)
  | some k => exact h.kept (below_grown (r := none) hb) (Or.inr (by rw [ho]; simp))
theorem own_base {w : World} {B B' : Nat} {T : TypeId} {s : Nat} {v : Value} {n : Nat} {xs : List Value} (h : w.ownsRow B T s v n xs) (hb : B' ≤ B) : w.ownsRow B' T s v n xs := by
  refine ⟨h.1, ?_⟩
  rcases h.2 with h1 | ⟨g, c, cur, h1, h2, h3⟩
  · exact .inl h1
  · exact .inr ⟨g, c, cur, h1, Nat.le_trans hb h2, h3⟩
end Go.Proofs.YtkmjmmnnnbjghaaGreat

/- clone, of terms. -/
namespace Go.Proofs.YtkmjmmnnnbjghaaGreat
set_option linter.unusedSimpArgs false
set_option linter.unusedVariables false
open Go.RowKit

/-- A slice that lies elsewhere. -/
def Apart (g : Nat) (v : Value) : Prop := ∀ b off n c, v = .slice (some ⟨b, off, none⟩) n c → b ≠ g
/-- A row of n terms, the first ones of which are made. -/
structure Half (w : World) (wr : World) (g n : Nat) (us : List TV) : Prop where
  own : ∃ rest, wr.ownsRow w.heap.size 57 2 (.slice (some ⟨g, 0, none⟩) n n) n (flat us ++ rest) ∧ (flat us ++ rest).length = n * 2
  es : Es wr us
  apart : ∀ t ∈ us, Apart g t.2.1
  below : Below w.heap.size w wr
  ge : w.heap.size ≤ g
theorem Half.next {w wr w' : World} {g n : Nat} {us : List TV} (h : Half w wr g n us) (hb : Below wr.heap.size wr w') : Half w w' g n us := by
  obtain ⟨rest, h1, h2⟩ := h.own
  exact ⟨⟨rest, ownBlock_lt h1 hb, h2⟩, h.es.below hb, h.apart, h.below.trans (hb.mono h.below.size), h.ge⟩
theorem Half.lt {w wr : World} {g n : Nat} {us : List TV} (h : Half w wr g n us) : g < wr.heap.size := by
  obtain ⟨rest, h1, _⟩ := h.own
  exact (World.ownsRow.lt h1 g rfl).2
theorem Half.cells {w wr : World} {g n : Nat} {us : List TV} (h : Half w wr g n us) (hk : us.length < n) :
    ∃ a b, wr.cell? ⟨g, us.length * 2, none⟩ = some a ∧ wr.cell? ⟨g, us.length * 2 + 1, none⟩ = some b ∧ wr.frozen? ⟨g, us.length * 2, none⟩ = false ∧ wr.frozen? ⟨g, us.length * 2 + 1, none⟩ = false := by
  obtain ⟨rest, h1, h2⟩ := h.own
  have e1 := h1.cellAt (us.length * 2) (by omega)
  have e2 := h1.cellAt (us.length * 2 + 1) (by omega)
  rw [List.getElem?_eq_getElem (by omega)] at e1 e2
  exact ⟨_, _, e1, e2, h1.frozenAt _, h1.frozenAt _⟩
theorem set_two (l : List Value) (a b : Value) : ∀ r : List Value, 2 ≤ r.length → ((l ++ r).set l.length a).set (l.length + 1) b = l ++ [a, b] ++ r.drop 2
  | [], h => by simp at h
  | [_], h => by simp at h
  | x :: y :: r, _ => by simp [List.set_append_right]
/-- The next term is laid. -/
theorem Half.put {w wr : World} {g n : Nat} {us : List TV} (h : Half w wr g n us) (hk : us.length < n) (t : TV) (hs : Sl wr t.2.1 t.2.2) (ha : Apart g t.2.1) :
    Half w ((wr.setCell ⟨g, us.length * 2, none⟩ (.int .i64 t.1)).setCell ⟨g, us.length * 2 + 1, none⟩ t.2.1) g n (us ++ [t]) := by
  obtain ⟨rest, h1, h2⟩ := h.own
  have s1 := h1.stored (us.length * 2) (.int .i64 t.1)
  have s2 := s1.1.stored (us.length * 2 + 1) t.2.1
  have hg := grown_trans s1.2 s2.2
  rw [List.length_append, flat_len] at h2
  refine ⟨⟨rest.drop 2, ?_, ?_⟩, ?_, ?_, h.below.trans (grown_below hg h.ge h.below.size), h.ge⟩
  · have e := set_two (flat us) (.int .i64 t.1) t.2.1 rest (by omega)
    rw [flat_len] at e
    have := s2.1
    rw [e] at this
    rw [flat_append]
    exact this
  · rw [List.length_append, flat_len, List.length_drop, List.length_append]; simp; omega
  · intro u hu
    rcases List.mem_append.1 hu with hu | hu
    · exact grown_sl hg (h.es u hu) (h.apart u hu)
    · rw [List.mem_singleton] at hu; subst hu
      exact grown_sl hg hs ha
  · intro u hu
    rcases List.mem_append.1 hu with hu | hu
    · exact h.apart u hu
    · rw [List.mem_singleton] at hu; subst hu; exact ha
theorem Half.drawn {w wr : World} {g n : Nat} {us : List TV} (h : Half w wr g n us) : Half w wr.drew g n us := h.next (Below.refl _ _).drew
theorem Half.done {w wr : World} {g n : Nat} {us : List TV} (h : Half w wr g n us) (hn : us.length = n) : Pl wr (.slice (some ⟨g, 0, none⟩) n n) (us.map tm) := by
  obtain ⟨rest, h1, h2⟩ := h.own
  rw [List.length_append, flat_len] at h2
  have e : rest = [] := List.length_eq_zero_iff.1 (by omega)
  rw [e, List.append_nil] at h1
  subst hn
  exact own_pl h1 h.es
theorem Half.made {w w' : World} {n : Nat} {z : Array Value} (h : w'.ownsRow w.heap.size 57 2 (.slice (some ⟨w.heap.size, 0, none⟩) n n) n (madeCells z (n * 2)).toList) (hg : w.grownBy w' none) : Half w w' w.heap.size n [] :=
  ⟨⟨(madeCells z (n * 2)).toList, h, by simp [flat, size_madeCells]⟩, fun t ht => by simp at ht, fun t ht => by simp at ht, ⟨hg.os, hg.tape, hg.output, hg.size, fun k hk => hg.block k hk (by simp)⟩, Nat.le_refl _⟩

theorem take_tm (us : List TV) (k : Nat) (h : k < us.length) : (us.take (k + 1)).map tm = (us.take k).map tm ++ [tm (us.getD k noTV)] := by
  rw [List.take_succ_eq_append_getElem h, List.map_append]
  simp [List.getD_eq_getElem?_getD, h]
theorem own_sl' {w : World} {B : Nat} {T : TypeId} {s : Nat} {v : Value} {n : Nat} {xs : List Value} (h : w.ownsRow B T s v n xs) : ∃ a c, v = .slice a n c := by
  rcases h.2 with ⟨h1, h2⟩ | ⟨g, c, cur, h1, _⟩
  · exact ⟨none, 0, by rw [h1, h2]⟩
  · exact ⟨_, c, h1⟩
theorem ownsRow_slI {w : World} {B : Nat} {v : Value} {zs : List Int} (h : Own w B v zs) : Sl w v zs := by
  obtain ⟨_, h | ⟨g, cap, cur, rfl, hg, hh, hn, hm, hcs, ht⟩⟩ := h
  · obtain ⟨rfl, h0⟩ := h
    refine ⟨none, 0, by rw [h0], fun hp => absurd hp (by omega)⟩
  · refine ⟨_, cap, rfl, fun _ => ⟨g, 0, rfl, ?_, fun i hi => ?_⟩⟩
    · apply Nat.lt_of_not_le; intro hle; rw [Array.getElem?_eq_none hle] at hh; simp at hh
    · have e : cur.toList[i]? = some (.int .i64 (zs.getD i 0)) := by
        have h1 : (cur.toList.take (zs.length * 1))[i]? = (zs.map (Value.int .i64))[i]? := by rw [ht]
        rw [List.getElem?_take, if_pos (by omega), List.getElem?_map] at h1
        rw [h1, List.getD_eq_getElem?_getD, List.getElem?_eq_getElem hi]; rfl
      unfold World.cell?
      simp only [hh, Nat.zero_add]
      simpa using e
theorem own_apart {w : World} {B g : Nat} {v : Value} {zs : List Int} (h : Own w B v zs) (hg : g < B) : Apart g v := by
  intro b off n c e hb
  have hv : v.ownBlock = some b := by rw [e]; rfl
  have := (World.ownsRow.lt h b hv).1
  omega

set_option maxHeartbeats 1000000 in
theorem bareClone_any (v : Value) (ts : List Tm) (w : World) (hm : ts.length ≤ 1200000000000) (hl : ∀ t ∈ ts, t.2.length ≤ 400) (hs : Pl w v ts) :
    Calls Tryz.prog 116 #[v] w fun e w' => ∃ u, e = .returned u ∧ Pl w' u ts ∧ Below w.heap.size w w' := by
  obtain ⟨a, cap, us, rfl, _, hus, hes, hcs⟩ := hs.tvs
  have hul : us.length = ts.length := by rw [← hus, List.length_map]
  have HUS := hid hus
  have HES := hid hes
  have HCS := hid hcs
  have HL := hid hl
  have hm' : us.length ≤ 1200000000000 := by omega
  clear hs hus hes hcs hl hm hul
  obtain ⟨i0, hi, hz0, hz1, hz2⟩ := info_parts Tryz.infoTerm
  go_enter Tryz.func116, Tryz.ntmps116
  go_wp2_with (at_make; refine wpList_make_full _ rfl _ _ 54 rfl w.heap.size 57 i0 _ 2 Tryz.underlying54 hi hz0 hz1 .i64 .i64 _ _ us.length rfl rfl rfl rfl (by rw [hz2]; omega) (by unfold maxLen; omega) (Nat.le_refl _) ?_; intro w1 hown hgrow; have HH := hid (Half.made hown hgrow); clear hown hgrow)
  clear hi hz0 hz1 hz2
  go_loopw [11] (fun i wr => ∃ k : Nat, k ≤ us.length ∧ i = .int .i64 k ∧ ∃ vs : List TV, vs.length = k ∧ vs.map tm = (us.take k).map tm ∧ Half w wr w.heap.size us.length vs) (fun i _ => us.length - (intOf i).toNat)
  case atStart => exact ⟨0, Nat.zero_le _, rfl, [], rfl, rfl, HH.out⟩
  case round =>
    clear HH
    obtain ⟨k, hk, rfl, vs, hvk, hvt, hh⟩ := hrel
    have HH := hid hh
    clear hh
    by_cases hk2 : k < us.length
    · obtain ⟨b, off, rfl, hlt, hcell⟩ := HCS.out (by omega)
      have hf := flat_at us k hk2
      have c0 := hcell _ _ hf.1
      have c1 := hcell _ _ hf.2
      rw [← HH.out.below.cell (p := ⟨b, off + k * 2, none⟩) hlt] at c0
      rw [← Nat.add_assoc, ← HH.out.below.cell (p := ⟨b, off + k * 2 + 1, none⟩) hlt] at c1
      have HSL := hid (HES.out _ (tv_mem us k hk2))
      have HT := hid (take_tm us k hk2)
      have HLE := hid (HL.out (tm (us.getD k noTV)) (by rw [← HUS.out]; exact List.mem_map_of_mem (tv_mem us k hk2)))
      generalize us.getD k noTV = t at c0 c1 HSL HT HLE
      obtain ⟨tc, tv, te⟩ := t
      obtain ⟨ea, ec, he, _⟩ := HSL.out
      simp only at c0 c1 he
      subst he
      subst hvk
      clear hf hcell
      have H1 := hid (HH.out.next (belowNew (A := .cells #[.int .i64 tc, .slice ea te.length ec] 57)))
      have HB1 := hid (HH.out.below.trans ((belowNew (w := wr) (A := .cells #[.int .i64 tc, .slice ea te.length ec] 57)).mono HH.out.below.size))
      have D0 : Hid ((wr.alloc (.cells #[.int .i64 tc, .slice ea te.length ec] 57)).drew.cell? ⟨wr.heap.size, 0, none⟩ = some (.int .i64 tc)) := by show _ = _; simp [go_sem]
      go_wp2
      go_region_with (go_at_call 78; refine (clone_any _ te _ HLE.out ((HSL.out.below HB1.out).below (Below.refl _ _).drew)).mono ?_; rintro e w9 ⟨u, rfl, hu, hb9⟩; have HH9 := hid (H1.out.drawn.next hb9); have HU := hid (And.intro (ownsRow_slI hu) (own_apart hu (H1.out.drawn.lt))); obtain ⟨x0, x1, y0, y1, z0, z1⟩ := HH9.out.cells hk2; have d0 := D0.out; rw [← hb9.cell (by simp)] at d0; obtain ⟨ua, uc, rfl⟩ := own_sl' hu; clear hb9 hu)
      all_goals
        go_wp2
        go_roundw
        case rel => exact ⟨vs.length + 1, by omega, by go_num, vs ++ [_], by simp, by rw [List.map_append, hvt, HT.out]; rfl, HH9.out.put hk2 (tc, _, te) HU.out.1 HU.out.2⟩
        case measure => simp [intOf]; omega
    · have e : k = us.length := by omega
      subst e
      go_wp2
      go_ret
      refine ⟨_, rfl, ?_, HH.out.below⟩
      have h := HH.out.done hvk
      rw [hvt, List.take_of_length_le (Nat.le_refl _), HUS.out] at h
      exact h

end Go.Proofs.YtkmjmmnnnbjghaaGreat

/- scale, by a term. -/
namespace Go.Proofs.YtkmjmmnnnbjghaaGreat
set_option linter.unusedSimpArgs false
set_option linter.unusedVariables false
open Go.RowKit

theorem prodT_take (p : Int) (b : Tm) (us : List TV) (k : Nat) (h : k < us.length) : prodT p b ((us.take (k + 1)).map tm) = prodT p b ((us.take k).map tm) ++ [(b.1 * (us.getD k noTV).1 % p, zipI (· + ·) b.2 (us.getD k noTV).2.2)] := by
  rw [take_tm us k h]; simp [prodT, tm]
theorem Half.down {w w2 wr : World} {g n : Nat} {us : List TV} (h : Half w2 wr g n us) (hb : Below w.heap.size w w2) : Below w.heap.size w wr := hb.trans (h.below.mono hb.size)
theorem mulBd {a b : Int} (h : 0 ≤ a ∧ a ≤ 101 ∧ 0 ≤ b ∧ b ≤ 101) : 0 ≤ a * b ∧ a * b ≤ 10201 := by
  obtain ⟨h1, h2, h3, h4⟩ := h
  refine ⟨Int.mul_nonneg h1 h3, ?_⟩
  have := Int.mul_le_mul h2 h4 h3 (by omega : (0 : Int) ≤ 101)
  omega

theorem scaleStart {w w1 : World} {p n o v bc : Int} {bv : Value} {T1 T2 : TypeId} {m : Nat} {z : Array Value}
    (h : w1.ownsRow (w.heap.size + 1 + 1) 57 2 (.slice (some ⟨((w.alloc (.cells #[.int .i64 p, .int .i64 n, .int .i64 o, .int .i64 v] T1)).alloc (.cells #[.int .i64 bc, bv] T2)).heap.size, 0, none⟩) m m) m (madeCells z (m * 2)).toList)
    (hg : ((w.alloc (.cells #[.int .i64 p, .int .i64 n, .int .i64 o, .int .i64 v] T1)).alloc (.cells #[.int .i64 bc, bv] T2)).grownBy w1 none) :
    ∃ w2, Below w.heap.size w w2 ∧ w2.heap.size = w.heap.size + 1 + 1 ∧ w2.cell? ⟨w.heap.size, 0, none⟩ = some (.int .i64 p) ∧ w2.cell? ⟨w.heap.size + 1, 0, none⟩ = some (.int .i64 bc) ∧ w2.cell? ⟨w.heap.size + 1, 1, none⟩ = some bv ∧ Half w2 w1 (w.heap.size + 1 + 1) m [] := by
  refine ⟨(w.alloc (.cells #[.int .i64 p, .int .i64 n, .int .i64 o, .int .i64 v] T1)).alloc (.cells #[.int .i64 bc, bv] T2), below_two, by simp, by simp [go_sem], by simp [go_sem], by simp [go_sem], ?_⟩
  have e : ((w.alloc (.cells #[.int .i64 p, .int .i64 n, .int .i64 o, .int .i64 v] T1)).alloc (.cells #[.int .i64 bc, bv] T2)).heap.size = w.heap.size + 1 + 1 := by simp
  have k := Half.made (w := (w.alloc (.cells #[.int .i64 p, .int .i64 n, .int .i64 o, .int .i64 v] T1)).alloc (.cells #[.int .i64 bc, bv] T2)) (n := m) (z := z) (by rw [e]; rw [e] at h; exact h) hg
  rw [e] at k
  exact k

set_option maxHeartbeats 2000000 in
theorem bareScale_any (p n o v bc : Int) (bv : Value) (be : List Int) (fv : Value) (ts : List Tm) (w : World) (hp : 2 ≤ p ∧ p ≤ 101) (hbc : 0 ≤ bc ∧ bc < p) (h0 : 0 < be.length) (hbl : be.length ≤ 3)
    (hbe : ∀ x ∈ be, 0 ≤ x ∧ x ≤ 20000) (hts : ∀ t ∈ ts, t.2.length = be.length ∧ (∀ x ∈ t.2, 0 ≤ x ∧ x ≤ 20000) ∧ 0 ≤ t.1 ∧ t.1 < p) (hm : ts.length ≤ 1200000000000) (hs : Sl w bv be) (hf : Pl w fv ts) :
    Calls Tryz.prog 130 #[ringV p n o v, .agg #[.int .i64 bc, bv], fv] w fun e w' => ∃ u, e = .returned u ∧ Pl w' u (prodT p (bc, be) ts) ∧ Below w.heap.size w w' := by
  obtain ⟨a, cap, us, rfl, _, hus, hes, hcs⟩ := hf.tvs
  obtain ⟨ba, bcap, rfl, hbs⟩ := hs
  obtain ⟨bb, boff, rfl, hblt, hbint⟩ := hbs h0
  have hul : us.length = ts.length := by rw [← hus, List.length_map]
  have HUS := hid hus
  have HES := hid hes
  have HCS := hid hcs
  have HBE := hid hbe
  have HBI := hid hbint
  have HTS : Hid (∀ t ∈ us, t.2.2.length = be.length ∧ (∀ x ∈ t.2.2, 0 ≤ x ∧ x ≤ 20000) ∧ 0 ≤ t.1 ∧ t.1 < p) := fun t ht => hts (tm t) (by rw [← hus]; exact List.mem_map_of_mem ht)
  have hm' : us.length ≤ 1200000000000 := by omega
  clear hf hus hes hcs hts hm hul hbs hbe hbint
  obtain ⟨i0, hi, hz0, hz1, hz2⟩ := info_parts Tryz.infoTerm
  obtain ⟨hp1, hp2⟩ := hp
  obtain ⟨hc1, hc2⟩ := hbc
  go_enter Tryz.func130, Tryz.ntmps130
  go_wp2_with (at_make; refine wpList_make_full _ rfl _ _ 54 rfl (w.heap.size + 1 + 1) 57 i0 _ 2 Tryz.underlying54 hi hz0 hz1 .i64 .i64 _ _ us.length rfl rfl rfl rfl (by rw [hz2]; omega) (by unfold maxLen; omega) (by simp) ?_; intro w1 hown hgrow; have HX := hid (scaleStart hown hgrow); clear hown hgrow)
  clear hi hz0 hz1 hz2
  obtain ⟨w2, hb2, hsz, kp, kc, kv, hh⟩ := HX.out
  have HB2 := hid hb2
  have HK := hid (And.intro hsz (And.intro kp (And.intro kc kv)))
  have HH0 := hid hh
  clear HX hb2 hsz kp kc kv hh
  go_loopw [17] (fun i wr => ∃ k : Nat, k ≤ us.length ∧ i = .int .i64 k ∧ ∃ vs : List TV, vs.length = k ∧ vs.map tm = prodT p (bc, be) ((us.take k).map tm) ∧ Half w2 wr (w.heap.size + 1 + 1) us.length vs) (fun i _ => us.length - (intOf i).toNat)
  case atStart => exact ⟨0, Nat.zero_le _, rfl, [], rfl, rfl, HH0.out⟩
  case round =>
    clear HH0
    obtain ⟨wo, hwo⟩ : ∃ wo : World, wo = wr := ⟨_, rfl⟩
    subst hwo
    obtain ⟨k, hk, rfl, vs, hvk, hvt, hh⟩ := hrel
    have HH := hid hh
    clear hh
    by_cases hk2 : k < us.length
    · obtain ⟨b, off, rfl, hlt, hcell⟩ := HCS.out (by omega)
      have hf := flat_at us k hk2
      have c0 := hcell _ _ hf.1
      have c1 := hcell _ _ hf.2
      have HDN := hid (HH.out.down HB2.out)
      rw [← HDN.out.cell (p := ⟨b, off + k * 2, none⟩) hlt] at c0
      rw [← Nat.add_assoc, ← HDN.out.cell (p := ⟨b, off + k * 2 + 1, none⟩) hlt] at c1
      have HSL := hid (HES.out _ (tv_mem us k hk2))
      have HT := hid (prodT_take p (bc, be) us k hk2)
      have HLE := hid (HTS.out _ (tv_mem us k hk2))
      generalize us.getD k noTV = t at c0 c1 HSL HT HLE
      obtain ⟨tc, tv, te⟩ := t
      obtain ⟨ea, ec, he, hei⟩ := HSL.out
      simp only at c0 c1 he
      subst he
      subst hvk
      have hte : te.length ≤ 3 := by have := HLE.out.1; simp only at this; omega
      have hte0 : 0 < te.length := by have := HLE.out.1; simp only at this; omega
      obtain ⟨eb, eoff, rfl, helt, heint⟩ := hei hte0
      have HEI := hid heint
      clear hf hcell hei heint
      -- the world with the term's own box
      obtain ⟨w3, hw3⟩ : ∃ w3, w3 = wo.alloc (.cells #[.int .i64 tc, .slice (some ⟨eb, eoff, none⟩) te.length ec] 57) := ⟨_, rfl⟩
      have hb3 : Below wo.heap.size wo w3 := by rw [hw3]; exact belowNew
      have hs3 : w3.heap.size = wo.heap.size + 1 := by rw [hw3]; simp
      have q0 : w3.cell? ⟨wo.heap.size, 0, none⟩ = some (.int .i64 tc) := by rw [hw3]; simp [go_sem]
      have q1 : w3.cell? ⟨wo.heap.size, 1, none⟩ = some (.slice (some ⟨eb, eoff, none⟩) te.length ec) := by rw [hw3]; simp [go_sem]
      have hwl : w.heap.size + 1 + 1 < wo.heap.size := HH.out.lt
      have H3 := hid (HH.out.next hb3)
      have HD3 := hid (HDN.out.trans (hb3.mono HDN.out.size))
      have HQ := hid (And.intro q0 q1)
      have HS3 := hid (And.intro hs3 hwl)
      have HB3 := hid hb3
      have HW3 := hid hw3
      clear q0 q1 hs3 hwl hb3 hw3
      have HLZ := hid (zipI_len (· + ·) be te HLE.out.1.symm)
      have hmk := fun (w : World) => run_make_row' (P := Tryz.prog) 55 3 (.int .i64 0) 8 Tryz.underlying55 Tryz.info_int rfl .i64 .i64 te.length (by omega) (by omega) w
      go_wp2
      clear hmk c0 c1
      go_loopw [28] (fun i wx => ∃ j : Nat, j ≤ te.length ∧ i = .int .i64 j ∧ OwnK w3 wx te.length j (zipI (· + ·) be te)) (fun i _ => te.length - (intOf i).toNat)
      case atStart => exact ⟨0, Nat.zero_le _, rfl, by rw [HW3.out]; exact OwnK.start _ _ _⟩
      case round =>
        obtain ⟨j, hj, rfl, hown⟩ := hrel
        have HO := hid hown
        clear hown
        by_cases hj2 : j < te.length
        · have hjb : j < be.length := by have := HLE.out.1; omega
          have HXD := hid (HD3.out.trans (HO.out.1.mono HD3.out.size))
          have x0 := HBI.out j hjb
          have x1 := HEI.out j hj2
          have HZ := hid (zipI_at (· + ·) be te HLE.out.1.symm j hjb)
          have hx := HBE.out _ (getD_mem be j hjb)
          have hy := HLE.out.2.1 _ (getD_mem te j hj2)
          generalize be.getD j 0 = x at x0 HZ hx
          generalize te.getD j 0 = y at x1 HZ hy
          rw [← HXD.out.cell (p := ⟨bb, boff + j, none⟩) hblt] at x0
          rw [← HXD.out.cell (p := ⟨eb, eoff + j, none⟩) helt] at x1
          have b1 := HK.out.2.2.2
          rw [← H3.out.below.cell (p := ⟨w.heap.size + 1, 1, none⟩) (by rw [HK.out.1]; simp), ← HO.out.1.cell (p := ⟨w.heap.size + 1, 1, none⟩) (by have := HS3.out; simp only; omega)] at b1
          have b2 := HQ.out.2
          rw [← HO.out.1.cell (p := ⟨wo.heap.size, 1, none⟩) (by have := HS3.out; simp only; omega)] at b2
          obtain ⟨hsome, hfr⟩ := HO.out.2.2.1 j hj2
          rw [HS3.out.1] at hsome hfr
          obtain ⟨u, hu⟩ := Option.isSome_iff_exists.1 hsome
          obtain ⟨hx1, hx2⟩ := hx
          obtain ⟨hy1, hy2⟩ := hy
          clear hsome
          go_wp2
          go_region
          all_goals
            go_wp2
            go_roundw
            case rel => exact ⟨j + 1, by omega, by go_num, by have h := (HO.out.step hj2 _ HZ.out.symm).drawn; rw [HS3.out.1] at h; exact h⟩
            case measure => simp [intOf]; omega
        · have e : j = te.length := by omega
          subst e
          have HXB := hid (HB3.out.trans (HO.out.1.mono HB3.out.size))
          have HHx := hid (HH.out.next HXB.out)
          have HSx : Hid (Sl wr (.slice (some ⟨wo.heap.size + 1, 0, none⟩) te.length te.length) (zipI (· + ·) be te)) := by
            have h : OwnK w3 wr (zipI (· + ·) be te).length (zipI (· + ·) be te).length (zipI (· + ·) be te) := by rw [HLZ.out, ← HLE.out.1]; exact HO.out
            have h2 := h.sl
            rw [HS3.out.1, HLZ.out, ← HLE.out.1] at h2
            exact h2
          have b0 := HK.out.2.2.1
          rw [← H3.out.below.cell (p := ⟨w.heap.size + 1, 0, none⟩) (by rw [HK.out.1]; simp), ← HO.out.1.cell (p := ⟨w.heap.size + 1, 0, none⟩) (by have := HS3.out; simp only; omega)] at b0
          have r0 := HK.out.2.1
          rw [← H3.out.below.cell (p := ⟨w.heap.size, 0, none⟩) (by rw [HK.out.1]; simp; omega), ← HO.out.1.cell (p := ⟨w.heap.size, 0, none⟩) (by have := HS3.out; simp only; omega)] at r0
          have t0 := HQ.out.1
          rw [← HO.out.1.cell (p := ⟨wo.heap.size, 0, none⟩) (by have := HS3.out; simp only; omega)] at t0
          obtain ⟨x0, x1, y0, y1, z0, z1⟩ := HHx.out.cells hk2
          have hmul := mulBd (a := bc) (b := tc) ⟨by omega, by omega, HLE.out.2.2.1, by have := HLE.out.2.2.2; omega⟩
          obtain ⟨hm1, hm2⟩ := hmul
          have HAP : Hid (Apart (w.heap.size + 1 + 1) (.slice (some ⟨wo.heap.size + 1, 0, none⟩) te.length te.length)) := by
            intro b' off' n' c' e' hb'
            simp only [Value.slice.injEq, Option.some.injEq, Addr.mk.injEq] at e'
            have := HS3.out.2
            omega
          go_wp2
          go_roundw
          case rel => exact ⟨vs.length + 1, by omega, by go_num, vs ++ [_], by simp, by rw [List.map_append, hvt, HT.out]; rfl, HHx.out.put hk2 (bc * tc % p, _, zipI (· + ·) be te) HSx.out HAP.out⟩
          case measure => simp [intOf]; omega
    · have e : k = us.length := by omega
      subst e
      go_wp2
      go_ret
      refine ⟨_, rfl, ?_, HH.out.down HB2.out⟩
      have h := HH.out.done hvk
      rw [hvt, List.take_of_length_le (Nat.le_refl _), HUS.out] at h
      exact h

end Go.Proofs.YtkmjmmnnnbjghaaGreat
