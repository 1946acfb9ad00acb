/- Numbers modulo a prime: the closures; looking through numbers. -/
import Derived.Test.YtilogbggilchaaaGreatA
import Derived.Deep.DeepCutAuto
import Derived.Lib.SliceRun
namespace Go.Proofs.YtilogbggilchaaaGreat
set_option linter.unusedSimpArgs false
set_option linter.unusedVariables false
open Go.RowKit
def outP (p x : Int) : Bool := decide (x < 0 ∨ p ≤ x)

theorem mul_bd {a b : Int} (h : 0 ≤ a ∧ a ≤ 200 ∧ 0 ≤ b ∧ b ≤ 200) : 0 ≤ a * b ∧ a * b ≤ 40000 := by
  obtain ⟨h1, h2, h3, h4⟩ := h
  refine ⟨Int.mul_nonneg h1 h3, ?_⟩
  have : a * b ≤ 200 * 200 := Int.mul_le_mul h2 h4 h3 (by omega)
  omega

set_option maxHeartbeats 400000 in
theorem outFn_any (p x : Int) (b : Nat) (w : World) (hb : w.cell? ⟨b, 0, none⟩ = some (.int .i64 p)) :
    Calls Tryz.prog 152 #[.int .i64 x, .pointer (some ⟨b, 0, none⟩)] w fun e w' => e = .returned (.bool (outP p x)) ∧ w' = w := by
  unfold outP
  by_cases h : x < 0
  · go_enter Tryz.func152, Tryz.ntmps152
    go_wp2
    go_ret
    exact ⟨by simp [h], rfl⟩
  · go_enter Tryz.func152, Tryz.ntmps152
    go_wp2
    go_ret
    exact ⟨by simp; omega, rfl⟩

set_option maxHeartbeats 400000 in
theorem indexOut_any (p : Int) (xs : List Int) (b off cap pb : Nat) (w : World) (hm : xs.length ≤ 400) (hc : IntsAt w b off xs) (hp : w.cell? ⟨pb, 0, none⟩ = some (.int .i64 p)) :
    Calls Tryz.prog 110 #[.slice (some ⟨b, off, none⟩) xs.length cap, .func (.func 152) #[] #[.pointer (some ⟨pb, 0, none⟩)]] w fun e w' =>
      ∃ r : Int, e = .returned (.int .i64 r) ∧ decide (0 ≤ r) = xs.any (outP p) ∧ w' = w := by
  have HC := hid hc
  have HP := hid hp
  clear hc hp
  go_enter Tryz.func110, Tryz.ntmps110
  go_wp2
  go_loop [8] (fun i => ∃ k : Nat, k ≤ xs.length ∧ i = .int .i64 k ∧ (xs.take k).any (outP p) = false) (fun i => xs.length - (intOf i).toNat)
  case atStart => exact ⟨0, Nat.zero_le _, rfl, by simp⟩
  case round =>
    obtain ⟨k, hk, rfl, hn⟩ := hrel
    have HN := hid hn
    clear hn
    by_cases hlt : k < xs.length
    · have hcell := HC.out k hlt
      have H1 := hid (any_take (outP p) xs k hlt HN.out)
      have H2 := hid (any_at (outP p) xs k hlt)
      generalize xs.getD k 0 = y at hcell H1 H2
      cases hy : outP p y
      · go_wp2_with (go_at_call 152; refine (outFn_any p _ _ _ HP.out).mono ?_; rintro e w' ⟨rfl, rfl⟩)
        go_round
        case rel => exact ⟨k + 1, by omega, by go_num, H1.out hy⟩
        case measure => simp [intOf]; omega
      · go_wp2_with (go_at_call 152; refine (outFn_any p _ _ _ HP.out).mono ?_; rintro e w' ⟨rfl, rfl⟩)
        go_ret
        exact ⟨(k : Int), rfl, by rw [H2.out hy]; simp, rfl⟩
    · go_wp2
      go_ret
      exact ⟨-1, rfl, by have := HN.out; rw [List.take_of_length_le (by omega)] at this; rw [this]; simp, rfl⟩

set_option maxHeartbeats 400000 in
theorem indexNil_any (f : Value) (a : Option Addr) (cap : Nat) (w : World) :
    Calls Tryz.prog 110 #[.slice a 0 cap, f] w fun e w' => e = .returned (.int .i64 (-1)) ∧ w' = w := by
  go_enter Tryz.func110, Tryz.ntmps110
  go_wp2
  go_loop [8] (fun i => i = .int .i64 0) (fun _ => 0)
  case atStart => rfl
  case round =>
    subst hrel
    go_wp2
    go_ret
    exact ⟨rfl, rfl⟩

set_option maxHeartbeats 400000 in
theorem anyOutside_any (p : Int) (v : Value) (xs : List Int) (w : World) (hm : xs.length ≤ 400) (hs : Sl w v xs) :
    Calls Tryz.prog 145 #[.int .i64 p, v] w fun e w' => e = .returned (.bool (xs.any (outP p))) ∧ Below w.heap.size w w' := by
  have below_one : ∀ {w : World} {A : Obj}, Below w.heap.size w (w.alloc A) := fun {w A} => (Below.refl _ _).alloc (Nat.le_refl _) _
  obtain ⟨a, cap, rfl, h1⟩ := hs
  have hcon : ∀ (W : World) (pb : Nat), W.cell? ⟨pb, 0, none⟩ = some (.int .i64 p) → Below w.heap.size w W → Calls Tryz.prog 79 #[.slice a xs.length cap, .func (.func 152) #[] #[.pointer (some ⟨pb, 0, none⟩)]] W fun e w' => e = .returned (.bool (xs.any (outP p))) ∧ w' = W := by
    intro W pb hW hb
    by_cases h0 : 0 < xs.length
    · obtain ⟨b, off, rfl, hlt, hc⟩ := h1 h0
      have HC : Hid (IntsAt W b off xs) := fun i hi => by rw [hb.cell (p := ⟨b, off + i, none⟩) hlt]; exact hc i hi
      have HW := hid hW
      clear hc h1 hb hW
      go_enter Tryz.func79, Tryz.ntmps79
      go_wp2_with (go_at_call 110; refine (indexOut_any p xs _ _ _ _ _ hm HC.out HW.out).mono ?_; rintro e w' ⟨r, rfl, hr, rfl⟩)
      go_ret
      exact ⟨by rw [← hr]; rfl, rfl⟩
    · have e : xs = [] := List.length_eq_zero_iff.1 (by omega)
      subst e
      clear h1 hb hW h0 hm
      go_enter Tryz.func79, Tryz.ntmps79
      go_wp2_with (go_at_call 110; refine (indexNil_any _ _ _ _).mono ?_; rintro e w' ⟨rfl, rfl⟩)
      go_ret
      exact ⟨rfl, rfl⟩
  have HCON := hid hcon
  clear hcon h1
  go_enter Tryz.func145, Tryz.ntmps145
  go_wp2_with fail
  refine (HCON.out _ _ (by simp) below_one).mono ?_
  rintro e w' ⟨rfl, rfl⟩
  go_wp2
  go_ret
  exact ⟨rfl, below_one⟩
def numE (p : Int) (xs : List Int) : Int := if errP p = 0 then (if xs.any (outP p) then 3 else 0) else errP p
theorem belowNew {w : World} {A : Obj} : Below w.heap.size w (w.alloc A) := (Below.refl _ _).alloc (Nat.le_refl _) _
theorem errP_ok {p : Int} (h : errP p = 0) : 2 ≤ p ∧ p ≤ 101 ∧ primeB p = true := by
  unfold errP at h
  by_cases h1 : p < 2 ∨ 101 < p
  · rw [if_pos h1] at h; omega
  · rw [if_neg h1] at h
    by_cases h2 : primeB p = true
    · exact ⟨by omega, by omega, h2⟩
    · rw [if_neg h2] at h; omega
theorem outP_all {p : Int} {xs : List Int} (h : xs.any (outP p) = false) : ∀ x ∈ xs, 0 ≤ x ∧ x < p := by
  intro x hx
  rw [List.any_eq_false] at h
  have := h x hx
  simp [outP] at this; omega

set_option maxHeartbeats 400000 in
theorem checkNumbers_any (p : Int) (v : Value) (xs : List Int) (w : World) (hm : xs.length ≤ 400) (hs : Sl w v xs) :
    Calls Tryz.prog 133 #[.int .i64 p, v] w fun e w' => e = .returned (.int .i64 (numE p xs)) ∧ Below w.heap.size w w' := by
  have HS := hid hs
  obtain ⟨a, cap, rfl, _⟩ := hs
  cases hp : (errP p != 0)
  · have hp0 : errP p = 0 := by simpa using hp
    cases hx : xs.any (outP p)
    · have e : numE p xs = 0 := by unfold numE; rw [if_pos hp0, if_neg (by simp [hx])]
      rw [e]
      clear e hp0
      go_enter Tryz.func133, Tryz.ntmps133
      go_wp2_with fail
      refine (check_any _ _).mono ?_
      rintro e w' ⟨rfl, rfl⟩
      go_wp2_with fail
      refine (anyOutside_any p _ xs _ hm HS.out).mono ?_
      rintro e w' ⟨rfl, hb⟩
      go_wp2
      go_ret
      exact ⟨rfl, hb⟩
    · have e : numE p xs = 3 := by unfold numE; rw [if_pos hp0, if_pos hx]
      rw [e]
      clear e hp0
      go_enter Tryz.func133, Tryz.ntmps133
      go_wp2_with fail
      refine (check_any _ _).mono ?_
      rintro e w' ⟨rfl, rfl⟩
      go_wp2_with fail
      refine (anyOutside_any p _ xs _ hm HS.out).mono ?_
      rintro e w' ⟨rfl, hb⟩
      go_wp2
      go_ret
      exact ⟨rfl, hb⟩
  · have e : numE p xs = errP p := by unfold numE; rw [if_neg (by simpa using hp)]
    rw [e]
    clear e
    go_enter Tryz.func133, Tryz.ntmps133
    go_wp2_with fail
    refine (check_any _ _).mono ?_
    rintro e w' ⟨rfl, rfl⟩
    go_wp2
    go_ret
    exact ⟨rfl, Below.refl _ _⟩

theorem Sl.of1 (w : World) (a : Int) (T : TypeId) : Sl (w.alloc (.cells #[.int .i64 a] T)) (.slice (some ⟨w.heap.size, 0, none⟩) 1 1) [a] := by
  refine ⟨_, _, rfl, fun _ => ⟨_, _, rfl, by simp, fun i hi => ?_⟩⟩
  simp at hi
  subst hi
  simp
def pwN (p a : Nat) : Nat → Nat
  | 0 => 1
  | k + 1 => pwN p a k * a % p
theorem pwN_lt (p a : Nat) (hp : 2 ≤ p) : ∀ k, pwN p a k < p
  | 0 => by simp [pwN]; omega
  | k + 1 => by simp only [pwN]; exact Nat.mod_lt _ (by omega)
def invN (p a : Nat) : Nat := pwN p a (p - 2)
def invI (p a : Int) : Int := invN p.toNat a.toNat

def invOk (p a : Nat) : Bool := decide (1 ≤ invN p a) && decide (invN p a < p) && (a * invN p a % p == 1 % p) && (List.range (invN p a)).all fun b => a * b % p != 1 % p
theorem inv_all : ((List.range 102).all fun p => !(decide (2 ≤ p) && noDiv p p) || (List.range p).all fun a => decide (a = 0) || invOk p a) = true := by decide +kernel
theorem invOk_of {p a : Nat} (h1 : 2 ≤ p) (h2 : p ≤ 101) (h3 : noDiv p p = true) (h4 : 0 < a) (h5 : a < p) : invOk p a = true := by
  have h := inv_all
  rw [List.all_eq_true] at h
  have h6 := h p (by simp; omega)
  rw [h3, decide_eq_true h1] at h6
  simp only [Bool.and_self, Bool.not_true, Bool.false_or] at h6
  rw [List.all_eq_true] at h6
  have h7 := h6 a (by simpa using h5)
  rw [decide_eq_false (by omega)] at h7
  simpa using h7

theorem cast_pw (p a k : Nat) : ((pwN p a (k + 1) : Nat) : Int) = (pwN p a k : Int) * (a : Int) % (p : Int) := by
  simp [pwN, Int.natCast_emod, Int.natCast_mul]

set_option maxHeartbeats 400000 in
theorem inverse_any (p a : Nat) (w : World) (hp : 2 ≤ p) (hp2 : p ≤ 101) (ha : a < p) :
    Calls Tryz.prog 134 #[.int .i64 p, .int .i64 a] w fun e w' => e = .returned (.int .i64 (invN p a)) ∧ w' = w := by
  go_enter Tryz.func134, Tryz.ntmps134
  go_wp2
  go_loop [5, 8] (fun r i => ∃ k : Nat, k ≤ p - 2 ∧ i = .int .i64 k ∧ r = .int .i64 (pwN p a k)) (fun _ i => p - (intOf i).toNat)
  case atStart => exact ⟨0, Nat.zero_le _, rfl, rfl⟩
  case round =>
    obtain ⟨k, hk, rfl, rfl⟩ := hrel
    have hlt := pwN_lt p a hp k
    by_cases hk2 : k < p - 2
    · have hc := cast_pw p a k
      have hmb := mul_bd (a := (pwN p a k : Int)) (b := (a : Int)) ⟨by omega, by omega, by omega, by omega⟩
      obtain ⟨hm1, hm2⟩ := hmb
      have HC := hid hc
      clear hc
      generalize hq : pwN p a k = q at *
      clear hq
      go_wp2
      go_round
      case rel => exact ⟨k + 1, by omega, by go_num, by rw [HC.out]⟩
      case measure => simp [intOf]; omega
    · have e : k = p - 2 := by omega
      go_wp2
      go_ret
      exact ⟨ret_int (by first | rfl | (rw [e]; rfl)), rfl⟩
theorem numE_one {p a : Int} (h : numE p [a] = 0) : errP p = 0 ∧ 0 ≤ a ∧ a < p := by
  unfold numE at h
  by_cases h1 : errP p = 0
  · rw [if_pos h1] at h
    cases h2 : [a].any (outP p)
    · have ha := outP_all h2 a (by simp)
      exact ⟨h1, ha.1, ha.2⟩
    · rw [if_pos h2] at h; omega
  · rw [if_neg h1] at h; exact absurd h h1
def ivE (p a : Int) : Int := if numE p [a] = 0 then (if a = 0 then 5 else 0) else numE p [a]
def ivR (p a : Int) : Int := if ivE p a = 0 then invI p a else 0

set_option maxHeartbeats 400000 in
theorem fieldInverse_any (p a : Int) (w : World) :
    Calls Tryz.prog 121 #[.int .i64 p, .int .i64 a] w fun e w' => e = .returned (.tuple #[.int .i64 (ivR p a), .int .i64 (ivE p a)]) ∧ Below w.heap.size w w' := by
  cases hz : (numE p [a] != 0)
  · have hz0 : numE p [a] = 0 := by simpa using hz
    obtain ⟨h1, ha, ha2⟩ := numE_one hz0
    obtain ⟨hp1, hp2, _⟩ := errP_ok h1
    have HZ := hid hz0
    cases h0 : (a == 0)
    · have h0' : a ≠ 0 := by simpa using h0
      have e1 : ivE p a = 0 := by unfold ivE; rw [if_pos hz0, if_neg h0']
      have e2 : ivR p a = invI p a := by unfold ivR; rw [if_pos e1]
      rw [e1, e2]
      obtain ⟨pn, rfl⟩ : ∃ n : Nat, p = n := ⟨p.toNat, by omega⟩
      obtain ⟨an, rfl⟩ : ∃ n : Nat, a = n := ⟨a.toNat, by omega⟩
      have e3 : invI (pn : Int) (an : Int) = invN pn an := rfl
      rw [e3]
      clear e1 e2 e3 h1 hz0 hz h0'
      go_enter Tryz.func121, Tryz.ntmps121
      go_wp2_with fail
      refine (checkNumbers_any pn _ [(an : Int)] _ (by simp) (Sl.of1 _ _ _)).mono ?_
      rintro e w1 ⟨rfl, hb1⟩
      rw [HZ.out]
      go_wp2_with fail
      refine (inverse_any pn an _ (by omega) (by omega) (by omega)).mono ?_
      rintro e w' ⟨rfl, rfl⟩
      go_wp2
      go_ret2
      exact ⟨rfl, belowNew.trans (hb1.mono (by simp))⟩
    · have h0' : a = 0 := by simpa using h0
      have e1 : ivE p a = 5 := by unfold ivE; rw [if_pos hz0, if_pos h0']
      have e2 : ivR p a = 0 := by unfold ivR; rw [if_neg (by rw [e1]; decide)]
      rw [e1, e2]
      clear e1 e2 h1 hz0 hz h0'
      go_enter Tryz.func121, Tryz.ntmps121
      go_wp2_with fail
      refine (checkNumbers_any p _ [a] _ (by simp) (Sl.of1 _ _ _)).mono ?_
      rintro e w1 ⟨rfl, hb1⟩
      rw [HZ.out]
      go_wp2
      go_ret2
      exact ⟨rfl, belowNew.trans (hb1.mono (by simp))⟩
  · have e1 : ivE p a = numE p [a] := by unfold ivE; rw [if_neg (by simpa using hz)]
    have e2 : ivR p a = 0 := by unfold ivR; rw [if_neg (by rw [e1]; simpa using hz)]
    rw [e1, e2]
    clear e1 e2
    go_enter Tryz.func121, Tryz.ntmps121
    go_wp2_with fail
    refine (checkNumbers_any p _ [a] _ (by simp) (Sl.of1 _ _ _)).mono ?_
    rintro e w1 ⟨rfl, hb1⟩
    go_wp2
    go_ret2
    exact ⟨rfl, belowNew.trans (hb1.mono (by simp))⟩

theorem invOk_parts {p a : Nat} (h : invOk p a = true) : 1 ≤ invN p a ∧ invN p a < p ∧ a * invN p a % p = 1 % p ∧ ∀ b, b < invN p a → a * b % p ≠ 1 % p := by
  unfold invOk at h
  simp only [Bool.and_eq_true, decide_eq_true_eq, List.all_eq_true, beq_iff_eq, bne_iff_ne] at h
  obtain ⟨⟨⟨h1, h2⟩, h3⟩, h4⟩ := h
  exact ⟨h1, h2, h3, fun b hb => h4 b (by simpa using hb)⟩

theorem cast_test (p a k : Nat) : ((a : Int) * (k : Int) % (p : Int) == 1 % (p : Int)) = decide (a * k % p = 1 % p) := by
  have e1 : (a : Int) * (k : Int) % (p : Int) = ((a * k % p : Nat) : Int) := by simp
  have e2 : (1 : Int) % (p : Int) = ((1 % p : Nat) : Int) := by simp
  rw [e1, e2]
  by_cases h : a * k % p = 1 % p
  · simp [h]
  · rw [decide_eq_false h]; simp only [beq_eq_false_iff_ne]; intro e; exact h (by exact_mod_cast e)

set_option maxHeartbeats 400000 in
theorem inverseOf_any (p a : Nat) (w : World) (hp : 2 ≤ p) (hp2 : p ≤ 101) (ha : a < p) (hok : invOk p a = true) :
    Calls Tryz.prog 35 #[.int .i64 p, .int .i64 a] w fun e w' => e = .returned (.int .i64 (invN p a)) ∧ ∃ n, w' = w.drewN n := by
  have PARTS := hid (invOk_parts hok)
  clear hok
  go_enter Tryz.func35, Tryz.ntmps35
  go_wp2
  go_loopw [5] (fun i wr => ∃ k n : Nat, 1 ≤ k ∧ k ≤ invN p a ∧ i = .int .i64 k ∧ wr = w.drewN n) (fun i _ => p - (intOf i).toNat)
  case atStart => exact ⟨1, 0, by omega, PARTS.out.1, rfl, rfl⟩
  case round =>
    obtain ⟨k, n0, hk1, hk, rfl, hw0⟩ := hrel
    have HW := hid hw0
    have HK := hid hk
    have hkp : k < p := by have := PARTS.out.2.1; omega
    have hmb := mul_bd (a := (a : Int)) (b := (k : Int)) ⟨by omega, by omega, by omega, by omega⟩
    obtain ⟨hm1, hm2⟩ := hmb
    have hct := cast_test p a k
    clear hw0 hk
    by_cases he : k = invN p a
    · have ht : ((a : Int) * (k : Int) % (p : Int) == 1 % (p : Int)) = true := by rw [hct, he]; exact decide_eq_true PARTS.out.2.2.1
      have HE := hid he
      clear hct he
      go_wp2
      go_quiet (fail)
      go_wp2
      go_ret
      exact ⟨ret_int (by rw [← HE.out]), _, by rw [HW.out, World.drewN_drewN]⟩
    · have ht : ((a : Int) * (k : Int) % (p : Int) == 1 % (p : Int)) = false := by
        rw [hct]; exact decide_eq_false (PARTS.out.2.2.2 k (by have := HK.out; omega))
      have HE := hid he
      clear hct he
      go_wp2
      go_quiet (fail)
      go_wp2
      go_roundw
      case rel => exact ⟨k + 1, _, by omega, by have := HK.out; have := HE.out; omega, by go_num, by rw [HW.out, World.drewN_drewN]⟩
      case measure => simp [intOf]; omega
def Rws (w : World) (v : Value) (xss : List (List Int)) : Prop :=
  ∃ a cap, v = .slice a xss.length cap ∧ (0 < xss.length → ∃ b off, a = some ⟨b, off, none⟩ ∧ b < w.heap.size ∧ SlsAt w b off xss)
theorem Rws.below {w w' : World} {v : Value} {xss : List (List Int)} (h : Rws w v xss) (hb : Below w.heap.size w w') : Rws w' v xss := by
  obtain ⟨a, cap, rfl, h⟩ := h
  refine ⟨a, cap, rfl, fun hp => ?_⟩
  obtain ⟨b, off, rfl, hlt, hc⟩ := h hp
  exact ⟨b, off, rfl, Nat.lt_of_lt_of_le hlt hb.size, hc.below hlt hb⟩
theorem Tryz.infoInt : (Tryz.prog.info? 3).map (fun i => (i.zero, i.size, i.bytes)) = some (some (.int .i64 0), 1, 8) := by kernel_rfl
abbrev ints (xs : List Int) : List Value := xs.map (Value.int .i64)
def Own (w : World) (B : Nat) (v : Value) (xs : List Int) : Prop := w.ownsRow B 3 1 v xs.length (ints xs)

theorem intsAt_news {w : World} {b off : Nat} {xs : List Int} (h : IntsAt w b off xs) : ∀ j u, (ints xs)[j]? = some u → w.cell? ((⟨b, off, none⟩ : Addr).add j) = some u := by
  intro j u hj
  rw [List.getElem?_map] at hj
  cases hx : xs[j]? with
  | none => rw [hx] at hj; simp at hj
  | some x =>
    rw [hx] at hj
    simp at hj
    subst hj
    have hl : j < xs.length := by
      apply Nat.lt_of_not_le; intro hle; rw [List.getElem?_eq_none hle] at hx; simp at hx
    have := h j hl
    rw [List.getD_eq_getElem?_getD, hx] at this
    by_cases h0 : j = 0
    · subst h0; simpa [Addr.add] using this
    · simpa [Addr.add, h0] using this
theorem ints_one (xs : List Int) : ∀ u ∈ ints xs, u.oneCell' = true := by
  intro u hu
  simp at hu
  obtain ⟨x, _, rfl⟩ := hu
  rfl

set_option maxHeartbeats 400000 in
theorem clone_any (v : Value) (xs : List Int) (w : World) (hm : xs.length ≤ 400) (hs : Sl w v xs) :
    Calls Tryz.prog 78 #[v] w fun e w' => ∃ u, e = .returned u ∧ Own w' w.heap.size u xs ∧ Below w.heap.size w w' := by
  obtain ⟨a, cap, rfl, h1⟩ := hs
  have hnil := fun (w : World) (a : Option Addr) (n c : Nat) => Lib.run_eql_slice_nil (P := Tryz.prog) w 55 3 a n c 0 0 Tryz.underlying55
  obtain ⟨i0, hi, hz0, hz1, hz2⟩ := info_parts Tryz.infoInt
  cases a with
  | none =>
    have h0 : xs = [] := List.length_eq_zero_iff.1 (by
      apply Nat.eq_zero_of_not_pos; intro h; obtain ⟨b, off, hh, _⟩ := h1 h; simp at hh)
    subst h0
    clear h1
    go_enter Tryz.func78, Tryz.ntmps78
    go_wp2
    go_ret
    exact ⟨_, rfl, World.ownsRow_nil _ _ _ _, Below.refl _ _⟩
  | some ad =>
    have HN : Hid (∀ j u, (ints xs)[j]? = some u → (w.alloc (.cells #[] 3)).cell? (ad.add j) = some u) := by
      intro j u hj
      by_cases h0 : 0 < xs.length
      · obtain ⟨b, off, hh, hlt, hc⟩ := h1 h0
        simp at hh
        subst hh
        refine intsAt_news (w := w.alloc (.cells #[] 3)) (b := b) (off := off) ?_ j u hj
        intro i hi
        rw [belowNew.cell (p := ⟨b, off + i, none⟩) hlt]; exact hc i hi
      · have : xs = [] := List.length_eq_zero_iff.1 (by omega)
        subst this; simp at hj
    clear h1
    go_enter Tryz.func78, Tryz.ntmps78
    go_wp2_with (at_builtin; refine wpList_append_own _ rfl _ _ 55 rfl w.heap.size 3 i0 (.int .i64 0) 1 8 Tryz.underlying55 hi hz0 hz1 hz2 rfl (by decide) _ _ _ rfl (World.ownsRow_made w #[] 0 (Nat.le_refl _) (by decide) (by simp)) ad xs.length cap (ints xs) rfl (by simp) HN.out (ints_one xs) (by unfold maxLen; omega) (by omega) (by simp) ?_)
    intro v' w1 hown' hgrow _
    try simp only [Nat.zero_add, List.nil_append] at hown'
    have hb : Below w.heap.size w w1 := (belowNew).grown hgrow (by simp) (fun k hk => by simp [Value.ownBlock] at hk; omega)
    have HO := hid hown'
    obtain ⟨g, c, hv⟩ : ∃ g c, v' = .slice g xs.length c := by
      rcases hown'.2 with ⟨h, h'⟩ | ⟨g, c, cur, h, _⟩
      · exact ⟨none, 0, by rw [h, h']⟩
      · exact ⟨_, c, h⟩
    subst hv
    clear hown' hgrow hnil
    go_wp2
    go_ret
    exact ⟨_, rfl, HO.out, hb⟩
end Go.Proofs.YtilogbggilchaaaGreat
