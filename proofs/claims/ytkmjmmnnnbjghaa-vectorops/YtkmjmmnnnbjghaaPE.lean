/- Plain mathematics: merging two, scaling by a term, sums of many. -/
import Derived.Test.YtkmjmmnnnbjghaaI
import Derived.Test.YtkmjmmnnnbjghaaA
import Derived.ProofKit
import Derived.OpenShut
import Derived.ShutString
import Derived.ChangeOld
import Derived.Deep.Matrix
import Derived.Deep.DeepCutAuto
namespace Go.Proofs.Ytkmjmmnnnbjghaa
set_option linter.unusedSimpArgs false
set_option linter.unusedVariables false

/-- The sum of two whose terms fall. -/
def mergeL (p o : Int) : List Tm → List Tm → List Tm
  | [], g => g
  | t :: f, [] => t :: f
  | t :: f, u :: g =>
    if 0 < ordS o t.2 u.2 then t :: mergeL p o f (u :: g)
    else if ordS o t.2 u.2 < 0 then u :: mergeL p o (t :: f) g
    else if (t.1 + u.1) % p ≠ 0 then ((t.1 + u.1) % p, t.2) :: mergeL p o f g else mergeL p o f g
termination_by f g => f.length + g.length
theorem merge_nilL (p o : Int) (g : List Tm) : mergeL p o [] g = g := by unfold mergeL; rfl
theorem merge_nilR (p o : Int) (f : List Tm) : mergeL p o f [] = f := by cases f <;> (unfold mergeL; rfl)
theorem merge_gt {p o : Int} {t u : Tm} {f g : List Tm} (h : 0 < ordS o t.2 u.2) : mergeL p o (t :: f) (u :: g) = t :: mergeL p o f (u :: g) := by
  rw [mergeL.eq_def]; simp [h]
theorem merge_lt {p o : Int} {t u : Tm} {f g : List Tm} (h : ordS o t.2 u.2 < 0) : mergeL p o (t :: f) (u :: g) = u :: mergeL p o (t :: f) g := by
  rw [mergeL.eq_def]; simp [h, show ¬ 0 < ordS o t.2 u.2 by omega]
theorem merge_eq {p o : Int} {t u : Tm} {f g : List Tm} (h : ordS o t.2 u.2 = 0) (h2 : (t.1 + u.1) % p ≠ 0) : mergeL p o (t :: f) (u :: g) = ((t.1 + u.1) % p, t.2) :: mergeL p o f g := by
  rw [mergeL.eq_def]; simp [h, h2]
theorem merge_no {p o : Int} {t u : Tm} {f g : List Tm} (h : ordS o t.2 u.2 = 0) (h2 : (t.1 + u.1) % p = 0) : mergeL p o (t :: f) (u :: g) = mergeL p o f g := by
  rw [mergeL.eq_def]; simp [h, h2]

/-- What merging two makes, by its four ways. -/
theorem merge_ind {o : Int} (P : List Tm → List Tm → Prop) (hl : ∀ g, P [] g) (hr : ∀ f, P f [])
    (h1 : ∀ t f u g, 0 < ordS o t.2 u.2 → P f (u :: g) → P (t :: f) (u :: g)) (h2 : ∀ t f u g, ordS o t.2 u.2 < 0 → P (t :: f) g → P (t :: f) (u :: g))
    (h3 : ∀ t f u g, ordS o t.2 u.2 = 0 → P f g → P (t :: f) (u :: g)) : ∀ (k : Nat) (f g : List Tm), f.length + g.length ≤ k → P f g
  | _, [], g, _ => hl g
  | _, t :: f, [], _ => hr _
  | 0, t :: f, u :: g, h => by simp at h
  | k + 1, t :: f, u :: g, h => by
    simp only [List.length_cons] at h
    by_cases a : 0 < ordS o t.2 u.2
    · exact h1 t f u g a (merge_ind P hl hr h1 h2 h3 k f (u :: g) (by simp only [List.length_cons]; omega))
    · by_cases b : ordS o t.2 u.2 < 0
      · exact h2 t f u g b (merge_ind P hl hr h1 h2 h3 k (t :: f) g (by simp only [List.length_cons]; omega))
      · exact h3 t f u g (by omega) (merge_ind P hl hr h1 h2 h3 k f g (by omega))

theorem merge_mem {p o : Int} (f g : List Tm) : ∀ x ∈ mergeL p o f g, ∃ t ∈ f ++ g, x.2 = t.2 := by
  refine merge_ind (o := o) (P := fun f g => ∀ x ∈ mergeL p o f g, ∃ t ∈ f ++ g, x.2 = t.2) ?_ ?_ ?_ ?_ ?_ _ f g (Nat.le_refl _)
  · intro g x hx; rw [merge_nilL] at hx; exact ⟨x, by simpa using hx, rfl⟩
  · intro f x hx; rw [merge_nilR] at hx; exact ⟨x, by simpa using hx, rfl⟩
  · intro t f u g h ih x hx
    rw [merge_gt h] at hx
    rcases List.mem_cons.1 hx with rfl | hx
    · exact ⟨x, by simp, rfl⟩
    · obtain ⟨y, hy, e⟩ := ih x hx; exact ⟨y, by simp at hy ⊢; grind, e⟩
  · intro t f u g h ih x hx
    rw [merge_lt h] at hx
    rcases List.mem_cons.1 hx with rfl | hx
    · exact ⟨x, by simp, rfl⟩
    · obtain ⟨y, hy, e⟩ := ih x hx; exact ⟨y, by simp at hy ⊢; grind, e⟩
  · intro t f u g h ih x hx
    by_cases hz : (t.1 + u.1) % p = 0
    · rw [merge_no h hz] at hx
      obtain ⟨y, hy, e⟩ := ih x hx; exact ⟨y, by simp at hy ⊢; grind, e⟩
    · rw [merge_eq h hz] at hx
      rcases List.mem_cons.1 hx with rfl | hx
      · exact ⟨t, by simp, rfl⟩
      · obtain ⟨y, hy, e⟩ := ih x hx; exact ⟨y, by simp at hy ⊢; grind, e⟩
theorem merge_length {p o : Int} (f g : List Tm) : (mergeL p o f g).length ≤ f.length + g.length := by
  refine merge_ind (o := o) (P := fun f g => (mergeL p o f g).length ≤ f.length + g.length) ?_ ?_ ?_ ?_ ?_ _ f g (Nat.le_refl _)
  · intro g; rw [merge_nilL]; simp
  · intro f; rw [merge_nilR]; simp
  · intro t f u g h ih; rw [merge_gt h]; simp only [List.length_cons] at ih ⊢; omega
  · intro t f u g h ih; rw [merge_lt h]; simp only [List.length_cons] at ih ⊢; omega
  · intro t f u g h ih
    by_cases hz : (t.1 + u.1) % p = 0
    · rw [merge_no h hz]; simp only [List.length_cons]; omega
    · rw [merge_eq h hz]; simp only [List.length_cons]; omega
theorem merge_same {p o : Int} {n : Nat} (f g : List Tm) (hf : Len n f) (hg : Len n g) : Same p (mergeL p o f g) (f ++ g) := by
  intro φ
  rw [lin_append]
  revert hf hg
  refine merge_ind (o := o) (P := fun f g => Len n f → Len n g → p ∣ lin φ (mergeL p o f g) - (lin φ f + lin φ g)) ?_ ?_ ?_ ?_ ?_ _ f g (Nat.le_refl _)
  · intro g _ _; rw [merge_nilL]; simp [lin]
  · intro f _ _; rw [merge_nilR]; simp [lin]
  · intro t f u g h ih hf hg; rw [merge_gt h]; simp only [lin] at ih ⊢
    obtain ⟨k, hk⟩ := ih (fun x hx => hf x (by simp [hx])) hg
    exact ⟨k, by omega⟩
  · intro t f u g h ih hf hg; rw [merge_lt h]; simp only [lin] at ih ⊢
    obtain ⟨k, hk⟩ := ih hf (fun x hx => hg x (by simp [hx]))
    exact ⟨k, by omega⟩
  · intro t f u g h ih hf hg
    have e : t.2 = u.2 := (ordS_zero o t.2 u.2 (by rw [hf t (by simp), hg u (by simp)])).1 h
    obtain ⟨k, hk⟩ := ih (fun x hx => hf x (by simp [hx])) (fun x hx => hg x (by simp [hx]))
    obtain ⟨m, hm⟩ := modDvd p (t.1 + u.1)
    by_cases hz : (t.1 + u.1) % p = 0
    · rw [merge_no h hz]; simp only [lin]; rw [← e]
      rw [hz] at hm
      exact ⟨k + m * φ t.2, by grind⟩
    · rw [merge_eq h hz]; simp only [lin]; rw [← e]
      exact ⟨k + m * φ t.2, by grind⟩
theorem merge_canon {p o : Int} {n : Nat} (hp : 2 ≤ p) (f g : List Tm) (hf : Canon p o n f) (hg : Canon p o n g) : Canon p o n (mergeL p o f g) := by
  have hlen : Len n (mergeL p o f g) := by
    intro x hx
    obtain ⟨t, ht, e⟩ := merge_mem f g x hx
    rw [e]
    exact (List.mem_append.1 ht).elim (hf.len t) (hg.len t)
  refine ⟨hlen, ?_, ?_⟩
  · have lf := hf.len; have lg := hg.len; have ff := hf.falls; have fg := hg.falls
    clear hf hg hlen
    revert lf lg ff fg
    refine merge_ind (o := o) (P := fun f g => Len n f → Len n g → Falls o f → Falls o g → Falls o (mergeL p o f g)) ?_ ?_ ?_ ?_ ?_ _ f g (Nat.le_refl _)
    · intro g _ _ _ h; rw [merge_nilL]; exact h
    · intro f _ _ h _; rw [merge_nilR]; exact h
    · intro t f u g h ih lf lg ff fg
      rw [merge_gt h]
      refine ⟨fun x hx => ?_, ih (fun x hx => lf x (by simp [hx])) lg ff.2 fg⟩
      obtain ⟨y, hy, e⟩ := merge_mem f (u :: g) x hx
      rw [e]
      rcases List.mem_append.1 hy with hy | hy
      · exact ff.1 y hy
      · rcases List.mem_cons.1 hy with rfl | hy
        · exact h
        · exact ordS_trans o t.2 u.2 y.2 (by rw [lf t (by simp), lg u (by simp)]) (by rw [lg u (by simp), lg y (by simp [hy])]) h (fg.1 y hy)
    · intro t f u g h ih lf lg ff fg
      rw [merge_lt h]
      have h' : 0 < ordS o u.2 t.2 := by have := ordS_neg o u.2 t.2; omega
      refine ⟨fun x hx => ?_, ih lf (fun x hx => lg x (by simp [hx])) ff fg.2⟩
      obtain ⟨y, hy, e⟩ := merge_mem (t :: f) g x hx
      rw [e]
      rcases List.mem_append.1 hy with hy | hy
      · rcases List.mem_cons.1 hy with rfl | hy
        · exact h'
        · exact ordS_trans o u.2 t.2 y.2 (by rw [lf t (by simp), lg u (by simp)]) (by rw [lf t (by simp), lf y (by simp [hy])]) h' (ff.1 y hy)
      · exact fg.1 y hy
    · intro t f u g h ih lf lg ff fg
      have e0 : t.2 = u.2 := (ordS_zero o t.2 u.2 (by rw [lf t (by simp), lg u (by simp)])).1 h
      have ih' := ih (fun x hx => lf x (by simp [hx])) (fun x hx => lg x (by simp [hx])) ff.2 fg.2
      by_cases hz : (t.1 + u.1) % p = 0
      · rw [merge_no h hz]; exact ih'
      · rw [merge_eq h hz]
        refine ⟨fun x hx => ?_, ih'⟩
        obtain ⟨y, hy, e⟩ := merge_mem f g x hx
        simp only
        rw [e]
        rcases List.mem_append.1 hy with hy | hy
        · exact ff.1 y hy
        · rw [e0]; exact fg.1 y hy
  · have cf := hf.coef; have cg := hg.coef
    clear hf hg hlen
    revert cf cg
    refine merge_ind (o := o) (P := fun f g => (∀ t ∈ f, 1 ≤ t.1 ∧ t.1 < p) → (∀ t ∈ g, 1 ≤ t.1 ∧ t.1 < p) → ∀ t ∈ mergeL p o f g, 1 ≤ t.1 ∧ t.1 < p) ?_ ?_ ?_ ?_ ?_ _ f g (Nat.le_refl _)
    · intro g _ h; rw [merge_nilL]; exact h
    · intro f h _; rw [merge_nilR]; exact h
    · intro t f u g h ih cf cg x hx
      rw [merge_gt h] at hx
      rcases List.mem_cons.1 hx with rfl | hx
      · exact cf x (by simp)
      · exact ih (fun x hx => cf x (by simp [hx])) cg x hx
    · intro t f u g h ih cf cg x hx
      rw [merge_lt h] at hx
      rcases List.mem_cons.1 hx with rfl | hx
      · exact cg x (by simp)
      · exact ih cf (fun x hx => cg x (by simp [hx])) x hx
    · intro t f u g h ih cf cg x hx
      have ih' := ih (fun x hx => cf x (by simp [hx])) (fun x hx => cg x (by simp [hx]))
      by_cases hz : (t.1 + u.1) % p = 0
      · rw [merge_no h hz] at hx; exact ih' x hx
      · rw [merge_eq h hz] at hx
        rcases List.mem_cons.1 hx with rfl | hx
        · have h1 := Int.emod_nonneg (t.1 + u.1) (show p ≠ 0 by omega)
          have h2 := Int.emod_lt_of_pos (t.1 + u.1) (show 0 < p by omega)
          simp only; omega
        · exact ih' x hx

theorem prime_mul {p a b : Nat} (h : noDiv p p = true) (ha : 0 < a) (ha2 : a < p) (hb : 0 < b) (hb2 : b < p) : a * b % p ≠ 0 := by
  intro hz
  have hd := Nat.dvd_of_mod_eq_zero hz
  have hc : Nat.Coprime p a := by
    have h1 := Nat.gcd_dvd_left p a
    have h3 : Nat.gcd p a ≤ a := Nat.le_of_dvd ha (Nat.gcd_dvd_right p a)
    have h4 : 0 < Nat.gcd p a := Nat.gcd_pos_of_pos_right p ha
    unfold noDiv at h
    rw [List.all_eq_true] at h
    have h5 := h (Nat.gcd p a) (List.mem_range.2 (by omega))
    rw [Nat.mod_eq_zero_of_dvd h1] at h5
    simp at h5
    show Nat.gcd p a = 1
    omega
  have := Nat.le_of_dvd hb (hc.dvd_of_dvd_mul_left hd)
  omega
theorem prime_mulI {p a b : Int} (h : errP p = 0) (ha : 1 ≤ a) (ha2 : a < p) (hb : 1 ≤ b) (hb2 : b < p) : 1 ≤ a * b % p ∧ a * b % p < p := by
  have h0 : noDiv p.toNat p.toNat = true := by
    unfold errP at h
    by_cases h1 : p < 2 ∨ 101 < p
    · rw [if_pos h1] at h; omega
    · rw [if_neg h1] at h
      cases hq : primeB p
      · rw [hq] at h; simp at h
      · exact hq
  have h1 := prime_mul h0 (a := a.toNat) (b := b.toNat) (by omega) (by omega) (by omega) (by omega)
  have e : a * b % p = ((a.toNat * b.toNat % p.toNat : Nat) : Int) := by
    rw [Int.natCast_emod, Int.natCast_mul, Int.toNat_of_nonneg (by omega), Int.toNat_of_nonneg (by omega), Int.toNat_of_nonneg (by omega)]
  have h2 := Int.emod_lt_of_pos (a * b) (show 0 < p by omega)
  omega
theorem errP_bd {p : Int} (h : errP p = 0) : 2 ≤ p ∧ p ≤ 101 := by
  unfold errP at h
  by_cases h1 : p < 2 ∨ 101 < p
  · rw [if_pos h1] at h; omega
  · omega
/-- A term times a polynomial. -/
theorem prodT_canon {p o : Int} {n : Nat} (h : errP p = 0) {t : Tm} (ht : 1 ≤ t.1 ∧ t.1 < p) (hl : t.2.length = n) : ∀ {g : List Tm}, Canon p o n g → Canon p o n (prodT p t g)
  | [], _ => ⟨fun x hx => by simp [prodT] at hx, trivial, fun x hx => by simp [prodT] at hx⟩
  | u :: g, hg => by
    have hg2 : Canon p o n g := ⟨fun x hx => hg.len x (by simp [hx]), hg.falls.2, fun x hx => hg.coef x (by simp [hx])⟩
    have ih := prodT_canon h ht hl hg2
    have e : prodT p t (u :: g) = (t.1 * u.1 % p, zipI (· + ·) t.2 u.2) :: prodT p t g := rfl
    have hu := hg.coef u (by simp)
    have lu := hg.len u (by simp)
    rw [e]
    refine ⟨fun x hx => ?_, ⟨fun x hx => ?_, ih.falls⟩, fun x hx => ?_⟩
    · rcases List.mem_cons.1 hx with rfl | hx
      · simp only; rw [zipI_len _ _ _ (by omega)]; exact hl
      · exact ih.len x hx
    · simp only [prodT, List.mem_map] at hx
      obtain ⟨y, hy, rfl⟩ := hx
      have ly := hg.len y (by simp [hy])
      simp only
      rw [zip_comm t.2 u.2, zip_comm t.2 y.2, ordS_add o u.2 y.2 t.2 (by omega) (by omega)]
      exact hg.falls.1 y hy
    · rcases List.mem_cons.1 hx with rfl | hx
      · exact prime_mulI h ht.1 ht.2 hu.1 hu.2
      · exact ih.coef x hx

/-- One behind the other. -/
def cat (F : Nat → List Tm) (a k : Nat) : List Tm := (List.range' a k).flatMap F
theorem cat_zero (F : Nat → List Tm) (a : Nat) : cat F a 0 = [] := rfl
theorem cat_one (F : Nat → List Tm) (a : Nat) : cat F a 1 = F a := by simp [cat]
theorem cat_add (F : Nat → List Tm) (a k m : Nat) : cat F a (k + m) = cat F a k ++ cat F (a + k) m := by
  unfold cat; rw [← List.range'_append_1, List.flatMap_append]

end Go.Proofs.Ytkmjmmnnnbjghaa

/- Numbers modulo a prime: the closures; looking through numbers. -/
namespace Go.Proofs.Ytkmjmmnnnbjghaa
set_option linter.unusedSimpArgs false
set_option linter.unusedVariables false
open Go.RowKit

def outP (p x : Int) : Bool := decide (x < 0 ∨ p ≤ x)

set_option maxHeartbeats 400000 in
theorem addFn_any (a b : Int) (w : World) (h : 0 ≤ a ∧ a ≤ 200 ∧ 0 ≤ b ∧ b ≤ 200) :
    Calls Try.prog 55 #[.int .i64 a, .int .i64 b] w fun e w' => e = .returned (.int .i64 (a + b)) ∧ w' = w := by
  obtain ⟨_, _, _, _⟩ := h
  go_enter Try.func55, Try.ntmps55
  go_wp2
  go_ret
  exact ⟨rfl, rfl⟩

theorem mul_bd {a b : Int} (h : 0 ≤ a ∧ a ≤ 200 ∧ 0 ≤ b ∧ b ≤ 200) : 0 ≤ a * b ∧ a * b ≤ 40000 := by
  obtain ⟨h1, h2, h3, h4⟩ := h
  refine ⟨Int.mul_nonneg h1 h3, ?_⟩
  have : a * b ≤ 200 * 200 := Int.mul_le_mul h2 h4 h3 (by omega)
  omega

set_option maxHeartbeats 400000 in
theorem mulFn_any (a b : Int) (w : World) (h : 0 ≤ a ∧ a ≤ 200 ∧ 0 ≤ b ∧ b ≤ 200) :
    Calls Try.prog 56 #[.int .i64 a, .int .i64 b] w fun e w' => e = .returned (.int .i64 (a * b)) ∧ w' = w := by
  obtain ⟨h1, h2⟩ := mul_bd h
  clear h
  go_enter Try.func56, Try.ntmps56
  go_wp2
  go_ret
  exact ⟨rfl, rfl⟩

set_option maxHeartbeats 400000 in
theorem outFn_any (p x : Int) (b : Nat) (w : World) (hb : w.cell? ⟨b, 0, none⟩ = some (.int .i64 p)) :
    Calls Try.prog 123 #[.int .i64 x, .pointer (some ⟨b, 0, none⟩)] w fun e w' => e = .returned (.bool (outP p x)) ∧ w' = w := by
  unfold outP
  by_cases h : x < 0
  · go_enter Try.func123, Try.ntmps123
    go_wp2
    go_ret
    exact ⟨by simp [h], rfl⟩
  · go_enter Try.func123, Try.ntmps123
    go_wp2
    go_ret
    exact ⟨by simp; omega, rfl⟩

set_option maxHeartbeats 400000 in
theorem indexOut_any (p : Int) (xs : List Int) (b off cap pb : Nat) (w : World) (hm : xs.length ≤ 400) (hc : IntsAt w b off xs) (hp : w.cell? ⟨pb, 0, none⟩ = some (.int .i64 p)) :
    Calls Try.prog 106 #[.slice (some ⟨b, off, none⟩) xs.length cap, .func (.func 123) #[] #[.pointer (some ⟨pb, 0, none⟩)]] w fun e w' =>
      ∃ r : Int, e = .returned (.int .i64 r) ∧ decide (0 ≤ r) = xs.any (outP p) ∧ w' = w := by
  have HC := hid hc
  have HP := hid hp
  clear hc hp
  go_enter Try.func106, Try.ntmps106
  go_wp2
  go_loop [8] (fun i => ∃ k : Nat, k ≤ xs.length ∧ i = .int .i64 k ∧ (xs.take k).any (outP p) = false) (fun i => xs.length - (intOf i).toNat)
  case atStart => exact ⟨0, Nat.zero_le _, rfl, by simp⟩
  case round =>
    obtain ⟨k, hk, rfl, hn⟩ := hrel
    have HN := hid hn
    clear hn
    by_cases hlt : k < xs.length
    · have hcell := HC.out k hlt
      have H1 := hid (any_take (outP p) xs k hlt HN.out)
      have H2 := hid (any_at (outP p) xs k hlt)
      generalize xs.getD k 0 = y at hcell H1 H2
      cases hy : outP p y
      · go_wp2_with (go_at_call 123; refine (outFn_any p _ _ _ HP.out).mono ?_; rintro e w' ⟨rfl, rfl⟩)
        go_round
        case rel => exact ⟨k + 1, by omega, by go_num, H1.out hy⟩
        case measure => simp [intOf]; omega
      · go_wp2_with (go_at_call 123; refine (outFn_any p _ _ _ HP.out).mono ?_; rintro e w' ⟨rfl, rfl⟩)
        go_ret
        exact ⟨(k : Int), rfl, by rw [H2.out hy]; simp, rfl⟩
    · go_wp2
      go_ret
      exact ⟨-1, rfl, by have := HN.out; rw [List.take_of_length_le (by omega)] at this; rw [this]; simp, rfl⟩

set_option maxHeartbeats 400000 in
/-- .. of a slice without numbers, too. -/
theorem indexNil_any (f : Value) (a : Option Addr) (cap : Nat) (w : World) :
    Calls Try.prog 106 #[.slice a 0 cap, f] w fun e w' => e = .returned (.int .i64 (-1)) ∧ w' = w := by
  go_enter Try.func106, Try.ntmps106
  go_wp2
  go_loop [8] (fun i => i = .int .i64 0) (fun _ => 0)
  case atStart => rfl
  case round =>
    subst hrel
    go_wp2
    go_ret
    exact ⟨rfl, rfl⟩

set_option maxHeartbeats 400000 in
theorem anyOutside_any (p : Int) (v : Value) (xs : List Int) (w : World) (hm : xs.length ≤ 400) (hs : Sl w v xs) :
    Calls Try.prog 100 #[.int .i64 p, v] w fun e w' => e = .returned (.bool (xs.any (outP p))) ∧ Below w.heap.size w w' := by
  have below_one : ∀ {w : World} {A : Obj}, Below w.heap.size w (w.alloc A) := fun {w A} => (Below.refl _ _).alloc (Nat.le_refl _) _
  obtain ⟨a, cap, rfl, h1⟩ := hs
  have hcon : ∀ (W : World) (pb : Nat), W.cell? ⟨pb, 0, none⟩ = some (.int .i64 p) → Below w.heap.size w W → Calls Try.prog 96 #[.slice a xs.length cap, .func (.func 123) #[] #[.pointer (some ⟨pb, 0, none⟩)]] W fun e w' => e = .returned (.bool (xs.any (outP p))) ∧ w' = W := by
    intro W pb hW hb
    by_cases h0 : 0 < xs.length
    · obtain ⟨b, off, rfl, hlt, hc⟩ := h1 h0
      have HC : Hid (IntsAt W b off xs) := fun i hi => by rw [hb.cell (p := ⟨b, off + i, none⟩) hlt]; exact hc i hi
      have HW := hid hW
      clear hc h1 hb hW
      go_enter Try.func96, Try.ntmps96
      go_wp2_with (go_at_call 106; refine (indexOut_any p xs _ _ _ _ _ hm HC.out HW.out).mono ?_; rintro e w' ⟨r, rfl, hr, rfl⟩)
      go_ret
      exact ⟨by rw [← hr]; rfl, rfl⟩
    · have e : xs = [] := List.length_eq_zero_iff.1 (by omega)
      subst e
      clear h1 hb hW h0 hm
      go_enter Try.func96, Try.ntmps96
      go_wp2_with (go_at_call 106; refine (indexNil_any _ _ _ _).mono ?_; rintro e w' ⟨rfl, rfl⟩)
      go_ret
      exact ⟨rfl, rfl⟩
  have HCON := hid hcon
  clear hcon h1
  go_enter Try.func100, Try.ntmps100
  go_wp2_with fail
  refine (HCON.out _ _ (by simp) below_one).mono ?_
  rintro e w' ⟨rfl, rfl⟩
  go_wp2
  go_ret
  exact ⟨rfl, below_one⟩

end Go.Proofs.Ytkmjmmnnnbjghaa

/- Add, Mul, Inverse. -/
namespace Go.Proofs.Ytkmjmmnnnbjghaa
set_option linter.unusedSimpArgs false
set_option linter.unusedVariables false
open Go.RowKit

def numE (p : Int) (xs : List Int) : Int := if errP p = 0 then (if xs.any (outP p) then 3 else 0) else errP p
theorem belowNew {w : World} {A : Obj} : Below w.heap.size w (w.alloc A) := (Below.refl _ _).alloc (Nat.le_refl _) _
theorem errP_ok {p : Int} (h : errP p = 0) : 2 ≤ p ∧ p ≤ 101 ∧ primeB p = true := by
  unfold errP at h
  by_cases h1 : p < 2 ∨ 101 < p
  · rw [if_pos h1] at h; omega
  · rw [if_neg h1] at h
    by_cases h2 : primeB p = true
    · exact ⟨by omega, by omega, h2⟩
    · rw [if_neg h2] at h; omega
theorem outP_all {p : Int} {xs : List Int} (h : xs.any (outP p) = false) : ∀ x ∈ xs, 0 ≤ x ∧ x < p := by
  intro x hx
  rw [List.any_eq_false] at h
  have := h x hx
  simp [outP] at this; omega

set_option maxHeartbeats 400000 in
theorem checkNumbers_any (p : Int) (v : Value) (xs : List Int) (w : World) (hm : xs.length ≤ 400) (hs : Sl w v xs) :
    Calls Try.prog 57 #[.int .i64 p, v] w fun e w' => e = .returned (.int .i64 (numE p xs)) ∧ Below w.heap.size w w' := by
  have HS := hid hs
  obtain ⟨a, cap, rfl, _⟩ := hs
  cases hp : (errP p != 0)
  · have hp0 : errP p = 0 := by simpa using hp
    cases hx : xs.any (outP p)
    · have e : numE p xs = 0 := by unfold numE; rw [if_pos hp0, if_neg (by simp [hx])]
      rw [e]
      clear e hp0
      go_enter Try.func57, Try.ntmps57
      go_wp2_with fail
      refine (check_any _ _).mono ?_
      rintro e w' ⟨rfl, rfl⟩
      go_wp2_with fail
      refine (anyOutside_any p _ xs _ hm HS.out).mono ?_
      rintro e w' ⟨rfl, hb⟩
      go_wp2
      go_ret
      exact ⟨rfl, hb⟩
    · have e : numE p xs = 3 := by unfold numE; rw [if_pos hp0, if_pos hx]
      rw [e]
      clear e hp0
      go_enter Try.func57, Try.ntmps57
      go_wp2_with fail
      refine (check_any _ _).mono ?_
      rintro e w' ⟨rfl, rfl⟩
      go_wp2_with fail
      refine (anyOutside_any p _ xs _ hm HS.out).mono ?_
      rintro e w' ⟨rfl, hb⟩
      go_wp2
      go_ret
      exact ⟨rfl, hb⟩
  · have e : numE p xs = errP p := by unfold numE; rw [if_neg (by simpa using hp)]
    rw [e]
    clear e
    go_enter Try.func57, Try.ntmps57
    go_wp2_with fail
    refine (check_any _ _).mono ?_
    rintro e w' ⟨rfl, rfl⟩
    go_wp2
    go_ret
    exact ⟨rfl, Below.refl _ _⟩

theorem Sl.of1 (w : World) (a : Int) (T : TypeId) : Sl (w.alloc (.cells #[.int .i64 a] T)) (.slice (some ⟨w.heap.size, 0, none⟩) 1 1) [a] := by
  refine ⟨_, _, rfl, fun _ => ⟨_, _, rfl, by simp, fun i hi => ?_⟩⟩
  simp at hi
  subst hi
  simp
theorem Sl.of2 (w : World) (a b : Int) (T : TypeId) : Sl (w.alloc (.cells #[.int .i64 a, .int .i64 b] T)) (.slice (some ⟨w.heap.size, 0, none⟩) 2 2) [a, b] := by
  refine ⟨_, _, rfl, fun _ => ⟨_, _, rfl, by simp, fun i hi => ?_⟩⟩
  simp at hi
  rcases i with _ | _ | i
  · simp
  · simp
  · omega

def fopR (g : Int → Int → Int) (p a b : Int) : Int := if numE p [a, b] = 0 then g a b % p else 0
theorem numE_two {p a b : Int} (h : numE p [a, b] = 0) : errP p = 0 ∧ 0 ≤ a ∧ a < p ∧ 0 ≤ b ∧ b < p := by
  unfold numE at h
  by_cases h1 : errP p = 0
  · rw [if_pos h1] at h
    cases h2 : [a, b].any (outP p)
    · have := outP_all h2
      have ha := this a (by simp)
      have hb := this b (by simp)
      exact ⟨h1, ha.1, ha.2, hb.1, hb.2⟩
    · rw [if_pos h2] at h; omega
  · rw [if_neg h1] at h; exact absurd h h1

set_option maxHeartbeats 400000 in
theorem moduloAdd_any (p a b : Int) (w : World) :
    Calls Try.prog 54 #[.int .i64 p, .int .i64 a, .int .i64 b, .func (.func 55) #[] #[]] w fun e w' => e = .returned (.tuple #[.int .i64 (fopR (· + ·) p a b), .int .i64 (numE p [a, b])]) ∧ Below w.heap.size w w' := by
  cases hz : (numE p [a, b] != 0)
  · have hz0 : numE p [a, b] = 0 := by simpa using hz
    obtain ⟨h1, ha, ha2, hb, hb2⟩ := numE_two hz0
    obtain ⟨hp1, hp2, _⟩ := errP_ok h1
    have e1 : fopR (· + ·) p a b = (a + b) % p := by unfold fopR; rw [if_pos hz0]
    rw [e1, hz0]
    have HZ := hid hz0
    have hbd := mul_bd (a := a) (b := b) ⟨by omega, by omega, by omega, by omega⟩
    obtain ⟨hbd1, hbd2⟩ := hbd
    clear e1 h1 hz0 hz
    go_enter Try.func54, Try.ntmps54
    go_wp2_with fail
    refine (checkNumbers_any p _ [a, b] _ (by simp) (Sl.of2 _ _ _ _)).mono ?_
    rintro e w1 ⟨rfl, hb1⟩
    rw [HZ.out]
    go_wp2_with fail
    refine (addFn_any _ _ _ ⟨by omega, by omega, by omega, by omega⟩).mono ?_
    rintro e w' ⟨rfl, rfl⟩
    go_wp2
    go_ret2
    exact ⟨rfl, belowNew.trans (hb1.mono (by simp))⟩
  · have e1 : fopR (· + ·) p a b = 0 := by unfold fopR; rw [if_neg (by simpa using hz)]
    rw [e1]
    clear e1
    go_enter Try.func54, Try.ntmps54
    go_wp2_with fail
    refine (checkNumbers_any p _ [a, b] _ (by simp) (Sl.of2 _ _ _ _)).mono ?_
    rintro e w1 ⟨rfl, hb1⟩
    go_wp2
    go_ret2
    exact ⟨rfl, belowNew.trans (hb1.mono (by simp))⟩

set_option maxHeartbeats 400000 in
theorem fieldAdd_any (p a b : Int) (w : World) :
    Calls Try.prog 10 #[.int .i64 p, .int .i64 a, .int .i64 b] w fun e w' => e = .returned (.tuple #[.int .i64 (fopR (· + ·) p a b), .int .i64 (numE p [a, b])]) ∧ Below w.heap.size w w' := by
  go_enter Try.func10, Try.ntmps10
  go_wp2_with fail
  refine (moduloAdd_any p a b _).mono ?_
  rintro e w1 ⟨rfl, hb1⟩
  go_wp2
  go_ret2
  exact ⟨rfl, hb1⟩

set_option maxHeartbeats 400000 in
theorem moduloMul_any (p a b : Int) (w : World) :
    Calls Try.prog 54 #[.int .i64 p, .int .i64 a, .int .i64 b, .func (.func 56) #[] #[]] w fun e w' => e = .returned (.tuple #[.int .i64 (fopR (· * ·) p a b), .int .i64 (numE p [a, b])]) ∧ Below w.heap.size w w' := by
  cases hz : (numE p [a, b] != 0)
  · have hz0 : numE p [a, b] = 0 := by simpa using hz
    obtain ⟨h1, ha, ha2, hb, hb2⟩ := numE_two hz0
    obtain ⟨hp1, hp2, _⟩ := errP_ok h1
    have e1 : fopR (· * ·) p a b = (a * b) % p := by unfold fopR; rw [if_pos hz0]
    rw [e1, hz0]
    have HZ := hid hz0
    have hbd := mul_bd (a := a) (b := b) ⟨by omega, by omega, by omega, by omega⟩
    obtain ⟨hbd1, hbd2⟩ := hbd
    clear e1 h1 hz0 hz
    go_enter Try.func54, Try.ntmps54
    go_wp2_with fail
    refine (checkNumbers_any p _ [a, b] _ (by simp) (Sl.of2 _ _ _ _)).mono ?_
    rintro e w1 ⟨rfl, hb1⟩
    rw [HZ.out]
    go_wp2_with fail
    refine (mulFn_any _ _ _ ⟨by omega, by omega, by omega, by omega⟩).mono ?_
    rintro e w' ⟨rfl, rfl⟩
    go_wp2
    go_ret2
    exact ⟨rfl, belowNew.trans (hb1.mono (by simp))⟩
  · have e1 : fopR (· * ·) p a b = 0 := by unfold fopR; rw [if_neg (by simpa using hz)]
    rw [e1]
    clear e1
    go_enter Try.func54, Try.ntmps54
    go_wp2_with fail
    refine (checkNumbers_any p _ [a, b] _ (by simp) (Sl.of2 _ _ _ _)).mono ?_
    rintro e w1 ⟨rfl, hb1⟩
    go_wp2
    go_ret2
    exact ⟨rfl, belowNew.trans (hb1.mono (by simp))⟩

set_option maxHeartbeats 400000 in
theorem fieldMul_any (p a b : Int) (w : World) :
    Calls Try.prog 11 #[.int .i64 p, .int .i64 a, .int .i64 b] w fun e w' => e = .returned (.tuple #[.int .i64 (fopR (· * ·) p a b), .int .i64 (numE p [a, b])]) ∧ Below w.heap.size w w' := by
  go_enter Try.func11, Try.ntmps11
  go_wp2_with fail
  refine (moduloMul_any p a b _).mono ?_
  rintro e w1 ⟨rfl, hb1⟩
  go_wp2
  go_ret2
  exact ⟨rfl, hb1⟩

/-- Powers, modulo p. -/
def pwN (p a : Nat) : Nat → Nat
  | 0 => 1
  | k + 1 => pwN p a k * a % p
theorem pwN_lt (p a : Nat) (hp : 2 ≤ p) : ∀ k, pwN p a k < p
  | 0 => by simp [pwN]; omega
  | k + 1 => by simp only [pwN]; exact Nat.mod_lt _ (by omega)
def invN (p a : Nat) : Nat := pwN p a (p - 2)
def invI (p a : Int) : Int := invN p.toNat a.toNat

def invOk (p a : Nat) : Bool := decide (1 ≤ invN p a) && decide (invN p a < p) && (a * invN p a % p == 1 % p) && (List.range (invN p a)).all fun b => a * b % p != 1 % p
/-- Each number but 0 has its inverse, modulo a prime up to 101: by trying all. -/
theorem inv_all : ((List.range 102).all fun p => !(decide (2 ≤ p) && noDiv p p) || (List.range p).all fun a => decide (a = 0) || invOk p a) = true := by decide +kernel
theorem invOk_of {p a : Nat} (h1 : 2 ≤ p) (h2 : p ≤ 101) (h3 : noDiv p p = true) (h4 : 0 < a) (h5 : a < p) : invOk p a = true := by
  have h := inv_all
  rw [List.all_eq_true] at h
  have h6 := h p (by simp; omega)
  rw [h3, decide_eq_true h1] at h6
  simp only [Bool.and_self, Bool.not_true, Bool.false_or] at h6
  rw [List.all_eq_true] at h6
  have h7 := h6 a (by simpa using h5)
  rw [decide_eq_false (by omega)] at h7
  simpa using h7

theorem cast_pw (p a k : Nat) : ((pwN p a (k + 1) : Nat) : Int) = (pwN p a k : Int) * (a : Int) % (p : Int) := by
  simp [pwN, Int.natCast_emod, Int.natCast_mul]

set_option maxHeartbeats 400000 in
theorem inverse_any (p a : Nat) (w : World) (hp : 2 ≤ p) (hp2 : p ≤ 101) (ha : a < p) :
    Calls Try.prog 58 #[.int .i64 p, .int .i64 a] w fun e w' => e = .returned (.int .i64 (invN p a)) ∧ w' = w := by
  go_enter Try.func58, Try.ntmps58
  go_wp2
  go_loop [5, 8] (fun r i => ∃ k : Nat, k ≤ p - 2 ∧ i = .int .i64 k ∧ r = .int .i64 (pwN p a k)) (fun _ i => p - (intOf i).toNat)
  case atStart => exact ⟨0, Nat.zero_le _, rfl, rfl⟩
  case round =>
    obtain ⟨k, hk, rfl, rfl⟩ := hrel
    have hlt := pwN_lt p a hp k
    by_cases hk2 : k < p - 2
    · have hc := cast_pw p a k
      have hmb := mul_bd (a := (pwN p a k : Int)) (b := (a : Int)) ⟨by omega, by omega, by omega, by omega⟩
      obtain ⟨hm1, hm2⟩ := hmb
      have HC := hid hc
      clear hc
      generalize hq : pwN p a k = q at *
      clear hq
      go_wp2
      go_round
      case rel => exact ⟨k + 1, by omega, by go_num, by rw [HC.out]⟩
      case measure => simp [intOf]; omega
    · have e : k = p - 2 := by omega
      go_wp2
      go_ret
      exact ⟨ret_int (by first | rfl | (rw [e]; rfl)), rfl⟩

end Go.Proofs.Ytkmjmmnnnbjghaa

/- Inverse; the reference's. -/
namespace Go.Proofs.Ytkmjmmnnnbjghaa
set_option linter.unusedSimpArgs false
set_option linter.unusedVariables false
open Go.RowKit

theorem numE_one {p a : Int} (h : numE p [a] = 0) : errP p = 0 ∧ 0 ≤ a ∧ a < p := by
  unfold numE at h
  by_cases h1 : errP p = 0
  · rw [if_pos h1] at h
    cases h2 : [a].any (outP p)
    · have ha := outP_all h2 a (by simp)
      exact ⟨h1, ha.1, ha.2⟩
    · rw [if_pos h2] at h; omega
  · rw [if_neg h1] at h; exact absurd h h1
def ivE (p a : Int) : Int := if numE p [a] = 0 then (if a = 0 then 5 else 0) else numE p [a]
def ivR (p a : Int) : Int := if ivE p a = 0 then invI p a else 0

set_option maxHeartbeats 400000 in
theorem fieldInverse_any (p a : Int) (w : World) :
    Calls Try.prog 12 #[.int .i64 p, .int .i64 a] w fun e w' => e = .returned (.tuple #[.int .i64 (ivR p a), .int .i64 (ivE p a)]) ∧ Below w.heap.size w w' := by
  cases hz : (numE p [a] != 0)
  · have hz0 : numE p [a] = 0 := by simpa using hz
    obtain ⟨h1, ha, ha2⟩ := numE_one hz0
    obtain ⟨hp1, hp2, _⟩ := errP_ok h1
    have HZ := hid hz0
    cases h0 : (a == 0)
    · have h0' : a ≠ 0 := by simpa using h0
      have e1 : ivE p a = 0 := by unfold ivE; rw [if_pos hz0, if_neg h0']
      have e2 : ivR p a = invI p a := by unfold ivR; rw [if_pos e1]
      rw [e1, e2]
      obtain ⟨pn, rfl⟩ : ∃ n : Nat, p = n := ⟨p.toNat, by omega⟩
      obtain ⟨an, rfl⟩ : ∃ n : Nat, a = n := ⟨a.toNat, by omega⟩
      have e3 : invI (pn : Int) (an : Int) = invN pn an := rfl
      rw [e3]
      clear e1 e2 e3 h1 hz0 hz h0'
      go_enter Try.func12, Try.ntmps12
      go_wp2_with fail
      refine (checkNumbers_any pn _ [(an : Int)] _ (by simp) (Sl.of1 _ _ _)).mono ?_
      rintro e w1 ⟨rfl, hb1⟩
      rw [HZ.out]
      go_wp2_with fail
      refine (inverse_any pn an _ (by omega) (by omega) (by omega)).mono ?_
      rintro e w' ⟨rfl, rfl⟩
      go_wp2
      go_ret2
      exact ⟨rfl, belowNew.trans (hb1.mono (by simp))⟩
    · have h0' : a = 0 := by simpa using h0
      have e1 : ivE p a = 5 := by unfold ivE; rw [if_pos hz0, if_pos h0']
      have e2 : ivR p a = 0 := by unfold ivR; rw [if_neg (by rw [e1]; decide)]
      rw [e1, e2]
      clear e1 e2 h1 hz0 hz h0'
      go_enter Try.func12, Try.ntmps12
      go_wp2_with fail
      refine (checkNumbers_any p _ [a] _ (by simp) (Sl.of1 _ _ _)).mono ?_
      rintro e w1 ⟨rfl, hb1⟩
      rw [HZ.out]
      go_wp2
      go_ret2
      exact ⟨rfl, belowNew.trans (hb1.mono (by simp))⟩
  · have e1 : ivE p a = numE p [a] := by unfold ivE; rw [if_neg (by simpa using hz)]
    have e2 : ivR p a = 0 := by unfold ivR; rw [if_neg (by rw [e1]; simpa using hz)]
    rw [e1, e2]
    clear e1 e2
    go_enter Try.func12, Try.ntmps12
    go_wp2_with fail
    refine (checkNumbers_any p _ [a] _ (by simp) (Sl.of1 _ _ _)).mono ?_
    rintro e w1 ⟨rfl, hb1⟩
    go_wp2
    go_ret2
    exact ⟨rfl, belowNew.trans (hb1.mono (by simp))⟩

theorem invOk_parts {p a : Nat} (h : invOk p a = true) : 1 ≤ invN p a ∧ invN p a < p ∧ a * invN p a % p = 1 % p ∧ ∀ b, b < invN p a → a * b % p ≠ 1 % p := by
  unfold invOk at h
  simp only [Bool.and_eq_true, decide_eq_true_eq, List.all_eq_true, beq_iff_eq, bne_iff_ne] at h
  obtain ⟨⟨⟨h1, h2⟩, h3⟩, h4⟩ := h
  exact ⟨h1, h2, h3, fun b hb => h4 b (by simpa using hb)⟩

theorem cast_test (p a k : Nat) : ((a : Int) * (k : Int) % (p : Int) == 1 % (p : Int)) = decide (a * k % p = 1 % p) := by
  have e1 : (a : Int) * (k : Int) % (p : Int) = ((a * k % p : Nat) : Int) := by simp
  have e2 : (1 : Int) % (p : Int) = ((1 % p : Nat) : Int) := by simp
  rw [e1, e2]
  by_cases h : a * k % p = 1 % p
  · simp [h]
  · rw [decide_eq_false h]; simp only [beq_eq_false_iff_ne]; intro e; exact h (by exact_mod_cast e)

set_option maxHeartbeats 400000 in
theorem inverseOf_any (p a : Nat) (w : World) (hp : 2 ≤ p) (hp2 : p ≤ 101) (ha : a < p) (hok : invOk p a = true) :
    Calls Try.prog 15 #[.int .i64 p, .int .i64 a] w fun e w' => e = .returned (.int .i64 (invN p a)) ∧ ∃ n, w' = w.drewN n := by
  have PARTS := hid (invOk_parts hok)
  clear hok
  go_enter Try.func15, Try.ntmps15
  go_wp2
  go_loopw [5] (fun i wr => ∃ k n : Nat, 1 ≤ k ∧ k ≤ invN p a ∧ i = .int .i64 k ∧ wr = w.drewN n) (fun i _ => p - (intOf i).toNat)
  case atStart => exact ⟨1, 0, by omega, PARTS.out.1, rfl, rfl⟩
  case round =>
    obtain ⟨k, n0, hk1, hk, rfl, hw0⟩ := hrel
    have HW := hid hw0
    have HK := hid hk
    have hkp : k < p := by have := PARTS.out.2.1; omega
    have hmb := mul_bd (a := (a : Int)) (b := (k : Int)) ⟨by omega, by omega, by omega, by omega⟩
    obtain ⟨hm1, hm2⟩ := hmb
    have hct := cast_test p a k
    clear hw0 hk
    by_cases he : k = invN p a
    · have ht : ((a : Int) * (k : Int) % (p : Int) == 1 % (p : Int)) = true := by rw [hct, he]; exact decide_eq_true PARTS.out.2.2.1
      have HE := hid he
      clear hct he
      go_wp2
      go_quiet (fail)
      go_wp2
      go_ret
      exact ⟨ret_int (by rw [← HE.out]), _, by rw [HW.out, World.drewN_drewN]⟩
    · have ht : ((a : Int) * (k : Int) % (p : Int) == 1 % (p : Int)) = false := by
        rw [hct]; exact decide_eq_false (PARTS.out.2.2.2 k (by have := HK.out; omega))
      have HE := hid he
      clear hct he
      go_wp2
      go_quiet (fail)
      go_wp2
      go_roundw
      case rel => exact ⟨k + 1, _, by omega, by have := HK.out; have := HE.out; omega, by go_num, by rw [HW.out, World.drewN_drewN]⟩
      case measure => simp [intOf]; omega

end Go.Proofs.Ytkmjmmnnnbjghaa

/- Looking through rows. -/
namespace Go.Proofs.Ytkmjmmnnnbjghaa
set_option linter.unusedSimpArgs false
set_option linter.unusedVariables false
open Go.RowKit

/-- A list of rows. -/
def Rws (w : World) (v : Value) (xss : List (List Int)) : Prop :=
  ∃ a cap, v = .slice a xss.length cap ∧ (0 < xss.length → ∃ b off, a = some ⟨b, off, none⟩ ∧ b < w.heap.size ∧ SlsAt w b off xss)
theorem Rws.below {w w' : World} {v : Value} {xss : List (List Int)} (h : Rws w v xss) (hb : Below w.heap.size w w') : Rws w' v xss := by
  obtain ⟨a, cap, rfl, h⟩ := h
  refine ⟨a, cap, rfl, fun hp => ?_⟩
  obtain ⟨b, off, rfl, hlt, hc⟩ := h hp
  exact ⟨b, off, rfl, Nat.lt_of_lt_of_le hlt hb.size, hc.below hlt hb⟩

theorem anyR_take (f : List Int → Bool) (xs : List (List Int)) (k : Nat) (h : k < xs.length) (h0 : (xs.take k).any f = false) (h1 : f (xs.getD k []) = false) : (xs.take (k + 1)).any f = false := by
  rw [List.take_succ_eq_append_getElem h, List.any_append, h0]
  rw [List.getD_eq_getElem?_getD, List.getElem?_eq_getElem h] at h1
  simpa using h1
theorem getR_mem (xs : List (List Int)) (k : Nat) (h : k < xs.length) : xs.getD k [] ∈ xs := by
  rw [List.getD_eq_getElem?_getD, List.getElem?_eq_getElem h]; simp
theorem anyR_at (f : List Int → Bool) (xs : List (List Int)) (k : Nat) (h : k < xs.length) (h1 : f (xs.getD k []) = true) : xs.any f = true := by
  rw [List.any_eq_true]; exact ⟨_, getR_mem xs k h, h1⟩

set_option maxHeartbeats 400000 in
theorem indexNone_any (f : Value) (a : Option Addr) (cap : Nat) (w : World) :
    Calls Try.prog 124 #[.slice a 0 cap, f] w fun e w' => e = .returned (.int .i64 (-1)) ∧ w' = w := by
  go_enter Try.func124, Try.ntmps124
  go_wp2
  go_loop [8] (fun i => i = .int .i64 0) (fun _ => 0)
  case atStart => rfl
  case round =>
    subst hrel
    go_wp2
    go_ret
    exact ⟨rfl, rfl⟩

set_option maxHeartbeats 400000 in
theorem indexLong_any (t : List Int → Bool) (xss : List (List Int)) (b off cap : Nat) (w : World) (hm : xss.length ≤ 400) (hlt : b < w.heap.size) (hs : SlsAt w b off xss)
    (hK : ∀ (W : World) (v : Value) (xs : List Int), Below w.heap.size w W → Sl W v xs → xs ∈ xss → Calls Try.prog 102 #[v] W fun e w' => e = .returned (.bool (t xs)) ∧ Below W.heap.size W w') :
    Calls Try.prog 124 #[.slice (some ⟨b, off, none⟩) xss.length cap, .func (.func 102) #[] #[]] w fun e w' =>
      ∃ r : Int, e = .returned (.int .i64 r) ∧ decide (0 ≤ r) = xss.any t ∧ Below w.heap.size w w' := by
  have HS := hid hs
  have HK := hid hK
  clear hs hK
  go_enter Try.func124, Try.ntmps124
  go_wp2
  go_loopw [8] (fun i wr => ∃ k : Nat, k ≤ xss.length ∧ i = .int .i64 k ∧ (xss.take k).any t = false ∧ Below w.heap.size w wr) (fun i _ => xss.length - (intOf i).toNat)
  case atStart => exact ⟨0, Nat.zero_le _, rfl, by simp, Below.refl _ _⟩
  case round =>
    obtain ⟨k, hk, rfl, hn, hbr⟩ := hrel
    have HN := hid hn
    have HBR := hid hbr
    by_cases hk2 : k < xss.length
    · obtain ⟨vv, hcell, hsl⟩ := HS.out k hk2
      rw [← hbr.cell (p := ⟨b, off + k, none⟩) hlt] at hcell
      have HSL := hid (hsl.below hbr)
      have H1 := hid (anyR_take t xss k hk2 HN.out)
      have H2 := hid (anyR_at t xss k hk2)
      have HM := hid (getR_mem xss k hk2)
      clear hn hbr hsl
      generalize xss.getD k [] = xs at HSL H1 H2 HM
      obtain ⟨a, cc, hvv, _⟩ := HSL.out
      subst hvv
      have CON := hid (HK.out wr _ xs HBR.out HSL.out HM.out)
      cases hy : t xs
      · rw [hy] at CON
        go_wp2_with (go_at_call 102; refine CON.out.mono ?_; rintro e w2 ⟨rfl, hb2⟩)
        go_roundw
        case rel => exact ⟨k + 1, by omega, by go_num, H1.out hy, HBR.out.trans (hb2.mono HBR.out.size)⟩
        case measure => simp [intOf]; omega
      · rw [hy] at CON
        go_wp2_with (go_at_call 102; refine CON.out.mono ?_; rintro e w2 ⟨rfl, hb2⟩)
        go_ret
        exact ⟨(k : Int), rfl, by rw [H2.out hy]; simp, HBR.out.trans (hb2.mono HBR.out.size)⟩
    · clear hn hbr
      go_wp2
      go_ret
      exact ⟨-1, rfl, by have := HN.out; rw [List.take_of_length_le (by omega)] at this; rw [this]; simp, HBR.out⟩

set_option maxHeartbeats 400000 in
theorem containsLong_any (t : List Int → Bool) (v : Value) (xss : List (List Int)) (w : World) (hm : xss.length ≤ 400) (hr : Rws w v xss)
    (hK : ∀ (W : World) (v : Value) (xs : List Int), Below w.heap.size w W → Sl W v xs → xs ∈ xss → Calls Try.prog 102 #[v] W fun e w' => e = .returned (.bool (t xs)) ∧ Below W.heap.size W w') :
    Calls Try.prog 101 #[v, .func (.func 102) #[] #[]] w fun e w' => e = .returned (.bool (xss.any t)) ∧ Below w.heap.size w w' := by
  obtain ⟨a, cap, rfl, h1⟩ := hr
  have HK := hid hK
  clear hK
  by_cases h0 : 0 < xss.length
  · obtain ⟨b, off, rfl, hlt, hc⟩ := h1 h0
    have HC := hid hc
    clear hc h1 h0
    go_enter Try.func101, Try.ntmps101
    go_wp2_with (go_at_call 124; refine (indexLong_any t xss _ _ _ _ hm hlt HC.out HK.out).mono ?_; rintro e w' ⟨r, rfl, hr, hb⟩)
    go_ret
    exact ⟨by rw [← hr]; rfl, hb⟩
  · have e : xss = [] := List.length_eq_zero_iff.1 (by omega)
    subst e
    clear h1 h0 hm HK
    go_enter Try.func101, Try.ntmps101
    go_wp2_with (go_at_call 124; refine (indexNone_any _ _ _ _).mono ?_; rintro e w' ⟨rfl, rfl⟩)
    go_ret
    exact ⟨rfl, Below.refl _ _⟩

set_option maxHeartbeats 400000 in
theorem indexUnlike_any (t : List Int → Bool) (xss : List (List Int)) (b off cap cb : Nat) (w : World) (hm : xss.length ≤ 400) (hlt : b < w.heap.size) (hs : SlsAt w b off xss)
    (hK : ∀ (W : World) (v : Value) (xs : List Int), Below w.heap.size w W → Sl W v xs → xs ∈ xss → Calls Try.prog 103 #[v, .pointer (some ⟨cb, 0, none⟩)] W fun e w' => e = .returned (.bool (t xs)) ∧ Below W.heap.size W w') :
    Calls Try.prog 124 #[.slice (some ⟨b, off, none⟩) xss.length cap, .func (.func 103) #[] #[.pointer (some ⟨cb, 0, none⟩)]] w fun e w' =>
      ∃ r : Int, e = .returned (.int .i64 r) ∧ decide (0 ≤ r) = xss.any t ∧ Below w.heap.size w w' := by
  have HS := hid hs
  have HK := hid hK
  clear hs hK
  go_enter Try.func124, Try.ntmps124
  go_wp2
  go_loopw [8] (fun i wr => ∃ k : Nat, k ≤ xss.length ∧ i = .int .i64 k ∧ (xss.take k).any t = false ∧ Below w.heap.size w wr) (fun i _ => xss.length - (intOf i).toNat)
  case atStart => exact ⟨0, Nat.zero_le _, rfl, by simp, Below.refl _ _⟩
  case round =>
    obtain ⟨k, hk, rfl, hn, hbr⟩ := hrel
    have HN := hid hn
    have HBR := hid hbr
    by_cases hk2 : k < xss.length
    · obtain ⟨vv, hcell, hsl⟩ := HS.out k hk2
      rw [← hbr.cell (p := ⟨b, off + k, none⟩) hlt] at hcell
      have HSL := hid (hsl.below hbr)
      have H1 := hid (anyR_take t xss k hk2 HN.out)
      have H2 := hid (anyR_at t xss k hk2)
      have HM := hid (getR_mem xss k hk2)
      clear hn hbr hsl
      generalize xss.getD k [] = xs at HSL H1 H2 HM
      obtain ⟨a, cc, hvv, _⟩ := HSL.out
      subst hvv
      have CON := hid (HK.out wr _ xs HBR.out HSL.out HM.out)
      cases hy : t xs
      · rw [hy] at CON
        go_wp2_with (go_at_call 103; refine CON.out.mono ?_; rintro e w2 ⟨rfl, hb2⟩)
        go_roundw
        case rel => exact ⟨k + 1, by omega, by go_num, H1.out hy, HBR.out.trans (hb2.mono HBR.out.size)⟩
        case measure => simp [intOf]; omega
      · rw [hy] at CON
        go_wp2_with (go_at_call 103; refine CON.out.mono ?_; rintro e w2 ⟨rfl, hb2⟩)
        go_ret
        exact ⟨(k : Int), rfl, by rw [H2.out hy]; simp, HBR.out.trans (hb2.mono HBR.out.size)⟩
    · clear hn hbr
      go_wp2
      go_ret
      exact ⟨-1, rfl, by have := HN.out; rw [List.take_of_length_le (by omega)] at this; rw [this]; simp, HBR.out⟩

set_option maxHeartbeats 400000 in
theorem containsUnlike_any (t : List Int → Bool) (v : Value) (xss : List (List Int)) (cb : Nat) (w : World) (hm : xss.length ≤ 400) (hr : Rws w v xss)
    (hK : ∀ (W : World) (v : Value) (xs : List Int), Below w.heap.size w W → Sl W v xs → xs ∈ xss → Calls Try.prog 103 #[v, .pointer (some ⟨cb, 0, none⟩)] W fun e w' => e = .returned (.bool (t xs)) ∧ Below W.heap.size W w') :
    Calls Try.prog 101 #[v, .func (.func 103) #[] #[.pointer (some ⟨cb, 0, none⟩)]] w fun e w' => e = .returned (.bool (xss.any t)) ∧ Below w.heap.size w w' := by
  obtain ⟨a, cap, rfl, h1⟩ := hr
  have HK := hid hK
  clear hK
  by_cases h0 : 0 < xss.length
  · obtain ⟨b, off, rfl, hlt, hc⟩ := h1 h0
    have HC := hid hc
    clear hc h1 h0
    go_enter Try.func101, Try.ntmps101
    go_wp2_with (go_at_call 124; refine (indexUnlike_any t xss _ _ _ _ _ hm hlt HC.out HK.out).mono ?_; rintro e w' ⟨r, rfl, hr, hb⟩)
    go_ret
    exact ⟨by rw [← hr]; rfl, hb⟩
  · have e : xss = [] := List.length_eq_zero_iff.1 (by omega)
    subst e
    clear h1 h0 hm HK
    go_enter Try.func101, Try.ntmps101
    go_wp2_with (go_at_call 124; refine (indexNone_any _ _ _ _).mono ?_; rintro e w' ⟨rfl, rfl⟩)
    go_ret
    exact ⟨rfl, Below.refl _ _⟩

set_option maxHeartbeats 400000 in
theorem indexRange_any (t : List Int → Bool) (xss : List (List Int)) (b off cap cb : Nat) (w : World) (hm : xss.length ≤ 400) (hlt : b < w.heap.size) (hs : SlsAt w b off xss)
    (hK : ∀ (W : World) (v : Value) (xs : List Int), Below w.heap.size w W → Sl W v xs → xs ∈ xss → Calls Try.prog 104 #[v, .pointer (some ⟨cb, 0, none⟩)] W fun e w' => e = .returned (.bool (t xs)) ∧ Below W.heap.size W w') :
    Calls Try.prog 124 #[.slice (some ⟨b, off, none⟩) xss.length cap, .func (.func 104) #[] #[.pointer (some ⟨cb, 0, none⟩)]] w fun e w' =>
      ∃ r : Int, e = .returned (.int .i64 r) ∧ decide (0 ≤ r) = xss.any t ∧ Below w.heap.size w w' := by
  have HS := hid hs
  have HK := hid hK
  clear hs hK
  go_enter Try.func124, Try.ntmps124
  go_wp2
  go_loopw [8] (fun i wr => ∃ k : Nat, k ≤ xss.length ∧ i = .int .i64 k ∧ (xss.take k).any t = false ∧ Below w.heap.size w wr) (fun i _ => xss.length - (intOf i).toNat)
  case atStart => exact ⟨0, Nat.zero_le _, rfl, by simp, Below.refl _ _⟩
  case round =>
    obtain ⟨k, hk, rfl, hn, hbr⟩ := hrel
    have HN := hid hn
    have HBR := hid hbr
    by_cases hk2 : k < xss.length
    · obtain ⟨vv, hcell, hsl⟩ := HS.out k hk2
      rw [← hbr.cell (p := ⟨b, off + k, none⟩) hlt] at hcell
      have HSL := hid (hsl.below hbr)
      have H1 := hid (anyR_take t xss k hk2 HN.out)
      have H2 := hid (anyR_at t xss k hk2)
      have HM := hid (getR_mem xss k hk2)
      clear hn hbr hsl
      generalize xss.getD k [] = xs at HSL H1 H2 HM
      obtain ⟨a, cc, hvv, _⟩ := HSL.out
      subst hvv
      have CON := hid (HK.out wr _ xs HBR.out HSL.out HM.out)
      cases hy : t xs
      · rw [hy] at CON
        go_wp2_with (go_at_call 104; refine CON.out.mono ?_; rintro e w2 ⟨rfl, hb2⟩)
        go_roundw
        case rel => exact ⟨k + 1, by omega, by go_num, H1.out hy, HBR.out.trans (hb2.mono HBR.out.size)⟩
        case measure => simp [intOf]; omega
      · rw [hy] at CON
        go_wp2_with (go_at_call 104; refine CON.out.mono ?_; rintro e w2 ⟨rfl, hb2⟩)
        go_ret
        exact ⟨(k : Int), rfl, by rw [H2.out hy]; simp, HBR.out.trans (hb2.mono HBR.out.size)⟩
    · clear hn hbr
      go_wp2
      go_ret
      exact ⟨-1, rfl, by have := HN.out; rw [List.take_of_length_le (by omega)] at this; rw [this]; simp, HBR.out⟩

set_option maxHeartbeats 400000 in
theorem containsRange_any (t : List Int → Bool) (v : Value) (xss : List (List Int)) (cb : Nat) (w : World) (hm : xss.length ≤ 400) (hr : Rws w v xss)
    (hK : ∀ (W : World) (v : Value) (xs : List Int), Below w.heap.size w W → Sl W v xs → xs ∈ xss → Calls Try.prog 104 #[v, .pointer (some ⟨cb, 0, none⟩)] W fun e w' => e = .returned (.bool (t xs)) ∧ Below W.heap.size W w') :
    Calls Try.prog 101 #[v, .func (.func 104) #[] #[.pointer (some ⟨cb, 0, none⟩)]] w fun e w' => e = .returned (.bool (xss.any t)) ∧ Below w.heap.size w w' := by
  obtain ⟨a, cap, rfl, h1⟩ := hr
  have HK := hid hK
  clear hK
  by_cases h0 : 0 < xss.length
  · obtain ⟨b, off, rfl, hlt, hc⟩ := h1 h0
    have HC := hid hc
    clear hc h1 h0
    go_enter Try.func101, Try.ntmps101
    go_wp2_with (go_at_call 124; refine (indexRange_any t xss _ _ _ _ _ hm hlt HC.out HK.out).mono ?_; rintro e w' ⟨r, rfl, hr, hb⟩)
    go_ret
    exact ⟨by rw [← hr]; rfl, hb⟩
  · have e : xss = [] := List.length_eq_zero_iff.1 (by omega)
    subst e
    clear h1 h0 hm HK
    go_enter Try.func101, Try.ntmps101
    go_wp2_with (go_at_call 124; refine (indexNone_any _ _ _ _).mono ?_; rintro e w' ⟨rfl, rfl⟩)
    go_ret
    exact ⟨rfl, Below.refl _ _⟩

set_option maxHeartbeats 400000 in
theorem longFn_any (v : Value) (xs : List Int) (w : World) (hs : Sl w v xs) :
    Calls Try.prog 102 #[v] w fun e w' => e = .returned (.bool (decide (400 < (xs.length : Int)))) ∧ Below w.heap.size w w' := by
  obtain ⟨a, cap, rfl, _⟩ := hs
  go_enter Try.func102, Try.ntmps102
  go_wp2
  go_ret
  exact ⟨rfl, Below.refl _ _⟩

set_option maxHeartbeats 400000 in
theorem unlikeFn_any (v r : Value) (xs : List Int) (xss : List (List Int)) (cb : Nat) (w : World) (hs : Sl w v xs) (hr : Rws w r xss) (h0 : 0 < xss.length) (hc : w.cell? ⟨cb, 0, none⟩ = some r) :
    Calls Try.prog 103 #[v, .pointer (some ⟨cb, 0, none⟩)] w fun e w' => e = .returned (.bool ((xs.length : Int) != ((xss.getD 0 []).length : Int))) ∧ Below w.heap.size w w' := by
  obtain ⟨a, cap, rfl, _⟩ := hs
  obtain ⟨a2, cap2, rfl, h2⟩ := hr
  obtain ⟨b, off, rfl, hlt, hsl⟩ := h2 h0
  obtain ⟨vv, hcell, hs0⟩ := hsl 0 h0
  obtain ⟨a3, cap3, hvv, _⟩ := hs0
  subst hvv
  rw [Nat.add_zero] at hcell
  have h00 : (0 : Int) < (xss.length : Int) := by omega
  clear h2 hsl h0
  generalize (xss.getD 0 []).length = m at *
  go_enter Try.func103, Try.ntmps103
  go_wp2
  go_ret
  exact ⟨rfl, Below.refl _ _⟩

set_option maxHeartbeats 400000 in
theorem rangeFn_any (p : Int) (v : Value) (xs : List Int) (cb : Nat) (w : World) (hm : xs.length ≤ 400) (hs : Sl w v xs) (hc : w.cell? ⟨cb, 0, none⟩ = some (.int .i64 p)) :
    Calls Try.prog 104 #[v, .pointer (some ⟨cb, 0, none⟩)] w fun e w' => e = .returned (.bool (xs.any (outP p))) ∧ Below w.heap.size w w' := by
  have HS := hid hs
  obtain ⟨a, cap, rfl, _⟩ := hs
  go_enter Try.func104, Try.ntmps104
  go_wp2_with fail
  refine (anyOutside_any p _ xs _ hm HS.out).mono ?_
  rintro e w1 ⟨rfl, hb⟩
  go_wp2
  go_ret
  exact ⟨rfl, hb⟩

/-- What is said of rows, the prime being right. -/
def longR (xs : List Int) : Bool := decide (400 < (xs.length : Int))
def unlikeR (n : Nat) (xs : List Int) : Bool := (xs.length : Int) != (n : Int)
def rowE (p : Int) (xss : List (List Int)) : Int :=
  if 400 < (xss.length : Int) ∨ xss.any longR = true then 2 else if xss.any (unlikeR (xss.getD 0 []).length) then 1 else if xss.any (fun xs => xs.any (outP p)) then 3 else 0
def rowsE (p : Int) (xss : List (List Int)) : Int := if errP p = 0 then rowE p xss else errP p

end Go.Proofs.Ytkmjmmnnnbjghaa

/- Rows that came in. -/
namespace Go.Proofs.Ytkmjmmnnnbjghaa
set_option linter.unusedSimpArgs false
set_option linter.unusedVariables false
open Go.ChangeShapes Go.WideShapes Go.ChangeAt Go.RowKit Go.Deep

theorem Try.ownR : ownKnob Try.prog.godebug = none := by kernel_rfl
theorem Try.laidOutR : laidOutB Try.prog = true := by kernel_rfl
theorem Try.cellsIntR : Try.prog.cellsOf 3 = 1 := by kernel_rfl
theorem Try.cellsIntsR : Try.prog.cellsOf 36 = 1 := by kernel_rfl

theorem cellLt {w : World} {a : Addr} {v : Value} (h : w.cell? a = some v) : a.block < w.heap.size := World.block_lt_of_cell? w a h

theorem addrAt {w : World} {a : Addr} {v : Value} (h : w.cell? (a.add 0) = some v) : ∃ b off, a = ⟨b, off, none⟩ := by
  obtain ⟨b, off, spot⟩ := a
  have hspot : spot = none := by simpa [Addr.add] using World.cell?_spot h
  exact ⟨b, off, by rw [hspot]⟩
theorem cellAdd {w : World} {b off i : Nat} {v : Value} (h : w.cell? ((⟨b, off, none⟩ : Addr).add i) = some v) : w.cell? ⟨b, off + i, none⟩ = some v := by
  by_cases h0 : i = 0
  · subst h0; simpa [Addr.add] using h
  · simpa [Addr.add, h0] using h

theorem rws_of {H : Type} {enc : TypeId × Value → H} {W : World} {v : Value} {d : DataW H} {p : List MemPlace} (hv : ∃ a len cap, v = .slice a len cap)
    (h : DataW.Trod enc Try.prog W 0 (fun _ => true) true 31 v d p) : ∃ xss : List (List Int), Rws W v xss := by
  obtain ⟨a0, len0, cap0, rfl⟩ := hv
  obtain ⟨fuel, hf⟩ := h
  rcases open_int_rows Try.underlying31 Try.underlying36 Try.underlying3 Try.cellsIntsR Try.cellsIntR hf with ⟨hcs, _⟩ | ⟨a, len, cap, A, L, C, Z, hcs, _, hl, _, _, hall⟩
  · simp [Value.cells] at hcs
    obtain ⟨rfl, rfl, rfl⟩ := hcs
    exact ⟨[], none, 0, rfl, fun h => absurd h (by simp)⟩
  · simp [Value.cells] at hcs
    obtain ⟨rfl, rfl, rfl⟩ := hcs
    refine ⟨(List.range len0).map (fun r => (Z r).take (L r)), some a, cap0, by simp, fun hp => ?_⟩
    simp at hp
    obtain ⟨b, off, rfl⟩ := addrAt (hall 0 (by omega)).1
    refine ⟨b, off, rfl, cellLt (hall 0 (by omega)).1, fun i hi => ?_⟩
    simp at hi
    obtain ⟨hc, hL, _, hZ, _, hnone, hsome⟩ := hall i (by omega)
    have hg : ((List.range len0).map (fun r => (Z r).take (L r))).getD i [] = (Z i).take (L i) := by
      simp [List.getD_eq_getElem?_getD, hi]
    have hzl : ((Z i).take (L i)).length = L i := by rw [List.length_take]; omega
    rw [hg]
    refine ⟨_, cellAdd hc, A i, C i, by rw [hzl], fun hpos => ?_⟩
    rw [hzl] at hpos
    cases hA : A i with
    | none => have := hnone hA; omega
    | some a' =>
      obtain ⟨_, hcells⟩ := hsome a' hA
      obtain ⟨b', off', rfl⟩ := addrAt (hcells 0 (by omega))
      refine ⟨b', off', rfl, cellLt (hcells 0 (by omega)), fun j hj => ?_⟩
      rw [hzl] at hj
      have e : ((Z i).take (L i)).getD j 0 = (Z i).getD j 0 := by
        simp [List.getD_eq_getElem?_getD, List.getElem?_take, hj]
      rw [e]
      exact cellAdd (hcells j (by omega))

end Go.Proofs.Ytkmjmmnnnbjghaa

/- checkRows; CheckRows of the reference. -/
namespace Go.Proofs.Ytkmjmmnnnbjghaa
set_option linter.unusedSimpArgs false
set_option linter.unusedVariables false
open Go.RowKit

theorem belowTwo {w : World} {A B : Obj} : Below w.heap.size w ((w.alloc A).alloc B) := belowNew.trans (belowNew.mono (by simp))
theorem longR_ok {xss : List (List Int)} (h : xss.any longR = false) : ∀ xs ∈ xss, xs.length ≤ 400 := by
  intro xs hx
  rw [List.any_eq_false] at h
  have := h xs hx
  simp [longR] at this; omega

set_option maxHeartbeats 1000000 in
theorem checkRows_any (p : Int) (v : Value) (xss : List (List Int)) (w : World) (hr : Rws w v xss) :
    Calls Try.prog 60 #[.int .i64 p, v] w fun e w' => e = .returned (.int .i64 (rowsE p xss)) ∧ Below w.heap.size w w' := by
  have HR := hid hr
  obtain ⟨a, cap, rfl, _⟩ := hr
  cases hp : (errP p != 0)
  · have hp0 : errP p = 0 := by simpa using hp
    have HE : Hid (rowsE p xss = rowE p xss) := by unfold Hid rowsE; rw [if_pos hp0]
    rw [HE.out]
    clear HE hp0
    by_cases hl : 400 < (xss.length : Int)
    · have e : rowE p xss = 2 := by unfold rowE; rw [if_pos (Or.inl hl)]
      rw [e]
      clear e
      go_enter Try.func60, Try.ntmps60
      go_wp2_with fail
      refine (check_any _ _).mono ?_
      rintro e w' ⟨rfl, rfl⟩
      go_wp2
      go_ret
      exact ⟨rfl, belowTwo⟩
    · have hm : xss.length ≤ 400 := by omega
      cases h1 : xss.any longR
      · have h1' := longR_ok h1
        have H1 := hid h1'
        cases h2 : xss.any (unlikeR (xss.getD 0 []).length)
        · cases h3 : xss.any (fun xs => xs.any (outP p))
          all_goals
            have e : rowE p xss = if xss.any (fun xs => xs.any (outP p)) then 3 else 0 := by unfold rowE; rw [if_neg (by simp [h1]; omega), if_neg (by rw [h2]; exact Bool.false_ne_true)]
            rw [e, h3]
            clear e h1'
            go_enter Try.func60, Try.ntmps60
            go_wp2_with fail
            refine (check_any _ _).mono ?_
            rintro e w' ⟨rfl, rfl⟩
            go_wp2_with fail
            refine (containsLong_any longR _ xss _ hm (HR.out.below belowTwo) (fun W v xs hb hs _ => longFn_any v xs W hs)).mono ?_
            rintro e w1 ⟨rfl, hb1⟩
            have hc1 := hb1.cell (p := ⟨w.heap.size + 1, 0, none⟩) (by simp)
            have hc0 := hb1.cell (p := ⟨w.heap.size, 0, none⟩) (by simp; omega)
            have hs1 : w.heap.size + 2 ≤ w1.heap.size := by have := hb1.size; simp at this; omega
            have hbw1 : Below w.heap.size w w1 := belowTwo.trans (hb1.mono (by simp; omega))
            simp [go_sem] at hc1 hc0
            clear hb1
            go_wp2_with fail
            refine (containsUnlike_any (unlikeR (xss.getD 0 []).length) _ xss _ _ hm (HR.out.below hbw1) (fun W v xs hb hs hx => unlikeFn_any v _ xs xss _ W hs (HR.out.below (hbw1.trans (hb.mono hbw1.size))) (List.length_pos_of_mem hx) (by rw [hb.cell (p := ⟨w.heap.size + 1, 0, none⟩) (show w.heap.size + 1 < _ by omega)]; exact hc1))).mono ?_
            rintro e w2 ⟨rfl, hb2⟩
            rw [h2]
            have hd1 := hb2.cell (p := ⟨w.heap.size + 1, 0, none⟩) (show w.heap.size + 1 < _ by omega)
            have hd0 := hb2.cell (p := ⟨w.heap.size, 0, none⟩) (show w.heap.size < _ by omega)
            rw [hc1] at hd1
            rw [hc0] at hd0
            have hs2 : w.heap.size + 2 ≤ w2.heap.size := Nat.le_trans hs1 hb2.size
            have hbw2 : Below w.heap.size w w2 := hbw1.trans (hb2.mono hbw1.size)
            clear hb2 hc0 hc1 hs1 hbw1
            go_wp2_with fail
            refine (containsRange_any (fun xs => xs.any (outP p)) _ xss _ _ hm (HR.out.below hbw2) (fun W v xs hb hs hx => rangeFn_any p v xs _ W (H1.out xs hx) hs (by rw [hb.cell (p := ⟨w.heap.size, 0, none⟩) (show w.heap.size < _ by omega)]; exact hd0))).mono ?_
            rintro e w3 ⟨rfl, hb3⟩
            have hbw3 : Below w.heap.size w w3 := hbw2.trans (hb3.mono hbw2.size)
            rw [h3]
            go_wp2
            go_ret
            exact ⟨rfl, hbw3⟩
        · have e : rowE p xss = 1 := by unfold rowE; rw [if_neg (by simp [h1]; omega), if_pos h2]
          rw [e]
          clear e h1'
          go_enter Try.func60, Try.ntmps60
          go_wp2_with fail
          refine (check_any _ _).mono ?_
          rintro e w' ⟨rfl, rfl⟩
          go_wp2_with fail
          refine (containsLong_any longR _ xss _ hm (HR.out.below belowTwo) (fun W v xs hb hs _ => longFn_any v xs W hs)).mono ?_
          rintro e w1 ⟨rfl, hb1⟩
          have hc1 := hb1.cell (p := ⟨w.heap.size + 1, 0, none⟩) (by simp)
          have hs1 : w.heap.size + 2 ≤ w1.heap.size := by have := hb1.size; simp at this; omega
          have hbw1 : Below w.heap.size w w1 := belowTwo.trans (hb1.mono (by simp; omega))
          simp [go_sem] at hc1
          clear hb1
          go_wp2_with fail
          refine (containsUnlike_any (unlikeR (xss.getD 0 []).length) _ xss _ _ hm (HR.out.below hbw1) (fun W v xs hb hs hx => unlikeFn_any v _ xs xss _ W hs (HR.out.below (hbw1.trans (hb.mono hbw1.size))) (List.length_pos_of_mem hx) (by rw [hb.cell (p := ⟨w.heap.size + 1, 0, none⟩) (show w.heap.size + 1 < _ by omega)]; exact hc1))).mono ?_
          rintro e w2 ⟨rfl, hb2⟩
          rw [h2]
          go_wp2
          go_ret
          exact ⟨rfl, hbw1.trans (hb2.mono hbw1.size)⟩
      · have e : rowE p xss = 2 := by unfold rowE; rw [if_pos (Or.inr h1)]
        rw [e]
        clear e
        go_enter Try.func60, Try.ntmps60
        go_wp2_with fail
        refine (check_any _ _).mono ?_
        rintro e w' ⟨rfl, rfl⟩
        go_wp2_with fail
        refine (containsLong_any longR _ xss _ hm (HR.out.below belowTwo) (fun W v xs hb hs _ => longFn_any v xs W hs)).mono ?_
        rintro e w1 ⟨rfl, hb1⟩
        go_wp2
        go_ret
        exact ⟨rfl, belowTwo.trans (hb1.mono (by simp; omega))⟩
  · have e : rowsE p xss = errP p := by unfold rowsE; rw [if_neg (by simpa using hp)]
    rw [e]
    clear e
    go_enter Try.func60, Try.ntmps60
    go_wp2_with fail
    refine (check_any _ _).mono ?_
    rintro e w' ⟨rfl, rfl⟩
    go_wp2
    go_ret
    exact ⟨rfl, belowTwo⟩

end Go.Proofs.Ytkmjmmnnnbjghaa
