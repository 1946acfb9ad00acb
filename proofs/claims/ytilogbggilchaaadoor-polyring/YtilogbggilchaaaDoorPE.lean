/- Plain mathematics: merging two, scaling by a term, sums of many. -/
import Derived.Test.YtilogbggilchaaaDoorPB
namespace Go.Proofs.YtilogbggilchaaaDoor
set_option linter.unusedSimpArgs false
set_option linter.unusedVariables false
def mergeL (p o : Int) : List Tm → List Tm → List Tm
  | [], g => g
  | t :: f, [] => t :: f
  | t :: f, u :: g =>
    if 0 < ordS o t.2 u.2 then t :: mergeL p o f (u :: g)
    else if ordS o t.2 u.2 < 0 then u :: mergeL p o (t :: f) g
    else if (t.1 + u.1) % p ≠ 0 then ((t.1 + u.1) % p, t.2) :: mergeL p o f g else mergeL p o f g
theorem merge_nilL (p o : Int) (g : List Tm) : mergeL p o [] g = g := by unfold mergeL; rfl
theorem merge_nilR (p o : Int) (f : List Tm) : mergeL p o f [] = f := by cases f <;> (unfold mergeL; rfl)
theorem merge_gt {p o : Int} {t u : Tm} {f g : List Tm} (h : 0 < ordS o t.2 u.2) : mergeL p o (t :: f) (u :: g) = t :: mergeL p o f (u :: g) := by
  rw [mergeL.eq_def]; simp [h]
theorem merge_lt {p o : Int} {t u : Tm} {f g : List Tm} (h : ordS o t.2 u.2 < 0) : mergeL p o (t :: f) (u :: g) = u :: mergeL p o (t :: f) g := by
  rw [mergeL.eq_def]; simp [h, show ¬ 0 < ordS o t.2 u.2 by omega]
theorem merge_eq {p o : Int} {t u : Tm} {f g : List Tm} (h : ordS o t.2 u.2 = 0) (h2 : (t.1 + u.1) % p ≠ 0) : mergeL p o (t :: f) (u :: g) = ((t.1 + u.1) % p, t.2) :: mergeL p o f g := by
  rw [mergeL.eq_def]; simp [h, h2]
theorem merge_no {p o : Int} {t u : Tm} {f g : List Tm} (h : ordS o t.2 u.2 = 0) (h2 : (t.1 + u.1) % p = 0) : mergeL p o (t :: f) (u :: g) = mergeL p o f g := by
  rw [mergeL.eq_def]; simp [h, h2]

theorem merge_ind {o : Int} (P : List Tm → List Tm → Prop) (hl : ∀ g, P [] g) (hr : ∀ f, P f [])
    (h1 : ∀ t f u g, 0 < ordS o t.2 u.2 → P f (u :: g) → P (t :: f) (u :: g)) (h2 : ∀ t f u g, ordS o t.2 u.2 < 0 → P (t :: f) g → P (t :: f) (u :: g))
    (h3 : ∀ t f u g, ordS o t.2 u.2 = 0 → P f g → P (t :: f) (u :: g)) : ∀ (k : Nat) (f g : List Tm), f.length + g.length ≤ k → P f g
  | _, [], g, _ => hl g
  | _, t :: f, [], _ => hr _
  | 0, t :: f, u :: g, h => by simp at h
  | k + 1, t :: f, u :: g, h => by
    simp only [List.length_cons] at h
    by_cases a : 0 < ordS o t.2 u.2
    · exact h1 t f u g a (merge_ind P hl hr h1 h2 h3 k f (u :: g) (by simp only [List.length_cons]; omega))
    · by_cases b : ordS o t.2 u.2 < 0
      · exact h2 t f u g b (merge_ind P hl hr h1 h2 h3 k (t :: f) g (by simp only [List.length_cons]; omega))
      · exact h3 t f u g (by omega) (merge_ind P hl hr h1 h2 h3 k f g (by omega))

theorem merge_mem {p o : Int} (f g : List Tm) : ∀ x ∈ mergeL p o f g, ∃ t ∈ f ++ g, x.2 = t.2 := by
  refine merge_ind (o := o) (P := fun f g => ∀ x ∈ mergeL p o f g, ∃ t ∈ f ++ g, x.2 = t.2) ?_ ?_ ?_ ?_ ?_ _ f g (Nat.le_refl _)
  · intro g x hx; rw [merge_nilL] at hx; exact ⟨x, by simpa using hx, rfl⟩
  · intro f x hx; rw [merge_nilR] at hx; exact ⟨x, by simpa using hx, rfl⟩
  · intro t f u g h ih x hx
    rw [merge_gt h] at hx
    rcases List.mem_cons.1 hx with rfl | hx
    · exact ⟨x, by simp, rfl⟩
    · obtain ⟨y, hy, e⟩ := ih x hx; exact ⟨y, by simp at hy ⊢; grind, e⟩
  · intro t f u g h ih x hx
    rw [merge_lt h] at hx
    rcases List.mem_cons.1 hx with rfl | hx
    · exact ⟨x, by simp, rfl⟩
    · obtain ⟨y, hy, e⟩ := ih x hx; exact ⟨y, by simp at hy ⊢; grind, e⟩
  · intro t f u g h ih x hx
    by_cases hz : (t.1 + u.1) % p = 0
    · rw [merge_no h hz] at hx
      obtain ⟨y, hy, e⟩ := ih x hx; exact ⟨y, by simp at hy ⊢; grind, e⟩
    · rw [merge_eq h hz] at hx
      rcases List.mem_cons.1 hx with rfl | hx
      · exact ⟨t, by simp, rfl⟩
      · obtain ⟨y, hy, e⟩ := ih x hx; exact ⟨y, by simp at hy ⊢; grind, e⟩
theorem merge_length {p o : Int} (f g : List Tm) : (mergeL p o f g).length ≤ f.length + g.length := by
  refine merge_ind (o := o) (P := fun f g => (mergeL p o f g).length ≤ f.length + g.length) ?_ ?_ ?_ ?_ ?_ _ f g (Nat.le_refl _)
  · intro g; rw [merge_nilL]; simp
  · intro f; rw [merge_nilR]; simp
  · intro t f u g h ih; rw [merge_gt h]; simp only [List.length_cons] at ih ⊢; omega
  · intro t f u g h ih; rw [merge_lt h]; simp only [List.length_cons] at ih ⊢; omega
  · intro t f u g h ih
    by_cases hz : (t.1 + u.1) % p = 0
    · rw [merge_no h hz]; simp only [List.length_cons]; omega
    · rw [merge_eq h hz]; simp only [List.length_cons]; omega
theorem merge_same {p o : Int} {n : Nat} (f g : List Tm) (hf : Len n f) (hg : Len n g) : Same p (mergeL p o f g) (f ++ g) := by
  intro φ
  rw [lin_append]
  revert hf hg
  refine merge_ind (o := o) (P := fun f g => Len n f → Len n g → p ∣ lin φ (mergeL p o f g) - (lin φ f + lin φ g)) ?_ ?_ ?_ ?_ ?_ _ f g (Nat.le_refl _)
  · intro g _ _; rw [merge_nilL]; simp [lin]
  · intro f _ _; rw [merge_nilR]; simp [lin]
  · intro t f u g h ih hf hg; rw [merge_gt h]; simp only [lin] at ih ⊢
    obtain ⟨k, hk⟩ := ih (fun x hx => hf x (by simp [hx])) hg
    exact ⟨k, by omega⟩
  · intro t f u g h ih hf hg; rw [merge_lt h]; simp only [lin] at ih ⊢
    obtain ⟨k, hk⟩ := ih hf (fun x hx => hg x (by simp [hx]))
    exact ⟨k, by omega⟩
  · intro t f u g h ih hf hg
    have e : t.2 = u.2 := (ordS_zero o t.2 u.2 (by rw [hf t (by simp), hg u (by simp)])).1 h
    obtain ⟨k, hk⟩ := ih (fun x hx => hf x (by simp [hx])) (fun x hx => hg x (by simp [hx]))
    obtain ⟨m, hm⟩ := modDvd p (t.1 + u.1)
    by_cases hz : (t.1 + u.1) % p = 0
    · rw [merge_no h hz]; simp only [lin]; rw [← e]
      rw [hz] at hm
      exact ⟨k + m * φ t.2, by grind⟩
    · rw [merge_eq h hz]; simp only [lin]; rw [← e]
      exact ⟨k + m * φ t.2, by grind⟩
theorem merge_canon {p o : Int} {n : Nat} (hp : 2 ≤ p) (f g : List Tm) (hf : Canon p o n f) (hg : Canon p o n g) : Canon p o n (mergeL p o f g) := by
  have hlen : Len n (mergeL p o f g) := by
    intro x hx
    obtain ⟨t, ht, e⟩ := merge_mem f g x hx
    rw [e]
    exact (List.mem_append.1 ht).elim (hf.len t) (hg.len t)
  refine ⟨hlen, ?_, ?_⟩
  · have lf := hf.len; have lg := hg.len; have ff := hf.falls; have fg := hg.falls
    clear hf hg hlen
    revert lf lg ff fg
    refine merge_ind (o := o) (P := fun f g => Len n f → Len n g → Falls o f → Falls o g → Falls o (mergeL p o f g)) ?_ ?_ ?_ ?_ ?_ _ f g (Nat.le_refl _)
    · intro g _ _ _ h; rw [merge_nilL]; exact h
    · intro f _ _ h _; rw [merge_nilR]; exact h
    · intro t f u g h ih lf lg ff fg
      rw [merge_gt h]
      refine ⟨fun x hx => ?_, ih (fun x hx => lf x (by simp [hx])) lg ff.2 fg⟩
      obtain ⟨y, hy, e⟩ := merge_mem f (u :: g) x hx
      rw [e]
      rcases List.mem_append.1 hy with hy | hy
      · exact ff.1 y hy
      · rcases List.mem_cons.1 hy with rfl | hy
        · exact h
        · exact ordS_trans o t.2 u.2 y.2 (by rw [lf t (by simp), lg u (by simp)]) (by rw [lg u (by simp), lg y (by simp [hy])]) h (fg.1 y hy)
    · intro t f u g h ih lf lg ff fg
      rw [merge_lt h]
      have h' : 0 < ordS o u.2 t.2 := by have := ordS_neg o u.2 t.2; omega
      refine ⟨fun x hx => ?_, ih lf (fun x hx => lg x (by simp [hx])) ff fg.2⟩
      obtain ⟨y, hy, e⟩ := merge_mem (t :: f) g x hx
      rw [e]
      rcases List.mem_append.1 hy with hy | hy
      · rcases List.mem_cons.1 hy with rfl | hy
        · exact h'
        · exact ordS_trans o u.2 t.2 y.2 (by rw [lf t (by simp), lg u (by simp)]) (by rw [lf t (by simp), lf y (by simp [hy])]) h' (ff.1 y hy)
      · exact fg.1 y hy
    · intro t f u g h ih lf lg ff fg
      have e0 : t.2 = u.2 := (ordS_zero o t.2 u.2 (by rw [lf t (by simp), lg u (by simp)])).1 h
      have ih' := ih (fun x hx => lf x (by simp [hx])) (fun x hx => lg x (by simp [hx])) ff.2 fg.2
      by_cases hz : (t.1 + u.1) % p = 0
      · rw [merge_no h hz]; exact ih'
      · rw [merge_eq h hz]
        refine ⟨fun x hx => ?_, ih'⟩
        obtain ⟨y, hy, e⟩ := merge_mem f g x hx
        simp only
        rw [e]
        rcases List.mem_append.1 hy with hy | hy
        · exact ff.1 y hy
        · rw [e0]; exact fg.1 y hy
  · have cf := hf.coef; have cg := hg.coef
    clear hf hg hlen
    revert cf cg
    refine merge_ind (o := o) (P := fun f g => (∀ t ∈ f, 1 ≤ t.1 ∧ t.1 < p) → (∀ t ∈ g, 1 ≤ t.1 ∧ t.1 < p) → ∀ t ∈ mergeL p o f g, 1 ≤ t.1 ∧ t.1 < p) ?_ ?_ ?_ ?_ ?_ _ f g (Nat.le_refl _)
    · intro g _ h; rw [merge_nilL]; exact h
    · intro f h _; rw [merge_nilR]; exact h
    · intro t f u g h ih cf cg x hx
      rw [merge_gt h] at hx
      rcases List.mem_cons.1 hx with rfl | hx
      · exact cf x (by simp)
      · exact ih (fun x hx => cf x (by simp [hx])) cg x hx
    · intro t f u g h ih cf cg x hx
      rw [merge_lt h] at hx
      rcases List.mem_cons.1 hx with rfl | hx
      · exact cg x (by simp)
      · exact ih cf (fun x hx => cg x (by simp [hx])) x hx
    · intro t f u g h ih cf cg x hx
      have ih' := ih (fun x hx => cf x (by simp [hx])) (fun x hx => cg x (by simp [hx]))
      by_cases hz : (t.1 + u.1) % p = 0
      · rw [merge_no h hz] at hx; exact ih' x hx
      · rw [merge_eq h hz] at hx
        rcases List.mem_cons.1 hx with rfl | hx
        · have h1 := Int.emod_nonneg (t.1 + u.1) (show p ≠ 0 by omega)
          have h2 := Int.emod_lt_of_pos (t.1 + u.1) (show 0 < p by omega)
          simp only; omega
        · exact ih' x hx

theorem prime_mul {p a b : Nat} (h : noDiv p p = true) (ha : 0 < a) (ha2 : a < p) (hb : 0 < b) (hb2 : b < p) : a * b % p ≠ 0 := by
  intro hz
  have hd := Nat.dvd_of_mod_eq_zero hz
  have hc : Nat.Coprime p a := by
    have h1 := Nat.gcd_dvd_left p a
    have h3 : Nat.gcd p a ≤ a := Nat.le_of_dvd ha (Nat.gcd_dvd_right p a)
    have h4 : 0 < Nat.gcd p a := Nat.gcd_pos_of_pos_right p ha
    unfold noDiv at h
    rw [List.all_eq_true] at h
    have h5 := h (Nat.gcd p a) (List.mem_range.2 (by omega))
    rw [Nat.mod_eq_zero_of_dvd h1] at h5
    simp at h5
    show Nat.gcd p a = 1
    omega
  have := Nat.le_of_dvd hb (hc.dvd_of_dvd_mul_left hd)
  omega
theorem prime_mulI {p a b : Int} (h : errP p = 0) (ha : 1 ≤ a) (ha2 : a < p) (hb : 1 ≤ b) (hb2 : b < p) : 1 ≤ a * b % p ∧ a * b % p < p := by
  have h0 : noDiv p.toNat p.toNat = true := by
    unfold errP at h
    by_cases h1 : p < 2 ∨ 101 < p
    · rw [if_pos h1] at h; omega
    · rw [if_neg h1] at h
      cases hq : primeB p
      · rw [hq] at h; simp at h
      · exact hq
  have h1 := prime_mul h0 (a := a.toNat) (b := b.toNat) (by omega) (by omega) (by omega) (by omega)
  have e : a * b % p = ((a.toNat * b.toNat % p.toNat : Nat) : Int) := by
    rw [Int.natCast_emod, Int.natCast_mul, Int.toNat_of_nonneg (by omega), Int.toNat_of_nonneg (by omega), Int.toNat_of_nonneg (by omega)]
  have h2 := Int.emod_lt_of_pos (a * b) (show 0 < p by omega)
  omega
theorem errP_bd {p : Int} (h : errP p = 0) : 2 ≤ p ∧ p ≤ 101 := by
  unfold errP at h
  by_cases h1 : p < 2 ∨ 101 < p
  · rw [if_pos h1] at h; omega
  · omega
theorem prodT_canon {p o : Int} {n : Nat} (h : errP p = 0) {t : Tm} (ht : 1 ≤ t.1 ∧ t.1 < p) (hl : t.2.length = n) : ∀ {g : List Tm}, Canon p o n g → Canon p o n (prodT p t g)
  | [], _ => ⟨fun x hx => by simp [prodT] at hx, trivial, fun x hx => by simp [prodT] at hx⟩
  | u :: g, hg => by
    have hg2 : Canon p o n g := ⟨fun x hx => hg.len x (by simp [hx]), hg.falls.2, fun x hx => hg.coef x (by simp [hx])⟩
    have ih := prodT_canon h ht hl hg2
    have e : prodT p t (u :: g) = (t.1 * u.1 % p, zipI (· + ·) t.2 u.2) :: prodT p t g := rfl
    have hu := hg.coef u (by simp)
    have lu := hg.len u (by simp)
    rw [e]
    refine ⟨fun x hx => ?_, ⟨fun x hx => ?_, ih.falls⟩, fun x hx => ?_⟩
    · rcases List.mem_cons.1 hx with rfl | hx
      · simp only; rw [zipI_len _ _ _ (by omega)]; exact hl
      · exact ih.len x hx
    · simp only [prodT, List.mem_map] at hx
      obtain ⟨y, hy, rfl⟩ := hx
      have ly := hg.len y (by simp [hy])
      simp only
      rw [zip_comm t.2 u.2, zip_comm t.2 y.2, ordS_add o u.2 y.2 t.2 (by omega) (by omega)]
      exact hg.falls.1 y hy
    · rcases List.mem_cons.1 hx with rfl | hx
      · exact prime_mulI h ht.1 ht.2 hu.1 hu.2
      · exact ih.coef x hx

def cat (F : Nat → List Tm) (a k : Nat) : List Tm := (List.range' a k).flatMap F
theorem cat_zero (F : Nat → List Tm) (a : Nat) : cat F a 0 = [] := rfl
theorem cat_one (F : Nat → List Tm) (a : Nat) : cat F a 1 = F a := by simp [cat]
theorem cat_add (F : Nat → List Tm) (a k m : Nat) : cat F a (k + m) = cat F a k ++ cat F (a + k) m := by
  unfold cat; rw [← List.range'_append_1, List.flatMap_append]
end Go.Proofs.YtilogbggilchaaaDoor
