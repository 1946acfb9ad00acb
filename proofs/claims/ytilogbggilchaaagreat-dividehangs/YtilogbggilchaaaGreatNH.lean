/- What hangs together: the mathematics of DivideHangs. -/
import Derived.Test.YtilogbggilchaaaGreatZP
import Derived.Test.YtilogbggilchaaaGreatWO
import Derived.Test.YtilogbggilchaaaGreatPN
namespace Go.Proofs.YtilogbggilchaaaGreat
set_option linter.unusedSimpArgs false
set_option linter.unusedVariables false
open Go.RowKit
def mk (p : Int) (φ : List Int → Int) (lss : List (List (List Tm))) (q : List (List Tm)) (i : Nat) : Nat → Int
  | 0 => 0
  | k + 1 => mk p φ lss q i k + lin φ (prodL p (q.getD k []) ((lss.getD k []).getD i []))
theorem prodL_snoc (p : Int) (f g : List Tm) (b : Tm) : prodL p (f ++ [b]) g = prodL p f g ++ prodT p b g := by
  unfold Go.Proofs.YtilogbggilchaaaGreat.prodL
  rw [List.flatMap_append]
  simp
theorem mk_put {p : Int} {φ : List Int → Int} {lss : List (List (List Tm))} {q : List (List Tm)} {i m : Nat} {b : Tm} (hm : m < q.length) : ∀ k, mk p φ lss (q.set m (q.getD m [] ++ [b])) i k = mk p φ lss q i k + if m < k then lin φ (prodT p b ((lss.getD m []).getD i [])) else 0
  | 0 => by simp [mk]
  | k + 1 => by
    simp only [mk]
    rw [mk_put hm k]
    by_cases e : m = k
    · subst e
      have e1 : (q.set m (q.getD m [] ++ [b])).getD m [] = q.getD m [] ++ [b] := by simp [List.getD_eq_getElem?_getD, hm]
      rw [e1, prodL_snoc, lin_append, if_neg (by omega), if_pos (by omega)]
      omega
    · have e1 : (q.set m (q.getD m [] ++ [b])).getD k [] = q.getD k [] := by simp [List.getD_eq_getElem?_getD, List.getElem?_set_ne e]
      rw [e1]
      by_cases h : m < k
      · rw [if_pos h, if_pos (by omega)]; omega
      · rw [if_neg h, if_neg (by omega)]; omega
theorem lin_sums {p o : Int} {φ : List Int → Int} {v w : List (List Tm)} {i : Nat} (hl : v.length = w.length) (hi : i < v.length) : p ∣ lin φ ((sums p o v w).getD i []) - (lin φ (v.getD i []) + lin φ (w.getD i [])) := by
  rw [sums_at hl hi, ← lin_append]
  exact lin_col p o φ _
theorem lin_neg {p : Int} (φ : List Int → Int) (b : Tm) (g : List Tm) : p ∣ lin φ (prodL p [(p - b.1, b.2)] g) + lin φ (prodT p b g) := by
  have e : prodL p [(p - b.1, b.2)] g = prodT p (p - b.1, b.2) g := by unfold Go.Proofs.YtilogbggilchaaaGreat.prodL; simp
  rw [e]
  obtain ⟨a, ha⟩ := lin_prodT p φ (p - b.1, b.2) g
  obtain ⟨c, hc⟩ := lin_prodT p φ b g
  simp only at ha
  refine ⟨a + c + lin (fun x => φ (zipI (· + ·) b.2 x)) g, ?_⟩
  rw [Int.sub_mul] at ha
  rw [Int.mul_add, Int.mul_add]
  omega
theorem dv_sum {p o ov : Int} {N R : Nat} (hx : RCx p o ov N R) {lss : List (List (List Tm))} (hl : LOk p o N R lss) {a b : DS} (h : Dv p o ov lss a b) (ha : DInv p o ov N R lss a) (φ : List Int → Int) (i : Nat) (hi : i < R) :
    DInv p o ov N R lss b ∧ p ∣ (lin φ (b.v.getD i []) + mk p φ lss b.q i lss.length + lin φ (b.l.getD i [])) - (lin φ (a.v.getD i []) + mk p φ lss a.q i lss.length + lin φ (a.l.getD i [])) := by
  induction h using Dv.ind with
  | refl => exact ⟨ha, ⟨0, by omega⟩⟩
  | step h1 h2 ih =>
    rename_i s s2
    obtain ⟨hs, k0, hk0⟩ := ih
    refine ⟨(dinv_step hx hl hs h2).1, ?_⟩
    have hvl := hs.vl
    unfold dstep at h2
    cases hld : leadF o ov s.v s.v.length with
    | none => rw [hld] at h2; simp at h2
    | some q =>
      obtain ⟨j, t⟩ := q
      rw [hld] at h2
      simp only at h2
      cases hdv : dvI o ov lss j t.2 with
      | none =>
        rw [hdv] at h2
        simp only [Option.some.injEq] at h2
        subst h2
        have hj : j < R := by have := (leadF_at hld).1; omega
        obtain ⟨c1, hc1⟩ := lin_sums (p := p) (o := o) (φ := φ) (v := s.v) (w := atPl s.v.length j [(p - t.1, t.2)]) (i := i) (by simp [atPl]) (by omega)
        simp only
        have e1 := atPl_at (n := s.v.length) (j := j) (i := i) (f := [(p - t.1, t.2)]) (by omega)
        rw [e1] at hc1
        by_cases e : j = i
        · subst e
          have e2 : (s.l.set j (s.l.getD j [] ++ [t])).getD j [] = s.l.getD j [] ++ [t] := by simp [List.getD_eq_getElem?_getD, show j < s.l.length by rw [hs.ll]; exact hj]
          rw [e2, lin_append]
          rw [if_pos rfl] at hc1
          have e3 : lin φ [(p - t.1, t.2)] = p * φ t.2 - t.1 * φ t.2 := by simp [lin, Int.sub_mul]
          have e4 : lin φ [t] = t.1 * φ t.2 := by simp [lin]
          rw [e3] at hc1
          rw [e4]
          refine ⟨c1 + k0 + φ t.2, ?_⟩
          rw [Int.mul_add, Int.mul_add]
          omega
        · have e2 : (s.l.set j (s.l.getD j [] ++ [t])).getD i [] = s.l.getD i [] := by simp [List.getD_eq_getElem?_getD, List.getElem?_set_ne e]
          rw [e2]
          rw [if_neg e] at hc1
          have e3 : lin φ ([] : List Tm) = 0 := rfl
          rw [e3] at hc1
          refine ⟨c1 + k0, ?_⟩
          rw [Int.mul_add]
          omega
      | some m =>
        rw [hdv] at h2
        simp only [Option.some.injEq] at h2
        subst h2
        obtain ⟨hml, hgm, _⟩ := dvI_some hdv
        have hgl := hl.len _ hgm
        generalize byT p t (ldT o ov (lss.getD m [])) = b
        have hpl : (prods p o [(p - b.1, b.2)] (lss.getD m [])).length = R := by unfold prods; rw [List.length_map, hgl]
        obtain ⟨c1, hc1⟩ := lin_sums (p := p) (o := o) (φ := φ) (v := s.v) (w := prods p o [(p - b.1, b.2)] (lss.getD m [])) (i := i) (by rw [hpl, hvl]) (by omega)
        have e1 : (prods p o [(p - b.1, b.2)] (lss.getD m [])).getD i [] = colL p o (prodL p [(p - b.1, b.2)] ((lss.getD m []).getD i [])) := by
          unfold prods
          rw [getD_mapL (fun g => colL p o (prodL p [(p - b.1, b.2)] g)) _ _ (by rw [hgl]; exact hi)]
        rw [e1] at hc1
        obtain ⟨c2, hc2⟩ := lin_col p o φ (prodL p [(p - b.1, b.2)] ((lss.getD m []).getD i []))
        obtain ⟨c3, hc3⟩ := lin_neg (p := p) φ b ((lss.getD m []).getD i [])
        simp only
        rw [mk_put (by rw [hs.ql]; exact hml), if_pos hml]
        refine ⟨c1 + c2 + c3 + k0, ?_⟩
        rw [Int.mul_add, Int.mul_add, Int.mul_add]
        omega
theorem comb_lin {p o : Int} {R : Nat} {lss : List (List (List Tm))} {q : List (List Tm)} (hl : ∀ g ∈ lss, g.length = R) (φ : List Int → Int) (i : Nat) (hi : i < R) : ∀ k, k ≤ lss.length → (combO p o R q lss k).length = R ∧ p ∣ lin φ ((combO p o R q lss k).getD i []) - mk p φ lss q i k
  | 0, _ => by
    refine ⟨by simp [combO], 0, ?_⟩
    have e : (combO p o R q lss 0).getD i [] = [] := by simp [combO, List.getD_eq_getElem?_getD, hi]
    rw [e]; simp [lin, mk]
  | k + 1, hk => by
    obtain ⟨h1, a, ha⟩ := comb_lin hl φ i hi k (by omega)
    have hgl := hl _ (getD_memV lss k (by omega))
    have hpl : (prods p o (q.getD k []) (lss.getD k [])).length = R := by unfold prods; rw [List.length_map, hgl]
    refine ⟨by simp only [combO]; rw [sums_len (by rw [h1, hpl])]; exact h1, ?_⟩
    simp only [combO, mk]
    obtain ⟨c1, hc1⟩ := lin_sums (p := p) (o := o) (φ := φ) (v := combO p o R q lss k) (w := prods p o (q.getD k []) (lss.getD k [])) (i := i) (by rw [h1, hpl]) (by omega)
    have e1 : (prods p o (q.getD k []) (lss.getD k [])).getD i [] = colL p o (prodL p (q.getD k []) ((lss.getD k []).getD i [])) := by
      unfold prods
      rw [getD_mapL (fun g => colL p o (prodL p (q.getD k []) g)) _ _ (by rw [hgl]; exact hi)]
    rw [e1] at hc1
    obtain ⟨c2, hc2⟩ := lin_col p o φ (prodL p (q.getD k []) ((lss.getD k []).getD i []))
    refine ⟨a + c1 + c2, ?_⟩
    rw [Int.mul_add, Int.mul_add]
    omega
theorem dv_nrm {p o ov : Int} {lss : List (List (List Tm))} {a b : DS} (h : Dv p o ov lss a b) (ha : ∀ i, ∀ t ∈ a.l.getD i [], dvI o ov lss i t.2 = none) : ∀ i, ∀ t ∈ b.l.getD i [], dvI o ov lss i t.2 = none := by
  induction h using Dv.ind with
  | refl => exact ha
  | step h1 h2 ih =>
    rename_i s s2
    unfold dstep at h2
    cases hld : leadF o ov s.v s.v.length with
    | none => rw [hld] at h2; simp at h2
    | some q =>
      obtain ⟨j, t⟩ := q
      rw [hld] at h2
      simp only at h2
      cases hdv : dvI o ov lss j t.2 with
      | none =>
        rw [hdv] at h2
        simp only [Option.some.injEq] at h2
        subst h2
        intro i x hx
        simp only [getD_set] at hx
        split at hx
        · rename_i e
          rcases List.mem_append.1 hx with hx | hx
          · rw [← e.1]; exact ih j x hx
          · rw [List.mem_singleton] at hx; rw [hx, ← e.1]; exact hdv
        · exact ih i x hx
      | some m =>
        rw [hdv] at h2
        simp only [Option.some.injEq] at h2
        subst h2
        exact ih

theorem dstep_lead {p o ov : Int} {lss : List (List (List Tm))} {s : DS} (h : dstep p o ov lss s = none) : leadF o ov s.v s.v.length = none := by
  unfold dstep at h
  split at h
  · assumption
  · split at h <;> simp at h
theorem dv_end {p o ov : Int} {N R : Nat} (hx : RCx p o ov N R) {lss : List (List (List Tm))} (hl : LOk p o N R lss) : ∀ (n : Nat) (s : DS), DInv p o ov N R lss s → dms o ov s.v ≤ n → ∃ f, Dv p o ov lss s f ∧ DInv p o ov N R lss f ∧ dstep p o ov lss f = none
  | 0, s, hi, hn => by
    cases hd : dstep p o ov lss s with
    | none => exact ⟨s, Dv.refl _, hi, hd⟩
    | some s2 => have := dms_lt hx hl hi hd; omega
  | n + 1, s, hi, hn => by
    cases hd : dstep p o ov lss s with
    | none => exact ⟨s, Dv.refl _, hi, hd⟩
    | some s2 =>
      have := dms_lt hx hl hi hd
      obtain ⟨f, h1, h2, h3⟩ := dv_end hx hl n s2 (dinv_step hx hl hi hd).1 (by omega)
      exact ⟨f, ((Dv.refl _).step hd).trans h1, h2, h3⟩
theorem lead_none_all {o ov : Int} {v : List (List Tm)} : ∀ k, k ≤ v.length → leadF o ov v k = none → ∀ i, i < k → v.getD i [] = []
  | 0, _, _, i, hi => by omega
  | k + 1, hk, h, i, hi => by
    have e : leadF o ov v (k + 1) = leadStep o ov (leadF o ov v k) k (v.getD k []) := rfl
    rw [e] at h
    cases hf : v.getD k [] with
    | nil =>
      rw [hf] at h
      have h2 : leadF o ov v k = none := by
        cases hl : leadF o ov v k with
        | none => rfl
        | some q => rw [hl] at h; simp [leadStep] at h
      rcases Nat.lt_or_ge i k with h3 | h3
      · exact lead_none_all k (by omega) h2 i h3
      · have : i = k := by omega
        rw [this]; exact hf
    | cons t ts =>
      exfalso
      rw [hf] at h
      cases hl : leadF o ov v k with
      | none => rw [hl] at h; simp [leadStep] at h
      | some q =>
        obtain ⟨j, x⟩ := q
        rw [hl] at h
        simp only [leadStep] at h
        split at h <;> simp at h
end Go.Proofs.YtilogbggilchaaaGreat
