/- Polynomials that came in. -/
import Derived.Test.YtkmjmmnnnbjghaaI
import Derived.Test.YtkmjmmnnnbjghaaPA
import Derived.Deep.SlicePairs
import Derived.Deep.DeepCutAuto
import Derived.Lib.SliceRun
import Derived.Deep.OwnRows
import Derived.Deep.RegionHeld
import Derived.Test.YtkmjmmnnnbjghaaA
import Derived.RegionTactic
namespace Go.Proofs.Ytkmjmmnnnbjghaa
set_option linter.unusedSimpArgs false
set_option linter.unusedVariables false
open Go.ChangeShapes Go.WideShapes Go.ChangeAt Go.RowKit Go.Joins Go.Deep

theorem Try.cellsTerm : Try.prog.cellsOf 61 = 2 := by kernel_rfl
theorem Try.cellsIntsP : Try.prog.cellsOf 36 = 1 := by kernel_rfl

theorem slCell {H : Type} {enc : TypeId × Value → H} {W : World} {fuel : Nat} {v : Value} {x : DataW H × List MemPlace}
    (h : DataW.trod enc Try.prog W 0 (fun _ => true) true fuel 36 [v] = some x) : ∃ xs : List Int, Sl W v xs := by
  rcases open_ints Try.underlying36 Try.underlying3 Try.cellsInt h with ⟨hcs, _⟩ | ⟨x, l, c, zs, hcs, _, hl, hm, hz, _, hcell, hwz⟩
  · simp at hcs
    subst hcs
    exact ⟨[], none, 0, rfl, fun h => absurd h (by simp)⟩
  · simp at hcs
    subst hcs
    simp at hz
    have hlen : (zs.take l).length = l := by rw [List.length_take]; omega
    refine ⟨zs.take l, some x, c, by rw [hlen], fun hp => ?_⟩
    rw [hlen] at hp
    obtain ⟨b, off, rfl⟩ := addrAt (hcell 0 (by omega))
    refine ⟨b, off, rfl, cellLt (hcell 0 (by omega)), fun i hi => ?_⟩
    rw [hlen] at hi
    have e : (zs.take l).getD i 0 = zs.getD i 0 := by simp [List.getD_eq_getElem?_getD, List.getElem?_take, hi]
    rw [e]
    exact cellAdd (hcell i (by omega))

theorem plCell {H : Type} {enc : TypeId × Value → H} {W : World} {fuel : Nat} {v : Value} {x : DataW H × List MemPlace}
    (h : DataW.trod enc Try.prog W 0 (fun _ => true) true fuel 54 [v] = some x) : ∃ ts : List Tm, Pl W v ts := by
  rcases open_slice_pairs (P := Try.prog) Try.underlying54 Try.underlying61 Try.cellsTerm rfl rfl Try.cellsInt Try.cellsIntsP h with ⟨hcs, _⟩ | ⟨a, len, cap, m, n, V0, V1, D0, D1, P0, P1, hcs, _, hl, hm, hmm, _, hx⟩
  · simp at hcs
    subst hcs
    exact ⟨[], none, 0, rfl, Nat.le_refl _, fun h => absurd h (by simp)⟩
  · simp at hcs
    subst hcs
    simp at hmm
    subst hmm
    obtain ⟨T, hT⟩ := choose_lt (α := Tm) (n := m) (p := fun i t => V0 i = .int .i64 t.1 ∧ Sl W (V1 i) t.2) (fun i hi => by
      obtain ⟨_, _, h0, h1⟩ := hx i hi
      obtain ⟨xs, hs⟩ := slCell h1
      obtain ⟨k, hk, _⟩ := DataW.trod_int Try.underlying3 h0
      exact ⟨(k, xs), by simpa using hk, hs⟩)
    refine ⟨(List.range len).map T, some a, m, by simp, by simpa using hl, fun hp => ?_⟩
    simp at hp
    obtain ⟨b, off, rfl⟩ := addrAt (by simpa using (hx 0 (by omega)).1)
    refine ⟨b, off, rfl, cellLt (hx 0 (by omega)).1, fun i hi => ?_⟩
    simp at hi
    have hg : ((List.range len).map T).getD i noT = T i := by simp [List.getD_eq_getElem?_getD, hi]
    rw [hg]
    obtain ⟨h0, h1, _, _⟩ := hx i (by omega)
    obtain ⟨e0, hs⟩ := hT i (by omega)
    rw [e0] at h0
    exact ⟨cellAdd h0, V1 i, cellAdd h1, hs⟩

/-- A polynomial that came in. -/
theorem pl_of {H : Type} {enc : TypeId × Value → H} {W : World} {a : Option Addr} {len cap : Nat} {d : DataW H} {p : List MemPlace}
    (h : DataW.Trod enc Try.prog W 0 (fun _ => true) true 54 (.slice a len cap) d p) : ∃ ts : List Tm, Pl W (.slice a len cap) ts := by
  obtain ⟨fuel, hf⟩ := h
  exact plCell (by simpa [Value.cells] using hf)

end Go.Proofs.Ytkmjmmnnnbjghaa

/- Plain mathematics: sums and products of polynomials go together; values. -/
namespace Go.Proofs.Ytkmjmmnnnbjghaa
set_option linter.unusedSimpArgs false
set_option linter.unusedVariables false

/-- Two lists that tell the same modulo p. -/
def Same (p : Int) (l m : List Tm) : Prop := ∀ φ, p ∣ lin φ l - lin φ m
theorem Same.refl (p : Int) (l : List Tm) : Same p l l := fun φ => ⟨0, by omega⟩
theorem Same.symm {p : Int} {l m : List Tm} (h : Same p l m) : Same p m l := fun φ => by
  obtain ⟨k, hk⟩ := h φ
  exact ⟨-k, by rw [Int.mul_neg, ← hk]; omega⟩
theorem Same.trans {p : Int} {l m k : List Tm} (h : Same p l m) (h2 : Same p m k) : Same p l k := fun φ => by
  obtain ⟨a, ha⟩ := h φ
  obtain ⟨b, hb⟩ := h2 φ
  exact ⟨a + b, by rw [Int.mul_add, ← ha, ← hb]; omega⟩
theorem Same.append {p : Int} {l m l2 m2 : List Tm} (h : Same p l m) (h2 : Same p l2 m2) : Same p (l ++ l2) (m ++ m2) := fun φ => by
  obtain ⟨a, ha⟩ := h φ
  obtain ⟨b, hb⟩ := h2 φ
  exact ⟨a + b, by rw [lin_append, lin_append, Int.mul_add, ← ha, ← hb]; omega⟩
theorem same_col (p o : Int) (l : List Tm) : Same p (colL p o l) l := fun φ => lin_col p o φ l
theorem lin_dvd {p : Int} {φ ψ : List Int → Int} : ∀ {f : List Tm}, (∀ t ∈ f, p ∣ φ t.2 - ψ t.2) → p ∣ lin φ f - lin ψ f
  | [], _ => ⟨0, by simp [lin]⟩
  | t :: f, h => by
    obtain ⟨a, ha⟩ := h t (by simp)
    obtain ⟨b, hb⟩ := lin_dvd (f := f) (fun u hu => h u (by simp [hu]))
    simp only [lin]
    exact ⟨t.1 * a + b, by grind⟩
theorem Same.prodR {p : Int} (f : List Tm) {g h : List Tm} (hs : Same p g h) : Same p (prodL p f g) (prodL p f h) := fun φ => by
  obtain ⟨a, ha⟩ := lin_prod p φ g f
  obtain ⟨b, hb⟩ := lin_prod p φ h f
  obtain ⟨c, hc⟩ := lin_dvd (p := p) (f := f) (φ := fun x => lin (fun b => φ (zipI (· + ·) x b)) g) (ψ := fun x => lin (fun b => φ (zipI (· + ·) x b)) h) (fun t _ => hs _)
  exact ⟨a + c - b, by grind⟩
theorem same_swap (p : Int) (f g : List Tm) : Same p (prodL p f g) (prodL p g f) := fun φ => by
  obtain ⟨a, ha⟩ := lin_prod p φ g f
  obtain ⟨b, hb⟩ := lin_prod p φ f g
  have e : lin (fun x => lin (fun y => φ (zipI (· + ·) x y)) g) f = lin (fun x => lin (fun y => φ (zipI (· + ·) x y)) f) g := by
    rw [lin_swap]
    refine lin_congr (fun t _ => lin_congr (fun u _ => ?_))
    rw [zip_comm]
  exact ⟨a - b, by rw [Int.mul_sub, ← ha, ← hb, e]; omega⟩
theorem Same.prodL {p : Int} {f g : List Tm} (h : List Tm) (hs : Same p f g) : Same p (prodL p f h) (prodL p g h) :=
  (same_swap p f h).trans ((Same.prodR h hs).trans (same_swap p h g))
theorem prodL_append (p : Int) (f g h : List Tm) : prodL p (f ++ g) h = prodL p f h ++ prodL p g h := by
  unfold Go.Proofs.Ytkmjmmnnnbjghaa.prodL
  rw [List.flatMap_append]

/-- Their coefficients, and how many variables: what lists of terms keep to. -/
structure Okl (p : Int) (n : Nat) (l : List Tm) : Prop where
  len : Len n l
  coef : ∀ t ∈ l, 0 ≤ t.1 ∧ t.1 < p
theorem Canon.okl {p o : Int} {n : Nat} {ts : List Tm} (h : Canon p o n ts) : Okl p n ts := ⟨h.len, fun t ht => by have := h.coef t ht; omega⟩
theorem Okl.append {p : Int} {n : Nat} {l m : List Tm} (h : Okl p n l) (h2 : Okl p n m) : Okl p n (l ++ m) :=
  ⟨fun t ht => (List.mem_append.1 ht).elim (h.len t) (h2.len t), fun t ht => (List.mem_append.1 ht).elim (h.coef t) (h2.coef t)⟩
theorem Okl.prod {p : Int} {n : Nat} {l m : List Tm} (hp : 2 ≤ p) (h : Okl p n l) (h2 : Okl p n m) : Okl p n (prodL p l m) := by
  constructor
  · intro t ht
    simp only [Go.Proofs.Ytkmjmmnnnbjghaa.prodL, prodT, List.mem_flatMap, List.mem_map] at ht
    obtain ⟨a, ha, b, hb, rfl⟩ := ht
    simp only
    rw [zipI_len _ _ _ (by rw [h.len a ha, h2.len b hb]), h.len a ha]
  · intro t ht
    simp only [Go.Proofs.Ytkmjmmnnnbjghaa.prodL, prodT, List.mem_flatMap, List.mem_map] at ht
    obtain ⟨a, ha, b, hb, rfl⟩ := ht
    exact ⟨Int.emod_nonneg _ (by omega), Int.emod_lt_of_pos _ (by omega)⟩
theorem Okl.col {p o : Int} {n : Nat} {l : List Tm} (hp : 2 ≤ p) (h : Okl p n l) : Canon p o n (colL p o l) := col_canon hp h.len h.coef
/-- What tells the same collects to the same. -/
theorem Same.col {p o : Int} {n : Nat} {l m : List Tm} (hp : 2 ≤ p) (hl : Okl p n l) (hm : Okl p n m) (h : Same p l m) : colL p o l = colL p o m :=
  col_of_canon hp hm.len hm.coef (hl.col hp) ((same_col p o l).trans h)
/-- Of whatever is canonical and tells the same. -/
theorem Same.canon {p o : Int} {n : Nat} {l m : List Tm} (hp : 2 ≤ p) (hl : Canon p o n l) (hm : Canon p o n m) (h : Same p l m) : l = m :=
  canon_uniq hp l m hl hm (fun e => h (delta e))

theorem mul_swap {p o : Int} {n : Nat} {f g : List Tm} (hp : 2 ≤ p) (hf : Okl p n f) (hg : Okl p n g) : colL p o (prodL p f g) = colL p o (prodL p g f) :=
  Same.col hp (hf.prod hp hg) (hg.prod hp hf) (same_swap p f g)
theorem mul_add {p o : Int} {n : Nat} {f g h : List Tm} (hp : 2 ≤ p) (hf : Okl p n f) (hg : Okl p n g) (hh : Okl p n h) :
    colL p o (colL p o (prodL p f h) ++ colL p o (prodL p g h)) = colL p o (prodL p (colL p o (f ++ g)) h) := by
  refine Same.col hp (((hf.prod hp hh).col hp (o := o)).okl.append ((hg.prod hp hh).col hp (o := o)).okl) (((hf.append hg).col hp (o := o)).okl.prod hp hh) ?_
  refine ((same_col p o _).append (same_col p o _)).trans ?_
  rw [← prodL_append]
  exact Same.prodL h (same_col p o _).symm

/-- The value of a monomial. -/
def mval : List Int → List Int → Int
  | x :: xs, e :: es => x ^ e.toNat * mval xs es
  | _, _ => 1
theorem mval_zip : ∀ (xs a b : List Int), a.length = xs.length → b.length = xs.length → (∀ x ∈ a, 0 ≤ x) → (∀ x ∈ b, 0 ≤ x) → mval xs (zipI (· + ·) a b) = mval xs a * mval xs b
  | [], [], [], _, _, _, _ => by simp [zipI, mval]
  | x :: xs, e :: a, g :: b, h1, h2, h3, h4 => by
    simp only [zipI, mval]
    rw [mval_zip xs a b (by simpa using h1) (by simpa using h2) (fun y hy => h3 y (by simp [hy])) (fun y hy => h4 y (by simp [hy]))]
    have he := h3 e (by simp)
    have hg := h4 g (by simp)
    have : (e + g).toNat = e.toNat + g.toNat := by omega
    rw [this, Int.pow_add]
    grind
theorem val_prod {p : Int} (xs : List Int) (f g : List Tm) (hf : ∀ t ∈ f, t.2.length = xs.length ∧ ∀ x ∈ t.2, 0 ≤ x) (hg : ∀ t ∈ g, t.2.length = xs.length ∧ ∀ x ∈ t.2, 0 ≤ x) :
    p ∣ lin (mval xs) (prodL p f g) - lin (mval xs) f * lin (mval xs) g := by
  obtain ⟨a, ha⟩ := lin_prod p (mval xs) g f
  have e : lin (fun x => lin (fun y => mval xs (zipI (· + ·) x y)) g) f = lin (mval xs) f * lin (mval xs) g := by
    have h1 : lin (fun x => lin (fun y => mval xs (zipI (· + ·) x y)) g) f = lin (fun x => lin (mval xs) g * mval xs x) f := by
      refine lin_congr (fun t ht => ?_)
      have h2 : lin (fun y => mval xs (zipI (· + ·) t.2 y)) g = lin (fun y => mval xs t.2 * mval xs y) g :=
        lin_congr (fun u hu => mval_zip xs t.2 u.2 (hf t ht).1 (hg u hu).1 (hf t ht).2 (hg u hu).2)
      rw [h2, lin_smul, Int.mul_comm]
    rw [h1, lin_smul, Int.mul_comm]
  rw [e] at ha
  exact ⟨a, ha⟩
theorem emod_of_dvd {p a b : Int} (h : p ∣ a - b) : a % p = b % p := by
  obtain ⟨k, hk⟩ := h
  have : a = b + p * k := by omega
  rw [this, Int.add_mul_emod_self_left]
/-- The value of the sum, of the product. -/
theorem value_sum {p o : Int} (xs : List Int) (f g : List Tm) : lin (mval xs) (colL p o (f ++ g)) % p = (lin (mval xs) f % p + lin (mval xs) g % p) % p := by
  rw [emod_of_dvd (lin_col p o (mval xs) (f ++ g)), lin_append, ← Int.add_emod]
theorem value_prod {p o : Int} (xs : List Int) (f g : List Tm) (hf : ∀ t ∈ f, t.2.length = xs.length ∧ ∀ x ∈ t.2, 0 ≤ x) (hg : ∀ t ∈ g, t.2.length = xs.length ∧ ∀ x ∈ t.2, 0 ≤ x) :
    lin (mval xs) (colL p o (prodL p f g)) % p = (lin (mval xs) f % p) * (lin (mval xs) g % p) % p := by
  rw [emod_of_dvd (lin_col p o (mval xs) _), emod_of_dvd (val_prod xs f g hf hg), Int.mul_emod]

end Go.Proofs.Ytkmjmmnnnbjghaa

/- Plain mathematics: merging two, scaling by a term, sums of many. -/
namespace Go.Proofs.Ytkmjmmnnnbjghaa
set_option linter.unusedSimpArgs false
set_option linter.unusedVariables false

/-- The sum of two whose terms fall. -/
def mergeL (p o : Int) : List Tm → List Tm → List Tm
  | [], g => g
  | t :: f, [] => t :: f
  | t :: f, u :: g =>
    if 0 < ordS o t.2 u.2 then t :: mergeL p o f (u :: g)
    else if ordS o t.2 u.2 < 0 then u :: mergeL p o (t :: f) g
    else if (t.1 + u.1) % p ≠ 0 then ((t.1 + u.1) % p, t.2) :: mergeL p o f g else mergeL p o f g
termination_by f g => f.length + g.length
theorem merge_nilL (p o : Int) (g : List Tm) : mergeL p o [] g = g := by unfold mergeL; rfl
theorem merge_nilR (p o : Int) (f : List Tm) : mergeL p o f [] = f := by cases f <;> (unfold mergeL; rfl)
theorem merge_gt {p o : Int} {t u : Tm} {f g : List Tm} (h : 0 < ordS o t.2 u.2) : mergeL p o (t :: f) (u :: g) = t :: mergeL p o f (u :: g) := by
  rw [mergeL.eq_def]; simp [h]
theorem merge_lt {p o : Int} {t u : Tm} {f g : List Tm} (h : ordS o t.2 u.2 < 0) : mergeL p o (t :: f) (u :: g) = u :: mergeL p o (t :: f) g := by
  rw [mergeL.eq_def]; simp [h, show ¬ 0 < ordS o t.2 u.2 by omega]
theorem merge_eq {p o : Int} {t u : Tm} {f g : List Tm} (h : ordS o t.2 u.2 = 0) (h2 : (t.1 + u.1) % p ≠ 0) : mergeL p o (t :: f) (u :: g) = ((t.1 + u.1) % p, t.2) :: mergeL p o f g := by
  rw [mergeL.eq_def]; simp [h, h2]
theorem merge_no {p o : Int} {t u : Tm} {f g : List Tm} (h : ordS o t.2 u.2 = 0) (h2 : (t.1 + u.1) % p = 0) : mergeL p o (t :: f) (u :: g) = mergeL p o f g := by
  rw [mergeL.eq_def]; simp [h, h2]

/-- What merging two makes, by its four ways. -/
theorem merge_ind {o : Int} (P : List Tm → List Tm → Prop) (hl : ∀ g, P [] g) (hr : ∀ f, P f [])
    (h1 : ∀ t f u g, 0 < ordS o t.2 u.2 → P f (u :: g) → P (t :: f) (u :: g)) (h2 : ∀ t f u g, ordS o t.2 u.2 < 0 → P (t :: f) g → P (t :: f) (u :: g))
    (h3 : ∀ t f u g, ordS o t.2 u.2 = 0 → P f g → P (t :: f) (u :: g)) : ∀ (k : Nat) (f g : List Tm), f.length + g.length ≤ k → P f g
  | _, [], g, _ => hl g
  | _, t :: f, [], _ => hr _
  | 0, t :: f, u :: g, h => by simp at h
  | k + 1, t :: f, u :: g, h => by
    simp only [List.length_cons] at h
    by_cases a : 0 < ordS o t.2 u.2
    · exact h1 t f u g a (merge_ind P hl hr h1 h2 h3 k f (u :: g) (by simp only [List.length_cons]; omega))
    · by_cases b : ordS o t.2 u.2 < 0
      · exact h2 t f u g b (merge_ind P hl hr h1 h2 h3 k (t :: f) g (by simp only [List.length_cons]; omega))
      · exact h3 t f u g (by omega) (merge_ind P hl hr h1 h2 h3 k f g (by omega))

theorem merge_mem {p o : Int} (f g : List Tm) : ∀ x ∈ mergeL p o f g, ∃ t ∈ f ++ g, x.2 = t.2 := by
  refine merge_ind (o := o) (P := fun f g => ∀ x ∈ mergeL p o f g, ∃ t ∈ f ++ g, x.2 = t.2) ?_ ?_ ?_ ?_ ?_ _ f g (Nat.le_refl _)
  · intro g x hx; rw [merge_nilL] at hx; exact ⟨x, by simpa using hx, rfl⟩
  · intro f x hx; rw [merge_nilR] at hx; exact ⟨x, by simpa using hx, rfl⟩
  · intro t f u g h ih x hx
    rw [merge_gt h] at hx
    rcases List.mem_cons.1 hx with rfl | hx
    · exact ⟨x, by simp, rfl⟩
    · obtain ⟨y, hy, e⟩ := ih x hx; exact ⟨y, by simp at hy ⊢; grind, e⟩
  · intro t f u g h ih x hx
    rw [merge_lt h] at hx
    rcases List.mem_cons.1 hx with rfl | hx
    · exact ⟨x, by simp, rfl⟩
    · obtain ⟨y, hy, e⟩ := ih x hx; exact ⟨y, by simp at hy ⊢; grind, e⟩
  · intro t f u g h ih x hx
    by_cases hz : (t.1 + u.1) % p = 0
    · rw [merge_no h hz] at hx
      obtain ⟨y, hy, e⟩ := ih x hx; exact ⟨y, by simp at hy ⊢; grind, e⟩
    · rw [merge_eq h hz] at hx
      rcases List.mem_cons.1 hx with rfl | hx
      · exact ⟨t, by simp, rfl⟩
      · obtain ⟨y, hy, e⟩ := ih x hx; exact ⟨y, by simp at hy ⊢; grind, e⟩
theorem merge_length {p o : Int} (f g : List Tm) : (mergeL p o f g).length ≤ f.length + g.length := by
  refine merge_ind (o := o) (P := fun f g => (mergeL p o f g).length ≤ f.length + g.length) ?_ ?_ ?_ ?_ ?_ _ f g (Nat.le_refl _)
  · intro g; rw [merge_nilL]; simp
  · intro f; rw [merge_nilR]; simp
  · intro t f u g h ih; rw [merge_gt h]; simp only [List.length_cons] at ih ⊢; omega
  · intro t f u g h ih; rw [merge_lt h]; simp only [List.length_cons] at ih ⊢; omega
  · intro t f u g h ih
    by_cases hz : (t.1 + u.1) % p = 0
    · rw [merge_no h hz]; simp only [List.length_cons]; omega
    · rw [merge_eq h hz]; simp only [List.length_cons]; omega
theorem merge_same {p o : Int} {n : Nat} (f g : List Tm) (hf : Len n f) (hg : Len n g) : Same p (mergeL p o f g) (f ++ g) := by
  intro φ
  rw [lin_append]
  revert hf hg
  refine merge_ind (o := o) (P := fun f g => Len n f → Len n g → p ∣ lin φ (mergeL p o f g) - (lin φ f + lin φ g)) ?_ ?_ ?_ ?_ ?_ _ f g (Nat.le_refl _)
  · intro g _ _; rw [merge_nilL]; simp [lin]
  · intro f _ _; rw [merge_nilR]; simp [lin]
  · intro t f u g h ih hf hg; rw [merge_gt h]; simp only [lin] at ih ⊢
    obtain ⟨k, hk⟩ := ih (fun x hx => hf x (by simp [hx])) hg
    exact ⟨k, by omega⟩
  · intro t f u g h ih hf hg; rw [merge_lt h]; simp only [lin] at ih ⊢
    obtain ⟨k, hk⟩ := ih hf (fun x hx => hg x (by simp [hx]))
    exact ⟨k, by omega⟩
  · intro t f u g h ih hf hg
    have e : t.2 = u.2 := (ordS_zero o t.2 u.2 (by rw [hf t (by simp), hg u (by simp)])).1 h
    obtain ⟨k, hk⟩ := ih (fun x hx => hf x (by simp [hx])) (fun x hx => hg x (by simp [hx]))
    obtain ⟨m, hm⟩ := modDvd p (t.1 + u.1)
    by_cases hz : (t.1 + u.1) % p = 0
    · rw [merge_no h hz]; simp only [lin]; rw [← e]
      rw [hz] at hm
      exact ⟨k + m * φ t.2, by grind⟩
    · rw [merge_eq h hz]; simp only [lin]; rw [← e]
      exact ⟨k + m * φ t.2, by grind⟩
theorem merge_canon {p o : Int} {n : Nat} (hp : 2 ≤ p) (f g : List Tm) (hf : Canon p o n f) (hg : Canon p o n g) : Canon p o n (mergeL p o f g) := by
  have hlen : Len n (mergeL p o f g) := by
    intro x hx
    obtain ⟨t, ht, e⟩ := merge_mem f g x hx
    rw [e]
    exact (List.mem_append.1 ht).elim (hf.len t) (hg.len t)
  refine ⟨hlen, ?_, ?_⟩
  · have lf := hf.len; have lg := hg.len; have ff := hf.falls; have fg := hg.falls
    clear hf hg hlen
    revert lf lg ff fg
    refine merge_ind (o := o) (P := fun f g => Len n f → Len n g → Falls o f → Falls o g → Falls o (mergeL p o f g)) ?_ ?_ ?_ ?_ ?_ _ f g (Nat.le_refl _)
    · intro g _ _ _ h; rw [merge_nilL]; exact h
    · intro f _ _ h _; rw [merge_nilR]; exact h
    · intro t f u g h ih lf lg ff fg
      rw [merge_gt h]
      refine ⟨fun x hx => ?_, ih (fun x hx => lf x (by simp [hx])) lg ff.2 fg⟩
      obtain ⟨y, hy, e⟩ := merge_mem f (u :: g) x hx
      rw [e]
      rcases List.mem_append.1 hy with hy | hy
      · exact ff.1 y hy
      · rcases List.mem_cons.1 hy with rfl | hy
        · exact h
        · exact ordS_trans o t.2 u.2 y.2 (by rw [lf t (by simp), lg u (by simp)]) (by rw [lg u (by simp), lg y (by simp [hy])]) h (fg.1 y hy)
    · intro t f u g h ih lf lg ff fg
      rw [merge_lt h]
      have h' : 0 < ordS o u.2 t.2 := by have := ordS_neg o u.2 t.2; omega
      refine ⟨fun x hx => ?_, ih lf (fun x hx => lg x (by simp [hx])) ff fg.2⟩
      obtain ⟨y, hy, e⟩ := merge_mem (t :: f) g x hx
      rw [e]
      rcases List.mem_append.1 hy with hy | hy
      · rcases List.mem_cons.1 hy with rfl | hy
        · exact h'
        · exact ordS_trans o u.2 t.2 y.2 (by rw [lf t (by simp), lg u (by simp)]) (by rw [lf t (by simp), lf y (by simp [hy])]) h' (ff.1 y hy)
      · exact fg.1 y hy
    · intro t f u g h ih lf lg ff fg
      have e0 : t.2 = u.2 := (ordS_zero o t.2 u.2 (by rw [lf t (by simp), lg u (by simp)])).1 h
      have ih' := ih (fun x hx => lf x (by simp [hx])) (fun x hx => lg x (by simp [hx])) ff.2 fg.2
      by_cases hz : (t.1 + u.1) % p = 0
      · rw [merge_no h hz]; exact ih'
      · rw [merge_eq h hz]
        refine ⟨fun x hx => ?_, ih'⟩
        obtain ⟨y, hy, e⟩ := merge_mem f g x hx
        simp only
        rw [e]
        rcases List.mem_append.1 hy with hy | hy
        · exact ff.1 y hy
        · rw [e0]; exact fg.1 y hy
  · have cf := hf.coef; have cg := hg.coef
    clear hf hg hlen
    revert cf cg
    refine merge_ind (o := o) (P := fun f g => (∀ t ∈ f, 1 ≤ t.1 ∧ t.1 < p) → (∀ t ∈ g, 1 ≤ t.1 ∧ t.1 < p) → ∀ t ∈ mergeL p o f g, 1 ≤ t.1 ∧ t.1 < p) ?_ ?_ ?_ ?_ ?_ _ f g (Nat.le_refl _)
    · intro g _ h; rw [merge_nilL]; exact h
    · intro f h _; rw [merge_nilR]; exact h
    · intro t f u g h ih cf cg x hx
      rw [merge_gt h] at hx
      rcases List.mem_cons.1 hx with rfl | hx
      · exact cf x (by simp)
      · exact ih (fun x hx => cf x (by simp [hx])) cg x hx
    · intro t f u g h ih cf cg x hx
      rw [merge_lt h] at hx
      rcases List.mem_cons.1 hx with rfl | hx
      · exact cg x (by simp)
      · exact ih cf (fun x hx => cg x (by simp [hx])) x hx
    · intro t f u g h ih cf cg x hx
      have ih' := ih (fun x hx => cf x (by simp [hx])) (fun x hx => cg x (by simp [hx]))
      by_cases hz : (t.1 + u.1) % p = 0
      · rw [merge_no h hz] at hx; exact ih' x hx
      · rw [merge_eq h hz] at hx
        rcases List.mem_cons.1 hx with rfl | hx
        · have h1 := Int.emod_nonneg (t.1 + u.1) (show p ≠ 0 by omega)
          have h2 := Int.emod_lt_of_pos (t.1 + u.1) (show 0 < p by omega)
          simp only; omega
        · exact ih' x hx

theorem prime_mul {p a b : Nat} (h : noDiv p p = true) (ha : 0 < a) (ha2 : a < p) (hb : 0 < b) (hb2 : b < p) : a * b % p ≠ 0 := by
  intro hz
  have hd := Nat.dvd_of_mod_eq_zero hz
  have hc : Nat.Coprime p a := by
    have h1 := Nat.gcd_dvd_left p a
    have h3 : Nat.gcd p a ≤ a := Nat.le_of_dvd ha (Nat.gcd_dvd_right p a)
    have h4 : 0 < Nat.gcd p a := Nat.gcd_pos_of_pos_right p ha
    unfold noDiv at h
    rw [List.all_eq_true] at h
    have h5 := h (Nat.gcd p a) (List.mem_range.2 (by omega))
    rw [Nat.mod_eq_zero_of_dvd h1] at h5
    simp at h5
    show Nat.gcd p a = 1
    omega
  have := Nat.le_of_dvd hb (hc.dvd_of_dvd_mul_left hd)
  omega
theorem prime_mulI {p a b : Int} (h : errP p = 0) (ha : 1 ≤ a) (ha2 : a < p) (hb : 1 ≤ b) (hb2 : b < p) : 1 ≤ a * b % p ∧ a * b % p < p := by
  have h0 : noDiv p.toNat p.toNat = true := by
    unfold errP at h
    by_cases h1 : p < 2 ∨ 101 < p
    · rw [if_pos h1] at h; omega
    · rw [if_neg h1] at h
      cases hq : primeB p
      · rw [hq] at h; simp at h
      · exact hq
  have h1 := prime_mul h0 (a := a.toNat) (b := b.toNat) (by omega) (by omega) (by omega) (by omega)
  have e : a * b % p = ((a.toNat * b.toNat % p.toNat : Nat) : Int) := by
    rw [Int.natCast_emod, Int.natCast_mul, Int.toNat_of_nonneg (by omega), Int.toNat_of_nonneg (by omega), Int.toNat_of_nonneg (by omega)]
  have h2 := Int.emod_lt_of_pos (a * b) (show 0 < p by omega)
  omega
theorem errP_bd {p : Int} (h : errP p = 0) : 2 ≤ p ∧ p ≤ 101 := by
  unfold errP at h
  by_cases h1 : p < 2 ∨ 101 < p
  · rw [if_pos h1] at h; omega
  · omega
/-- A term times a polynomial. -/
theorem prodT_canon {p o : Int} {n : Nat} (h : errP p = 0) {t : Tm} (ht : 1 ≤ t.1 ∧ t.1 < p) (hl : t.2.length = n) : ∀ {g : List Tm}, Canon p o n g → Canon p o n (prodT p t g)
  | [], _ => ⟨fun x hx => by simp [prodT] at hx, trivial, fun x hx => by simp [prodT] at hx⟩
  | u :: g, hg => by
    have hg2 : Canon p o n g := ⟨fun x hx => hg.len x (by simp [hx]), hg.falls.2, fun x hx => hg.coef x (by simp [hx])⟩
    have ih := prodT_canon h ht hl hg2
    have e : prodT p t (u :: g) = (t.1 * u.1 % p, zipI (· + ·) t.2 u.2) :: prodT p t g := rfl
    have hu := hg.coef u (by simp)
    have lu := hg.len u (by simp)
    rw [e]
    refine ⟨fun x hx => ?_, ⟨fun x hx => ?_, ih.falls⟩, fun x hx => ?_⟩
    · rcases List.mem_cons.1 hx with rfl | hx
      · simp only; rw [zipI_len _ _ _ (by omega)]; exact hl
      · exact ih.len x hx
    · simp only [prodT, List.mem_map] at hx
      obtain ⟨y, hy, rfl⟩ := hx
      have ly := hg.len y (by simp [hy])
      simp only
      rw [zip_comm t.2 u.2, zip_comm t.2 y.2, ordS_add o u.2 y.2 t.2 (by omega) (by omega)]
      exact hg.falls.1 y hy
    · rcases List.mem_cons.1 hx with rfl | hx
      · exact prime_mulI h ht.1 ht.2 hu.1 hu.2
      · exact ih.coef x hx

/-- One behind the other. -/
def cat (F : Nat → List Tm) (a k : Nat) : List Tm := (List.range' a k).flatMap F
theorem cat_zero (F : Nat → List Tm) (a : Nat) : cat F a 0 = [] := rfl
theorem cat_one (F : Nat → List Tm) (a : Nat) : cat F a 1 = F a := by simp [cat]
theorem cat_add (F : Nat → List Tm) (a k m : Nat) : cat F a (k + m) = cat F a k ++ cat F (a + k) m := by
  unfold cat; rw [← List.range'_append_1, List.flatMap_append]

end Go.Proofs.Ytkmjmmnnnbjghaa

/- checkRows; CheckRows of the reference. -/
namespace Go.Proofs.Ytkmjmmnnnbjghaa
set_option linter.unusedSimpArgs false
set_option linter.unusedVariables false
open Go.RowKit

theorem belowTwo {w : World} {A B : Obj} : Below w.heap.size w ((w.alloc A).alloc B) := belowNew.trans (belowNew.mono (by simp))
theorem longR_ok {xss : List (List Int)} (h : xss.any longR = false) : ∀ xs ∈ xss, xs.length ≤ 400 := by
  intro xs hx
  rw [List.any_eq_false] at h
  have := h xs hx
  simp [longR] at this; omega

set_option maxHeartbeats 1000000 in
theorem checkRows_any (p : Int) (v : Value) (xss : List (List Int)) (w : World) (hr : Rws w v xss) :
    Calls Try.prog 60 #[.int .i64 p, v] w fun e w' => e = .returned (.int .i64 (rowsE p xss)) ∧ Below w.heap.size w w' := by
  have HR := hid hr
  obtain ⟨a, cap, rfl, _⟩ := hr
  cases hp : (errP p != 0)
  · have hp0 : errP p = 0 := by simpa using hp
    have HE : Hid (rowsE p xss = rowE p xss) := by unfold Hid rowsE; rw [if_pos hp0]
    rw [HE.out]
    clear HE hp0
    by_cases hl : 400 < (xss.length : Int)
    · have e : rowE p xss = 2 := by unfold rowE; rw [if_pos (Or.inl hl)]
      rw [e]
      clear e
      go_enter Try.func60, Try.ntmps60
      go_wp2_with fail
      refine (check_any _ _).mono ?_
      rintro e w' ⟨rfl, rfl⟩
      go_wp2
      go_ret
      exact ⟨rfl, belowTwo⟩
    · have hm : xss.length ≤ 400 := by omega
      cases h1 : xss.any longR
      · have h1' := longR_ok h1
        have H1 := hid h1'
        cases h2 : xss.any (unlikeR (xss.getD 0 []).length)
        · cases h3 : xss.any (fun xs => xs.any (outP p))
          all_goals
            have e : rowE p xss = if xss.any (fun xs => xs.any (outP p)) then 3 else 0 := by unfold rowE; rw [if_neg (by simp [h1]; omega), if_neg (by rw [h2]; exact Bool.false_ne_true)]
            rw [e, h3]
            clear e h1'
            go_enter Try.func60, Try.ntmps60
            go_wp2_with fail
            refine (check_any _ _).mono ?_
            rintro e w' ⟨rfl, rfl⟩
            go_wp2_with fail
            refine (containsLong_any longR _ xss _ hm (HR.out.below belowTwo) (fun W v xs hb hs _ => longFn_any v xs W hs)).mono ?_
            rintro e w1 ⟨rfl, hb1⟩
            have hc1 := hb1.cell (p := ⟨w.heap.size + 1, 0, none⟩) (by simp)
            have hc0 := hb1.cell (p := ⟨w.heap.size, 0, none⟩) (by simp; omega)
            have hs1 : w.heap.size + 2 ≤ w1.heap.size := by have := hb1.size; simp at this; omega
            have hbw1 : Below w.heap.size w w1 := belowTwo.trans (hb1.mono (by simp; omega))
            simp [go_sem] at hc1 hc0
            clear hb1
            go_wp2_with fail
            refine (containsUnlike_any (unlikeR (xss.getD 0 []).length) _ xss _ _ hm (HR.out.below hbw1) (fun W v xs hb hs hx => unlikeFn_any v _ xs xss _ W hs (HR.out.below (hbw1.trans (hb.mono hbw1.size))) (List.length_pos_of_mem hx) (by rw [hb.cell (p := ⟨w.heap.size + 1, 0, none⟩) (show w.heap.size + 1 < _ by omega)]; exact hc1))).mono ?_
            rintro e w2 ⟨rfl, hb2⟩
            rw [h2]
            have hd1 := hb2.cell (p := ⟨w.heap.size + 1, 0, none⟩) (show w.heap.size + 1 < _ by omega)
            have hd0 := hb2.cell (p := ⟨w.heap.size, 0, none⟩) (show w.heap.size < _ by omega)
            rw [hc1] at hd1
            rw [hc0] at hd0
            have hs2 : w.heap.size + 2 ≤ w2.heap.size := Nat.le_trans hs1 hb2.size
            have hbw2 : Below w.heap.size w w2 := hbw1.trans (hb2.mono hbw1.size)
            clear hb2 hc0 hc1 hs1 hbw1
            go_wp2_with fail
            refine (containsRange_any (fun xs => xs.any (outP p)) _ xss _ _ hm (HR.out.below hbw2) (fun W v xs hb hs hx => rangeFn_any p v xs _ W (H1.out xs hx) hs (by rw [hb.cell (p := ⟨w.heap.size, 0, none⟩) (show w.heap.size < _ by omega)]; exact hd0))).mono ?_
            rintro e w3 ⟨rfl, hb3⟩
            have hbw3 : Below w.heap.size w w3 := hbw2.trans (hb3.mono hbw2.size)
            rw [h3]
            go_wp2
            go_ret
            exact ⟨rfl, hbw3⟩
        · have e : rowE p xss = 1 := by unfold rowE; rw [if_neg (by simp [h1]; omega), if_pos h2]
          rw [e]
          clear e h1'
          go_enter Try.func60, Try.ntmps60
          go_wp2_with fail
          refine (check_any _ _).mono ?_
          rintro e w' ⟨rfl, rfl⟩
          go_wp2_with fail
          refine (containsLong_any longR _ xss _ hm (HR.out.below belowTwo) (fun W v xs hb hs _ => longFn_any v xs W hs)).mono ?_
          rintro e w1 ⟨rfl, hb1⟩
          have hc1 := hb1.cell (p := ⟨w.heap.size + 1, 0, none⟩) (by simp)
          have hs1 : w.heap.size + 2 ≤ w1.heap.size := by have := hb1.size; simp at this; omega
          have hbw1 : Below w.heap.size w w1 := belowTwo.trans (hb1.mono (by simp; omega))
          simp [go_sem] at hc1
          clear hb1
          go_wp2_with fail
          refine (containsUnlike_any (unlikeR (xss.getD 0 []).length) _ xss _ _ hm (HR.out.below hbw1) (fun W v xs hb hs hx => unlikeFn_any v _ xs xss _ W hs (HR.out.below (hbw1.trans (hb.mono hbw1.size))) (List.length_pos_of_mem hx) (by rw [hb.cell (p := ⟨w.heap.size + 1, 0, none⟩) (show w.heap.size + 1 < _ by omega)]; exact hc1))).mono ?_
          rintro e w2 ⟨rfl, hb2⟩
          rw [h2]
          go_wp2
          go_ret
          exact ⟨rfl, hbw1.trans (hb2.mono hbw1.size)⟩
      · have e : rowE p xss = 2 := by unfold rowE; rw [if_pos (Or.inr h1)]
        rw [e]
        clear e
        go_enter Try.func60, Try.ntmps60
        go_wp2_with fail
        refine (check_any _ _).mono ?_
        rintro e w' ⟨rfl, rfl⟩
        go_wp2_with fail
        refine (containsLong_any longR _ xss _ hm (HR.out.below belowTwo) (fun W v xs hb hs _ => longFn_any v xs W hs)).mono ?_
        rintro e w1 ⟨rfl, hb1⟩
        go_wp2
        go_ret
        exact ⟨rfl, belowTwo.trans (hb1.mono (by simp; omega))⟩
  · have e : rowsE p xss = errP p := by unfold rowsE; rw [if_neg (by simpa using hp)]
    rw [e]
    clear e
    go_enter Try.func60, Try.ntmps60
    go_wp2_with fail
    refine (check_any _ _).mono ?_
    rintro e w' ⟨rfl, rfl⟩
    go_wp2
    go_ret
    exact ⟨rfl, belowTwo⟩

end Go.Proofs.Ytkmjmmnnnbjghaa

/- Clone; clearing a column. -/
namespace Go.Proofs.Ytkmjmmnnnbjghaa
set_option linter.unusedSimpArgs false
set_option linter.unusedVariables false
open Go.RowKit

theorem Try.infoInt : (Try.prog.info? 3).map (fun i => (i.zero, i.size, i.bytes)) = some (some (.int .i64 0), 1, 8) := by kernel_rfl
abbrev ints (xs : List Int) : List Value := xs.map (Value.int .i64)
/-- A row of the call's own. -/
def Own (w : World) (B : Nat) (v : Value) (xs : List Int) : Prop := w.ownsRow B 3 1 v xs.length (ints xs)

theorem intsAt_news {w : World} {b off : Nat} {xs : List Int} (h : IntsAt w b off xs) : ∀ j u, (ints xs)[j]? = some u → w.cell? ((⟨b, off, none⟩ : Addr).add j) = some u := by
  intro j u hj
  rw [List.getElem?_map] at hj
  cases hx : xs[j]? with
  | none => rw [hx] at hj; simp at hj
  | some x =>
    rw [hx] at hj
    simp at hj
    subst hj
    have hl : j < xs.length := by
      apply Nat.lt_of_not_le; intro hle; rw [List.getElem?_eq_none hle] at hx; simp at hx
    have := h j hl
    rw [List.getD_eq_getElem?_getD, hx] at this
    by_cases h0 : j = 0
    · subst h0; simpa [Addr.add] using this
    · simpa [Addr.add, h0] using this
theorem ints_one (xs : List Int) : ∀ u ∈ ints xs, u.oneCell' = true := by
  intro u hu
  simp at hu
  obtain ⟨x, _, rfl⟩ := hu
  rfl

set_option maxHeartbeats 400000 in
theorem clone_any (v : Value) (xs : List Int) (w : World) (hm : xs.length ≤ 400) (hs : Sl w v xs) :
    Calls Try.prog 81 #[v] w fun e w' => ∃ u, e = .returned u ∧ Own w' w.heap.size u xs ∧ Below w.heap.size w w' := by
  obtain ⟨a, cap, rfl, h1⟩ := hs
  have hnil := fun (w : World) (a : Option Addr) (n c : Nat) => Lib.run_eql_slice_nil (P := Try.prog) w 36 3 a n c 0 0 Try.underlying36
  obtain ⟨i0, hi, hz0, hz1, hz2⟩ := info_parts Try.infoInt
  cases a with
  | none =>
    have h0 : xs = [] := List.length_eq_zero_iff.1 (by
      apply Nat.eq_zero_of_not_pos; intro h; obtain ⟨b, off, hh, _⟩ := h1 h; simp at hh)
    subst h0
    clear h1
    go_enter Try.func81, Try.ntmps81
    go_wp2
    go_ret
    exact ⟨_, rfl, World.ownsRow_nil _ _ _ _, Below.refl _ _⟩
  | some ad =>
    have HN : Hid (∀ j u, (ints xs)[j]? = some u → (w.alloc (.cells #[] 3)).cell? (ad.add j) = some u) := by
      intro j u hj
      by_cases h0 : 0 < xs.length
      · obtain ⟨b, off, hh, hlt, hc⟩ := h1 h0
        simp at hh
        subst hh
        refine intsAt_news (w := w.alloc (.cells #[] 3)) (b := b) (off := off) ?_ j u hj
        intro i hi
        rw [belowNew.cell (p := ⟨b, off + i, none⟩) hlt]; exact hc i hi
      · have : xs = [] := List.length_eq_zero_iff.1 (by omega)
        subst this; simp at hj
    clear h1
    go_enter Try.func81, Try.ntmps81
    go_wp2_with (at_builtin; refine wpList_append_own _ rfl _ _ 36 rfl w.heap.size 3 i0 (.int .i64 0) 1 8 Try.underlying36 hi hz0 hz1 hz2 rfl (by decide) _ _ _ rfl (World.ownsRow_made w #[] 0 (Nat.le_refl _) (by decide) (by simp)) ad xs.length cap (ints xs) rfl (by simp) HN.out (ints_one xs) (by unfold maxLen; omega) (by omega) (by simp) ?_)
    intro v' w1 hown' hgrow _
    try simp only [Nat.zero_add, List.nil_append] at hown'
    have hb : Below w.heap.size w w1 := (belowNew).grown hgrow (by simp) (fun k hk => by simp [Value.ownBlock] at hk; omega)
    have HO := hid hown'
    obtain ⟨g, c, hv⟩ : ∃ g c, v' = .slice g xs.length c := by
      rcases hown'.2 with ⟨h, h'⟩ | ⟨g, c, cur, h, _⟩
      · exact ⟨none, 0, by rw [h, h']⟩
      · exact ⟨_, c, h⟩
    subst hv
    clear hown' hgrow hnil
    go_wp2
    go_ret
    exact ⟨_, rfl, HO.out, hb⟩

end Go.Proofs.Ytkmjmmnnnbjghaa

/- Rows of terms of the call's own. -/
namespace Go.Proofs.Ytkmjmmnnnbjghaa
set_option linter.unusedSimpArgs false
set_option linter.unusedVariables false
open Go.RowKit

theorem Try.infoTerm : (Try.prog.info? 61).map (fun i => (i.zero, i.size, i.bytes)) = some (some (.agg #[.int .i64 0, .slice none 0 0]), 2, 32) := by kernel_rfl

/-- A term in memory: its coefficient, the slice of its exponents, and these. -/
abbrev TV := Int × Value × List Int
def tm (t : TV) : Tm := (t.1, t.2.2)
def flat (ts : List TV) : List Value := ts.flatMap fun t => [.int .i64 t.1, t.2.1]
theorem flat_len (ts : List TV) : (flat ts).length = ts.length * 2 := by
  induction ts with
  | nil => rfl
  | cons t ts ih => simp only [flat, List.flatMap_cons, List.length_append, List.length_cons, List.length_nil] at ih ⊢; omega
theorem flat_cons (t : TV) (ts : List TV) : flat (t :: ts) = .int .i64 t.1 :: t.2.1 :: flat ts := rfl
theorem flat_append (ts us : List TV) : flat (ts ++ us) = flat ts ++ flat us := by unfold flat; rw [List.flatMap_append]
def noTV : TV := (0, .slice none 0 0, [])
theorem flat_at : ∀ (ts : List TV) (i : Nat), i < ts.length → (flat ts)[i * 2]? = some (.int .i64 (ts.getD i noTV).1) ∧ (flat ts)[i * 2 + 1]? = some (ts.getD i noTV).2.1
  | [], i, h => by simp at h
  | t :: ts, 0, h => by simp [flat_cons]
  | t :: ts, i + 1, h => by
    have := flat_at ts i (by simpa using h)
    rw [flat_cons, show (i + 1) * 2 = i * 2 + 1 + 1 by omega]
    simpa using this
theorem tm_at (ts : List TV) (i : Nat) (h : i < ts.length) : (ts.map tm).getD i noT = tm (ts.getD i noTV) := by
  simp [List.getD_eq_getElem?_getD, h]
theorem tv_mem (ts : List TV) (i : Nat) (h : i < ts.length) : ts.getD i noTV ∈ ts := by
  rw [List.getD_eq_getElem?_getD, List.getElem?_eq_getElem h]; simp

/-- What the slices of the exponents hold. -/
def Es (w : World) (ts : List TV) : Prop := ∀ t ∈ ts, Sl w t.2.1 t.2.2
theorem Es.below {w w' : World} {ts : List TV} (h : Es w ts) (hb : Below w.heap.size w w') : Es w' ts := fun t ht => (h t ht).below hb
theorem flat_one {w : World} {ts : List TV} (h : Es w ts) : ∀ u ∈ flat ts, u.oneCell' = true := by
  intro u hu
  simp only [flat, List.mem_flatMap] at hu
  obtain ⟨t, ht, hu⟩ := hu
  simp only [List.mem_cons, List.not_mem_nil, or_false] at hu
  rcases hu with rfl | rfl
  · rfl
  · obtain ⟨a, c, e, _⟩ := h t ht; rw [e]; rfl

/-- A row of one's own is a polynomial. -/
theorem own_pl {w : World} {B : Nat} {v : Value} {ts : List TV} (h : w.ownsRow B 61 2 v ts.length (flat ts)) (he : Es w ts) : Pl w v (ts.map tm) := by
  rcases h.2 with ⟨h1, h2⟩ | ⟨g, cap, cur, rfl, hg, hh, hn, hm, hcs, ht⟩
  · refine ⟨none, 0, by rw [h1]; simp [h2], by simp [h2], fun hp => by simp at hp; omega⟩
  · refine ⟨_, cap, by rw [List.length_map], by rw [List.length_map]; exact hn, fun hp => ⟨g, 0, rfl, ?_, fun i hi => ?_⟩⟩
    · apply Nat.lt_of_not_le; intro hle; rw [Array.getElem?_eq_none hle] at hh; simp at hh
    · rw [List.length_map] at hi
      rw [tm_at ts i hi]
      have key : ∀ j, j < ts.length * 2 → w.cell? ⟨g, j, none⟩ = (flat ts)[j]? := by
        intro j hj
        have h1 : (cur.toList.take (ts.length * 2))[j]? = (flat ts)[j]? := by rw [ht]
        rw [List.getElem?_take, if_pos hj] at h1
        rw [← h1]
        unfold World.cell?
        simp only [hh]
        simp
      have h2 := flat_at ts i hi
      refine ⟨?_, (ts.getD i noTV).2.1, ?_, he _ (tv_mem ts i hi)⟩
      · rw [Nat.zero_add, key _ (by omega), h2.1]; rfl
      · rw [Nat.zero_add, key _ (by omega), h2.2]

/-- A polynomial's terms, with their slices. -/
theorem Pl.tvs {w : World} {v : Value} {ts : List Tm} (h : Pl w v ts) : ∃ (a : Option Addr) (cap : Nat) (us : List TV), v = .slice a us.length cap ∧ us.length ≤ cap ∧ us.map tm = ts ∧ Es w us ∧
    (0 < us.length → ∃ b off, a = some ⟨b, off, none⟩ ∧ b < w.heap.size ∧ ∀ j u, (flat us)[j]? = some u → w.cell? ⟨b, off + j, none⟩ = some u) := by
  obtain ⟨a, cap, rfl, hcap, h⟩ := h
  by_cases hp : 0 < ts.length
  · obtain ⟨b, off, rfl, hlt, hc⟩ := h hp
    obtain ⟨V, hV⟩ := Go.Deep.choose_lt (α := Value) (n := ts.length) (p := fun i u => w.cell? ⟨b, off + i * 2 + 1, none⟩ = some u ∧ Sl w u (ts.getD i noT).2) (fun i hi => by
      obtain ⟨_, v, h1, h2⟩ := hc i hi; exact ⟨v, h1, h2⟩)
    let us : List TV := (List.range ts.length).map fun i => ((ts.getD i noT).1, V i, (ts.getD i noT).2)
    have hl : us.length = ts.length := by simp [us]
    have hat : ∀ i, i < ts.length → us.getD i noTV = ((ts.getD i noT).1, V i, (ts.getD i noT).2) := fun i hi => by simp [us, List.getD_eq_getElem?_getD, hi]
    refine ⟨some ⟨b, off, none⟩, cap, us, by rw [hl], by rw [hl]; exact hcap, ?_, ?_, fun _ => ⟨b, off, rfl, hlt, ?_⟩⟩
    · apply List.ext_getElem?
      intro i
      by_cases hi : i < ts.length
      · simp [us, tm, hi]
      · rw [List.getElem?_eq_none (by simp; omega), List.getElem?_eq_none (by omega)]
    · intro t ht
      simp only [us, List.mem_map, List.mem_range] at ht
      obtain ⟨i, hi, rfl⟩ := ht
      exact (hV i hi).2
    · intro j u hj
      have hjl : j < us.length * 2 := by
        rw [← flat_len]
        apply Nat.lt_of_not_le; intro hle; rw [List.getElem?_eq_none hle] at hj; simp at hj
      rw [hl] at hjl
      have hi : j / 2 < ts.length := by omega
      have hf := flat_at us (j / 2) (by rw [hl]; exact hi)
      rw [hat _ hi] at hf
      by_cases he : j % 2 = 0
      · have e : j / 2 * 2 = j := by omega
        rw [e] at hf
        rw [hf.1] at hj
        simp only [Option.some.injEq] at hj
        subst hj
        have := (hc _ hi).1
        rwa [e] at this
      · have e : j / 2 * 2 + 1 = j := by omega
        rw [e] at hf
        rw [hf.2] at hj
        simp only [Option.some.injEq] at hj
        subst hj
        have := (hV _ hi).1
        rwa [Nat.add_assoc, e] at this
  · have e : ts = [] := List.length_eq_zero_iff.1 (by omega)
    subst e
    exact ⟨a, cap, [], rfl, Nat.zero_le _, rfl, fun t ht => by simp at ht, fun h => absurd h (by simp)⟩

end Go.Proofs.Ytkmjmmnnnbjghaa

/- Clearing a column. -/
namespace Go.Proofs.Ytkmjmmnnnbjghaa
set_option linter.unusedSimpArgs false
set_option linter.unusedVariables false
open Go.RowKit

theorem grown_refl (w : World) (r : Option Nat) : w.grownBy w r := ⟨rfl, rfl, rfl, Nat.le_refl _, fun _ _ _ => rfl⟩
theorem grown_trans {a b c : World} {r : Option Nat} (h : a.grownBy b r) (k : b.grownBy c r) : a.grownBy c r :=
  ⟨k.os.trans h.os, k.tape.trans h.tape, k.output.trans h.output, Nat.le_trans h.size k.size, fun i hi hn => (k.block i (Nat.lt_of_lt_of_le hi h.size) hn).trans (h.block i hi hn)⟩
theorem grown_drew {a b : World} {r : Option Nat} (h : a.grownBy b r) : a.grownBy b.drew r := ⟨h.os, h.tape, h.output, h.size, h.block⟩
theorem grown_set (w : World) (g j : Nat) (u : Value) : w.grownBy (w.setCell ⟨g, j, none⟩ u) (some g) :=
  ⟨rfl, rfl, rfl, by simp [World.setCell], fun k _ hn => Below.heap_setCell _ _ _ _ (fun e => hn (by rw [e]))⟩
theorem grown_below {w w' : World} {g B : Nat} (h : w.grownBy w' (some g)) (hB : B ≤ g) (hw : B ≤ w.heap.size) : Below B w w' :=
  ⟨h.os, h.tape, h.output, h.size, fun k hk => h.block k (by omega) (fun e => by simp at e; omega)⟩
theorem below_grown {w w' : World} {r : Option Nat} (h : Below w.heap.size w w') : w.grownBy w' r :=
  ⟨h.os, h.tape, h.output, h.size, fun k hk _ => h.block k hk⟩
theorem grown_sl {w w' : World} {g : Nat} {v : Value} {xs : List Int} (h : w.grownBy w' (some g)) (hs : Sl w v xs) (hne : ∀ b off n c, v = .slice (some ⟨b, off, none⟩) n c → b ≠ g) : Sl w' v xs := by
  obtain ⟨a, cap, rfl, h1⟩ := hs
  refine ⟨a, cap, rfl, fun hp => ?_⟩
  obtain ⟨b, off, rfl, hlt, hc⟩ := h1 hp
  refine ⟨b, off, rfl, Nat.lt_of_lt_of_le hlt h.size, fun i hi => ?_⟩
  exact h.cell (hc i hi) (fun e => hne b off _ _ rfl (by injection e))

def clrF (p t x y : Int) : Int := (x + t * y) % p

set_option maxHeartbeats 400000 in
theorem clearFn_any (p t x y : Int) (tb pb : Nat) (w : World) (hp : 2 ≤ p ∧ p ≤ 101) (ht : 0 ≤ t ∧ t ≤ 101) (hx : 0 ≤ x ∧ x < p) (hy : 0 ≤ y ∧ y < p) (hct : w.cell? ⟨tb, 0, none⟩ = some (.int .i64 t)) (hcp : w.cell? ⟨pb, 0, none⟩ = some (.int .i64 p)) :
    Calls Try.prog 126 #[.int .i64 x, .int .i64 y, .pointer (some ⟨tb, 0, none⟩), .pointer (some ⟨pb, 0, none⟩)] w fun e w' => e = .returned (.int .i64 (clrF p t x y)) ∧ w' = w := by
  obtain ⟨h1, h2⟩ := mul_bd (a := t) (b := y) ⟨by omega, by omega, by omega, by omega⟩
  obtain ⟨_, _⟩ := hp
  obtain ⟨_, _⟩ := hx
  unfold clrF
  go_enter Try.func126, Try.ntmps126
  go_wp2
  go_ret
  exact ⟨rfl, rfl⟩

/-- Some of the new row, and the rest of the old one. -/
def mixL (zs xs : List Int) (k : Nat) : List Int := zs.take k ++ xs.drop k
theorem mixL_len (zs xs : List Int) (k : Nat) (h : zs.length = xs.length) (hk : k ≤ xs.length) : (mixL zs xs k).length = xs.length := by
  simp [mixL]; omega
theorem mixL_at (zs xs : List Int) (k : Nat) (h : zs.length = xs.length) (hk : k < xs.length) : (mixL zs xs k).getD k 0 = xs.getD k 0 := by
  simp only [mixL, List.getD_eq_getElem?_getD]
  rw [List.getElem?_append_right (by simp; omega), List.getElem?_drop]
  congr 2
  simp; omega
theorem mixL_set (zs xs : List Int) (k : Nat) (h : zs.length = xs.length) (hk : k < xs.length) : (mixL zs xs k).set k (zs.getD k 0) = mixL zs xs (k + 1) := by
  simp only [mixL]
  rw [List.drop_eq_getElem_cons hk, List.set_append_right _ _ (by simp; omega)]
  have e : k - (zs.take k).length = 0 := by simp; omega
  rw [e, List.set_cons_zero, List.take_succ_eq_append_getElem (by omega), List.append_assoc]
  simp [List.getD_eq_getElem?_getD, show k < zs.length by omega]
theorem ints_set (xs : List Int) (k : Nat) (z : Int) : (ints xs).set k (.int .i64 z) = ints (xs.set k z) := by simp [List.map_set]

set_option maxHeartbeats 400000 in
theorem fieldEach_any (p t : Int) (xs ys : List Int) (B g cap b2 off2 cap2 tb pb : Nat) (w : World) (hp : 2 ≤ p ∧ p ≤ 101) (ht : 0 ≤ t ∧ t ≤ 101) (hm : xs.length ≤ 400) (hxy : xs.length = ys.length)
    (hx : ∀ x ∈ xs, 0 ≤ x ∧ x < p) (hy : ∀ x ∈ ys, 0 ≤ x ∧ x < p) (hown : Own w B (.slice (some ⟨g, 0, none⟩) xs.length cap) xs) (hlt2 : b2 < w.heap.size) (hne : b2 ≠ g) (hc2 : IntsAt w b2 off2 ys)
    (htb : tb ≠ g) (hpb : pb ≠ g) (hct : w.cell? ⟨tb, 0, none⟩ = some (.int .i64 t)) (hcp : w.cell? ⟨pb, 0, none⟩ = some (.int .i64 p)) :
    Calls Try.prog 125 #[.slice (some ⟨g, 0, none⟩) xs.length cap, .slice (some ⟨b2, off2, none⟩) ys.length cap2, .func (.func 126) #[] #[.pointer (some ⟨tb, 0, none⟩), .pointer (some ⟨pb, 0, none⟩)]] w fun e w' =>
      e = .returned (.tuple #[]) ∧ Own w' B (.slice (some ⟨g, 0, none⟩) xs.length cap) (zipI (clrF p t) xs ys) ∧ w.grownBy w' (some g) := by
  have HC2 := hid hc2
  have HX := hid hx
  have HY := hid hy
  have HP := hid (And.intro hp ht)
  have HT := hid (And.intro hct hcp)
  have HLZ := hid (zipI_len (clrF p t) xs ys hxy)
  have HOWN := hid hown
  rw [← hxy]
  have HXY := hid hxy
  clear hc2 hx hy hp ht hct hcp hxy hown
  go_enter Try.func125, Try.ntmps125
  go_wp2
  go_loopw [9] (fun i wr => ∃ k : Nat, k ≤ xs.length ∧ i = .int .i64 k ∧ wr.ownsRow B 3 1 (.slice (some ⟨g, 0, none⟩) xs.length cap) xs.length (ints (mixL (zipI (clrF p t) xs ys) xs k)) ∧ w.grownBy wr (some g)) (fun i _ => xs.length - (intOf i).toNat)
  case atStart => exact ⟨0, Nat.zero_le _, rfl, by have h1 := HOWN.out; unfold Own at h1; simpa [mixL] using h1, grown_refl _ _⟩
  case round =>
    obtain ⟨k, hk, rfl, ho, hg⟩ := hrel
    have HO := hid ho
    have HG := hid hg
    by_cases hk2 : k < xs.length
    · have hz := zipI_at (clrF p t) xs ys HXY.out k hk2
      have hcell := ho.cellAt k (by omega)
      have hfr := ho.frozenAt k
      have hxk : (ints (mixL (zipI (clrF p t) xs ys) xs k))[k]? = some (.int .i64 (xs.getD k 0)) := by
        have e := mixL_at (zipI (clrF p t) xs ys) xs k HLZ.out hk2
        have hl := mixL_len (zipI (clrF p t) xs ys) xs k HLZ.out hk
        rw [List.getD_eq_getElem?_getD, List.getElem?_eq_getElem (by omega)] at e
        simp only [ints, List.getElem?_map]
        rw [List.getElem?_eq_getElem (by omega)]
        simp at e
        simp [e]
      rw [hxk] at hcell
      have hcell2 := HC2.out k (by rw [← HXY.out]; exact hk2)
      have hc2' := hg.cell hcell2 (fun e => hne (by injection e))
      have hct' := hg.cell HT.out.1 (fun e => htb (by injection e))
      have hcp' := hg.cell HT.out.2 (fun e => hpb (by injection e))
      have HXK := hid (HX.out _ (getD_mem xs k hk2))
      have HYK := hid (HY.out _ (getD_mem ys k (by rw [← HXY.out]; exact hk2)))
      have HSET : Hid (∀ z, z = clrF p t (xs.getD k 0) (ys.getD k 0) → (wr.setCell ⟨g, k, none⟩ (.int .i64 z)).ownsRow B 3 1 (.slice (some ⟨g, 0, none⟩) xs.length cap) xs.length (ints (mixL (zipI (clrF p t) xs ys) xs (k + 1)))) := by
        intro z hzz
        have h1 := (ho.stored k (.int .i64 z)).1
        rw [ints_set, hzz, ← hz, mixL_set _ _ _ HLZ.out hk2] at h1
        rw [hzz, ← hz]
        exact h1
      have HTP := hid (And.intro hct' hcp')
      clear ho hg hxk hz hcell2 hct' hcp'
      generalize xs.getD k 0 = x at hcell HXK HSET
      generalize ys.getD k 0 = y at hc2' HYK HSET
      go_wp2
      go_region_with (go_at_call 126; refine (clearFn_any p t _ _ _ _ _ HP.out.1 HP.out.2 HXK.out HYK.out (by exact HTP.out.1) (by exact HTP.out.2)).mono ?_; rintro e w' ⟨rfl, rfl⟩)
      all_goals
        go_wp2
        go_roundw
        case rel => exact ⟨k + 1, by omega, by go_num, HSET.out _ rfl, grown_drew (grown_trans HG.out (grown_set _ _ _ _))⟩
        case measure => simp [intOf]; omega
    · have e : k = xs.length := by omega
      subst e
      have hfin : mixL (zipI (clrF p t) xs ys) xs xs.length = zipI (clrF p t) xs ys := by
        unfold mixL; rw [List.take_of_length_le (by rw [HLZ.out]; omega)]; simp
      rw [hfin] at HO
      clear ho hg hfin
      go_wp2
      go_end0
      refine ⟨rfl, ?_, HG.out⟩
      have := HO.out
      unfold Own
      rw [HLZ.out]
      exact this

end Go.Proofs.Ytkmjmmnnnbjghaa

/- clearColumn; the first number that is not 0. -/
namespace Go.Proofs.Ytkmjmmnnnbjghaa
set_option linter.unusedSimpArgs false
set_option linter.unusedVariables false
open Go.RowKit

/-- A row, cleared by another that was kept. -/
def clr (p : Int) (row : List Int) (f : Nat × List Int) : List Int :=
  if row.getD f.1 0 = 0 then row else zipI (clrF p (p - row.getD f.1 0)) row f.2

theorem own_cell {w : World} {B g cap : Nat} {xs : List Int} (h : Own w B (.slice (some ⟨g, 0, none⟩) xs.length cap) xs) (k : Nat) (hk : k < xs.length) : w.cell? ⟨g, k, none⟩ = some (.int .i64 (xs.getD k 0)) := by
  have h1 := World.ownsRow.cellAt h k (by omega)
  rw [h1]
  simp [List.getD_eq_getElem?_getD, hk]
theorem own_lt {w : World} {B g cap : Nat} {xs : List Int} {n : Nat} (h : Own w B (.slice (some ⟨g, 0, none⟩) n cap) xs) : B ≤ g ∧ g < w.heap.size := World.ownsRow.lt h g rfl
theorem own_kept {w w' : World} {B g cap : Nat} {xs : List Int} {n : Nat} (h : Own w B (.slice (some ⟨g, 0, none⟩) n cap) xs) (hb : Below w.heap.size w w') : Own w' B (.slice (some ⟨g, 0, none⟩) n cap) xs :=
  World.ownsRow.kept h (below_grown (r := none) hb) (Or.inr (by simp [Value.ownBlock]))

theorem belowThree {w : World} {A B C : Obj} : Below w.heap.size w (((w.alloc A).alloc B).alloc C) := belowTwo.trans (belowNew.mono (by simp; omega))

set_option maxHeartbeats 1000000 in
theorem clearColumn_any (p : Int) (xs ys : List Int) (c B g cap b2 off2 cap2 : Nat) (w : World) (hp : 2 ≤ p ∧ p ≤ 101) (hm : xs.length ≤ 400) (hxy : xs.length = ys.length) (hcn : c < xs.length)
    (hx : ∀ x ∈ xs, 0 ≤ x ∧ x < p) (hy : ∀ x ∈ ys, 0 ≤ x ∧ x < p) (hown : Own w B (.slice (some ⟨g, 0, none⟩) xs.length cap) xs) (hlt2 : b2 < w.heap.size) (hne : b2 ≠ g) (hc2 : IntsAt w b2 off2 ys) :
    Calls Try.prog 105 #[.int .i64 p, .slice (some ⟨g, 0, none⟩) xs.length cap, .agg #[.int .i64 c, .slice (some ⟨b2, off2, none⟩) ys.length cap2]] w fun e w' =>
      e = .returned (.tuple #[]) ∧ Own w' B (.slice (some ⟨g, 0, none⟩) xs.length cap) (clr p xs (c, ys)) ∧ w.grownBy w' (some g) := by
  obtain ⟨hgB, hgw⟩ := own_lt hown
  have hcell := own_cell hown c hcn
  have hcx := hx _ (getD_mem xs c hcn)
  have HX := hid hx
  have HY := hid hy
  have HXY := hid hxy
  have HC2 := hid hc2
  have HOWN := hid hown
  have HCLR : Hid (clr p xs (c, ys) = if xs.getD c 0 = 0 then xs else zipI (clrF p (p - xs.getD c 0)) xs ys) := rfl
  clear hx hy hxy hc2 hown
  generalize xs.getD c 0 = x at hcell hcx HCLR
  have hcn' : (c : Int) < (xs.length : Int) := by omega
  obtain ⟨hp1, hp2⟩ := hp
  obtain ⟨hx1, hx2⟩ := hcx
  cases hz : (x == 0)
  · have hz' : ¬ x = 0 := by simpa using hz
    have e : clr p xs (c, ys) = zipI (clrF p (p - x)) xs ys := by rw [HCLR.out, if_neg hz']
    rw [e]
    clear e HCLR hz'
    go_enter Try.func105, Try.ntmps105
    go_wp2
    have h3 : ∀ A B C, (((w.alloc A).alloc B).alloc C).cell? ⟨g, c, none⟩ = some (.int .i64 x) := fun A B C => by
      rw [(belowThree (w := w) (A := A) (B := B) (C := C)).cell (p := ⟨g, c, none⟩) hgw]; exact hcell
    go_region
    all_goals
      go_wp2_with fail
      refine (fieldEach_any p (p - x) xs ys B g cap b2 off2 cap2 _ _ _ ⟨hp1, hp2⟩ ⟨by omega, by omega⟩ hm HXY.out HX.out HY.out ?_ ?_ hne ?_ ?_ ?_ ?_ ?_).mono ?_
      · exact own_kept HOWN.out (belowThree.drew)
      · simp; omega
      · intro i hi; show (((w.alloc _).alloc _).alloc _).cell? _ = _; rw [belowThree.cell (p := ⟨b2, off2 + i, none⟩) hlt2]; exact HC2.out i hi
      · omega
      · omega
      · simp [go_sem]
      · simp [go_sem]
      rintro e w1 ⟨rfl, ho, hg⟩
      have HO := hid ho
      have HG := hid (grown_trans (below_grown belowThree.drew) hg)
      clear ho hg
      go_wp2
      go_end0
      exact ⟨rfl, HO.out, HG.out⟩
  · have hz' : x = 0 := by simpa using hz
    have e : clr p xs (c, ys) = xs := by rw [HCLR.out, if_pos hz']
    rw [e]
    clear e HCLR hz'
    go_enter Try.func105, Try.ntmps105
    go_wp2
    exact bodyPost_ret (v := .tuple #[]) (by simp [results, Try.results105, go_sem]) rfl ⟨rfl, own_kept HOWN.out belowTwo, below_grown belowTwo⟩

end Go.Proofs.Ytkmjmmnnnbjghaa
