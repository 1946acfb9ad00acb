/- Terms, polynomials, lists of polynomials in memory. -/
import Derived.Test.YtilogbggilchaaaDoorPA
namespace Go.Proofs.YtilogbggilchaaaDoor
set_option linter.unusedSimpArgs false
set_option linter.unusedVariables false
open Go.RowKit
def noT : Tm := (0, [])
def TmsAt (w : World) (b off : Nat) (ts : List Tm) : Prop :=
  ∀ i, i < ts.length → w.cell? ⟨b, off + i * 2, none⟩ = some (.int .i64 (ts.getD i noT).1) ∧ ∃ v, w.cell? ⟨b, off + i * 2 + 1, none⟩ = some v ∧ Sl w v (ts.getD i noT).2
theorem TmsAt.below {w w' : World} {b off : Nat} {ts : List Tm} (h : TmsAt w b off ts) (hlt : b < w.heap.size) (hb : Below w.heap.size w w') : TmsAt w' b off ts := by
  intro i hi
  obtain ⟨h1, v, h2, h3⟩ := h i hi
  exact ⟨by rw [hb.cell (p := ⟨b, off + i * 2, none⟩) hlt]; exact h1, v, by rw [hb.cell (p := ⟨b, off + i * 2 + 1, none⟩) hlt]; exact h2, h3.below hb⟩
def Pl (w : World) (v : Value) (ts : List Tm) : Prop :=
  ∃ a cap, v = .slice a ts.length cap ∧ ts.length ≤ cap ∧ (0 < ts.length → ∃ b off, a = some ⟨b, off, none⟩ ∧ b < w.heap.size ∧ TmsAt w b off ts)
theorem Pl.below {w w' : World} {v : Value} {ts : List Tm} (h : Pl w v ts) (hb : Below w.heap.size w w') : Pl w' v ts := by
  obtain ⟨a, cap, rfl, hcap, h⟩ := h
  refine ⟨a, cap, rfl, hcap, fun hp => ?_⟩
  obtain ⟨b, off, rfl, hlt, hc⟩ := h hp
  exact ⟨b, off, rfl, Nat.lt_of_lt_of_le hlt hb.size, hc.below hlt hb⟩
theorem Pl.empty (w : World) : Pl w (.slice none 0 0) [] := ⟨none, 0, rfl, Nat.le_refl _, fun h => absurd h (by simp)⟩
def PlsAt (w : World) (b off : Nat) (fs : List (List Tm)) : Prop :=
  ∀ i, i < fs.length → ∃ v, w.cell? ⟨b, off + i, none⟩ = some v ∧ Pl w v (fs.getD i [])
theorem PlsAt.below {w w' : World} {b off : Nat} {fs : List (List Tm)} (h : PlsAt w b off fs) (hlt : b < w.heap.size) (hb : Below w.heap.size w w') : PlsAt w' b off fs := by
  intro i hi
  obtain ⟨v, hc, hs⟩ := h i hi
  exact ⟨v, by rw [hb.cell (p := ⟨b, off + i, none⟩) hlt]; exact hc, hs.below hb⟩
def Vl (w : World) (v : Value) (fs : List (List Tm)) : Prop :=
  ∃ a cap, v = .slice a fs.length cap ∧ (0 < fs.length → ∃ b off, a = some ⟨b, off, none⟩ ∧ b < w.heap.size ∧ PlsAt w b off fs)
theorem Vl.below {w w' : World} {v : Value} {fs : List (List Tm)} (h : Vl w v fs) (hb : Below w.heap.size w w') : Vl w' v fs := by
  obtain ⟨a, cap, rfl, h⟩ := h
  refine ⟨a, cap, rfl, fun hp => ?_⟩
  obtain ⟨b, off, rfl, hlt, hc⟩ := h hp
  exact ⟨b, off, rfl, Nat.lt_of_lt_of_le hlt hb.size, hc.below hlt hb⟩
end Go.Proofs.YtilogbggilchaaaDoor
namespace Go.Proofs.YtilogbggilchaaaDoor
set_option linter.unusedSimpArgs false
set_option linter.unusedVariables false
def Same (p : Int) (l m : List Tm) : Prop := ∀ φ, p ∣ lin φ l - lin φ m
theorem Same.refl (p : Int) (l : List Tm) : Same p l l := fun φ => ⟨0, by omega⟩
theorem Same.symm {p : Int} {l m : List Tm} (h : Same p l m) : Same p m l := fun φ => by
  obtain ⟨k, hk⟩ := h φ
  exact ⟨-k, by rw [Int.mul_neg, ← hk]; omega⟩
theorem Same.trans {p : Int} {l m k : List Tm} (h : Same p l m) (h2 : Same p m k) : Same p l k := fun φ => by
  obtain ⟨a, ha⟩ := h φ
  obtain ⟨b, hb⟩ := h2 φ
  exact ⟨a + b, by rw [Int.mul_add, ← ha, ← hb]; omega⟩
theorem Same.append {p : Int} {l m l2 m2 : List Tm} (h : Same p l m) (h2 : Same p l2 m2) : Same p (l ++ l2) (m ++ m2) := fun φ => by
  obtain ⟨a, ha⟩ := h φ
  obtain ⟨b, hb⟩ := h2 φ
  exact ⟨a + b, by rw [lin_append, lin_append, Int.mul_add, ← ha, ← hb]; omega⟩
theorem same_col (p o : Int) (l : List Tm) : Same p (colL p o l) l := fun φ => lin_col p o φ l
theorem lin_dvd {p : Int} {φ ψ : List Int → Int} : ∀ {f : List Tm}, (∀ t ∈ f, p ∣ φ t.2 - ψ t.2) → p ∣ lin φ f - lin ψ f
  | [], _ => ⟨0, by simp [lin]⟩
  | t :: f, h => by
    obtain ⟨a, ha⟩ := h t (by simp)
    obtain ⟨b, hb⟩ := lin_dvd (f := f) (fun u hu => h u (by simp [hu]))
    simp only [lin]
    exact ⟨t.1 * a + b, by grind⟩
theorem Same.prodR {p : Int} (f : List Tm) {g h : List Tm} (hs : Same p g h) : Same p (prodL p f g) (prodL p f h) := fun φ => by
  obtain ⟨a, ha⟩ := lin_prod p φ g f
  obtain ⟨b, hb⟩ := lin_prod p φ h f
  obtain ⟨c, hc⟩ := lin_dvd (p := p) (f := f) (φ := fun x => lin (fun b => φ (zipI (· + ·) x b)) g) (ψ := fun x => lin (fun b => φ (zipI (· + ·) x b)) h) (fun t _ => hs _)
  exact ⟨a + c - b, by grind⟩
theorem same_swap (p : Int) (f g : List Tm) : Same p (prodL p f g) (prodL p g f) := fun φ => by
  obtain ⟨a, ha⟩ := lin_prod p φ g f
  obtain ⟨b, hb⟩ := lin_prod p φ f g
  have e : lin (fun x => lin (fun y => φ (zipI (· + ·) x y)) g) f = lin (fun x => lin (fun y => φ (zipI (· + ·) x y)) f) g := by
    rw [lin_swap]
    refine lin_congr (fun t _ => lin_congr (fun u _ => ?_))
    rw [zip_comm]
  exact ⟨a - b, by rw [Int.mul_sub, ← ha, ← hb, e]; omega⟩
theorem Same.prodL {p : Int} {f g : List Tm} (h : List Tm) (hs : Same p f g) : Same p (prodL p f h) (prodL p g h) :=
  (same_swap p f h).trans ((Same.prodR h hs).trans (same_swap p h g))
theorem prodL_append (p : Int) (f g h : List Tm) : prodL p (f ++ g) h = prodL p f h ++ prodL p g h := by
  unfold Go.Proofs.YtilogbggilchaaaDoor.prodL
  rw [List.flatMap_append]

structure Okl (p : Int) (n : Nat) (l : List Tm) : Prop where
  len : Len n l
  coef : ∀ t ∈ l, 0 ≤ t.1 ∧ t.1 < p
theorem Canon.okl {p o : Int} {n : Nat} {ts : List Tm} (h : Canon p o n ts) : Okl p n ts := ⟨h.len, fun t ht => by have := h.coef t ht; omega⟩
theorem Okl.append {p : Int} {n : Nat} {l m : List Tm} (h : Okl p n l) (h2 : Okl p n m) : Okl p n (l ++ m) :=
  ⟨fun t ht => (List.mem_append.1 ht).elim (h.len t) (h2.len t), fun t ht => (List.mem_append.1 ht).elim (h.coef t) (h2.coef t)⟩
theorem Okl.prod {p : Int} {n : Nat} {l m : List Tm} (hp : 2 ≤ p) (h : Okl p n l) (h2 : Okl p n m) : Okl p n (prodL p l m) := by
  constructor
  · intro t ht
    simp only [Go.Proofs.YtilogbggilchaaaDoor.prodL, prodT, List.mem_flatMap, List.mem_map] at ht
    obtain ⟨a, ha, b, hb, rfl⟩ := ht
    simp only
    rw [zipI_len _ _ _ (by rw [h.len a ha, h2.len b hb]), h.len a ha]
  · intro t ht
    simp only [Go.Proofs.YtilogbggilchaaaDoor.prodL, prodT, List.mem_flatMap, List.mem_map] at ht
    obtain ⟨a, ha, b, hb, rfl⟩ := ht
    exact ⟨Int.emod_nonneg _ (by omega), Int.emod_lt_of_pos _ (by omega)⟩
theorem Okl.col {p o : Int} {n : Nat} {l : List Tm} (hp : 2 ≤ p) (h : Okl p n l) : Canon p o n (colL p o l) := col_canon hp h.len h.coef
theorem Same.col {p o : Int} {n : Nat} {l m : List Tm} (hp : 2 ≤ p) (hl : Okl p n l) (hm : Okl p n m) (h : Same p l m) : colL p o l = colL p o m :=
  col_of_canon hp hm.len hm.coef (hl.col hp) ((same_col p o l).trans h)
theorem Same.canon {p o : Int} {n : Nat} {l m : List Tm} (hp : 2 ≤ p) (hl : Canon p o n l) (hm : Canon p o n m) (h : Same p l m) : l = m :=
  canon_uniq hp l m hl hm (fun e => h (delta e))

theorem mul_swap {p o : Int} {n : Nat} {f g : List Tm} (hp : 2 ≤ p) (hf : Okl p n f) (hg : Okl p n g) : colL p o (prodL p f g) = colL p o (prodL p g f) :=
  Same.col hp (hf.prod hp hg) (hg.prod hp hf) (same_swap p f g)
theorem mul_add {p o : Int} {n : Nat} {f g h : List Tm} (hp : 2 ≤ p) (hf : Okl p n f) (hg : Okl p n g) (hh : Okl p n h) :
    colL p o (colL p o (prodL p f h) ++ colL p o (prodL p g h)) = colL p o (prodL p (colL p o (f ++ g)) h) := by
  refine Same.col hp (((hf.prod hp hh).col hp (o := o)).okl.append ((hg.prod hp hh).col hp (o := o)).okl) (((hf.append hg).col hp (o := o)).okl.prod hp hh) ?_
  refine ((same_col p o _).append (same_col p o _)).trans ?_
  rw [← prodL_append]
  exact Same.prodL h (same_col p o _).symm

def mval : List Int → List Int → Int
  | x :: xs, e :: es => x ^ e.toNat * mval xs es
  | _, _ => 1
end Go.Proofs.YtilogbggilchaaaDoor
