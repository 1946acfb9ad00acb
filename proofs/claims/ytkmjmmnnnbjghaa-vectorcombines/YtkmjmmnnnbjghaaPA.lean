/- Plain mathematics of polynomials: terms put where they belong; what is told by a polynomial tells it. -/
import Derived.Test.YtkmjmmnnnbjghaaI
import Derived.Test.YtkmjmmnnnbjghaaA
import Derived.ProofKit
import Derived.OpenShut
import Derived.ShutString
import Derived.ChangeOld
import Derived.Deep.Matrix
namespace Go.Proofs.Ytkmjmmnnnbjghaa
set_option linter.unusedSimpArgs false
set_option linter.unusedVariables false

abbrev Tm := Int × List Int
/-- A term put where it belongs. -/
def ins (p o : Int) : List Tm → Tm → List Tm
  | [], t => [t]
  | u :: out, t => if 0 < ordS o u.2 t.2 then u :: ins p o out t else if u.2 = t.2 then ((u.1 + t.1) % p, u.2) :: out else t :: u :: out
def colL (p o : Int) (l : List Tm) : List Tm := (l.foldl (ins p o) []).filter fun t => t.1 % p != 0

/-- What a list of terms gives, with a weight of each monomial. -/
def lin (φ : List Int → Int) : List Tm → Int
  | [] => 0
  | t :: ts => t.1 * φ t.2 + lin φ ts
theorem lin_append (φ : List Int → Int) : ∀ ts us : List Tm, lin φ (ts ++ us) = lin φ ts + lin φ us
  | [], us => by simp [lin]
  | t :: ts, us => by simp only [List.cons_append, lin]; rw [lin_append φ ts us]; omega
theorem modDvd (p x : Int) : p ∣ x % p - x := ⟨-(x / p), by rw [Int.emod_def]; grind⟩
theorem lin_ins (p o : Int) (φ : List Int → Int) (t : Tm) : ∀ out : List Tm, p ∣ lin φ (ins p o out t) - (lin φ out + t.1 * φ t.2)
  | [] => by simp [ins, lin]
  | u :: out => by
    simp only [ins]
    split
    · simp only [lin]
      have := lin_ins p o φ t out
      have e : u.1 * φ u.2 + lin φ (ins p o out t) - (u.1 * φ u.2 + lin φ out + t.1 * φ t.2) = lin φ (ins p o out t) - (lin φ out + t.1 * φ t.2) := by omega
      rw [e]; exact this
    · split
      · rename_i _ h
        simp only [lin]
        obtain ⟨k, hk⟩ := modDvd p (u.1 + t.1)
        rw [← h]
        exact ⟨k * φ u.2, by grind⟩
      · simp only [lin]
        exact ⟨0, by omega⟩
theorem lin_fold (p o : Int) (φ : List Int → Int) : ∀ (l out : List Tm), p ∣ lin φ (l.foldl (ins p o) out) - (lin φ out + lin φ l)
  | [], out => by simp [lin]
  | t :: l, out => by
    simp only [List.foldl_cons, lin]
    have h1 := lin_fold p o φ l (ins p o out t)
    have h2 := lin_ins p o φ t out
    have h3 := Int.dvd_add h1 h2
    have e : lin φ (l.foldl (ins p o) (ins p o out t)) - (lin φ (ins p o out t) + lin φ l) + (lin φ (ins p o out t) - (lin φ out + t.1 * φ t.2)) = lin φ (l.foldl (ins p o) (ins p o out t)) - (lin φ out + (t.1 * φ t.2 + lin φ l)) := by omega
    rw [e] at h3; exact h3
theorem lin_filter (p : Int) (φ : List Int → Int) : ∀ ts : List Tm, p ∣ lin φ (ts.filter fun t => t.1 % p != 0) - lin φ ts
  | [] => by simp [lin]
  | t :: ts => by
    have h := lin_filter p φ ts
    by_cases ht : t.1 % p = 0
    · have e : (t :: ts).filter (fun t => t.1 % p != 0) = ts.filter fun t => t.1 % p != 0 := by simp [List.filter_cons, ht]
      rw [e]
      simp only [lin]
      obtain ⟨k, hk⟩ := h
      obtain ⟨m, hm⟩ := Int.dvd_of_emod_eq_zero ht
      exact ⟨k - m * φ t.2, by grind⟩
    · have e : (t :: ts).filter (fun t => t.1 % p != 0) = t :: ts.filter fun t => t.1 % p != 0 := by simp [List.filter_cons, ht]
      rw [e]
      simp only [lin]
      have e2 : t.1 * φ t.2 + lin φ (ts.filter fun t => t.1 % p != 0) - (t.1 * φ t.2 + lin φ ts) = lin φ (ts.filter fun t => t.1 % p != 0) - lin φ ts := by omega
      rw [e2]; exact h
/-- Collecting changes nothing that is told, modulo p. -/
theorem lin_col (p o : Int) (φ : List Int → Int) (l : List Tm) : p ∣ lin φ (colL p o l) - lin φ l := by
  unfold colL
  have h1 := lin_filter p φ (l.foldl (ins p o) [])
  have h2 := lin_fold p o φ l []
  have h3 := Int.dvd_add h1 h2
  simp only [lin, Int.zero_add] at h3
  have e : ∀ a b c : Int, a - b + (b - c) = a - c := fun a b c => by omega
  rw [e] at h3; exact h3

/-- The greatest one first. -/
def Falls (o : Int) : List Tm → Prop
  | [] => True
  | t :: ts => (∀ u ∈ ts, 0 < ordS o t.2 u.2) ∧ Falls o ts
def Len (n : Nat) (ts : List Tm) : Prop := ∀ t ∈ ts, t.2.length = n
theorem ins_mem {p o : Int} {t : Tm} : ∀ {out : List Tm} {x : Tm}, x ∈ ins p o out t → x.2 = t.2 ∨ ∃ u ∈ out, x.2 = u.2
  | [], x, h => by simp [ins] at h; exact Or.inl (by rw [h])
  | u :: out, x, h => by
    simp only [ins] at h
    split at h
    · simp only [List.mem_cons] at h
      rcases h with rfl | h
      · exact Or.inr ⟨x, by simp, rfl⟩
      · rcases ins_mem h with h | ⟨y, hy, h⟩
        · exact Or.inl h
        · exact Or.inr ⟨y, by simp [hy], h⟩
    · split at h
      · simp only [List.mem_cons] at h
        rcases h with rfl | h
        · exact Or.inr ⟨u, by simp, rfl⟩
        · exact Or.inr ⟨x, by simp [h], rfl⟩
      · simp only [List.mem_cons] at h
        rcases h with rfl | rfl | h
        · exact Or.inl rfl
        · exact Or.inr ⟨x, by simp, rfl⟩
        · exact Or.inr ⟨x, by simp [h], rfl⟩
theorem ins_len {p o : Int} {n : Nat} {t : Tm} {out : List Tm} (h : Len n out) (ht : t.2.length = n) : Len n (ins p o out t) := by
  intro x hx
  rcases ins_mem hx with h1 | ⟨u, hu, h1⟩
  · rw [h1]; exact ht
  · rw [h1]; exact h u hu
theorem ins_falls {p o : Int} {n : Nat} {t : Tm} (ht : t.2.length = n) : ∀ {out : List Tm}, Len n out → Falls o out → Falls o (ins p o out t)
  | [], _, _ => ⟨by simp, trivial⟩
  | u :: out, hl, ⟨h1, h2⟩ => by
    have hu : u.2.length = n := hl u (by simp)
    have hlo : Len n out := fun x hx => hl x (by simp [hx])
    simp only [ins]
    by_cases hm : 0 < ordS o u.2 t.2
    · rw [if_pos hm]
      refine ⟨fun x hx => ?_, ins_falls ht hlo h2⟩
      rcases ins_mem hx with h | ⟨y, hy, h⟩
      · rw [h]; exact hm
      · rw [h]; exact h1 y hy
    · rw [if_neg hm]
      by_cases he : u.2 = t.2
      · rw [if_pos he]; exact ⟨h1, h2⟩
      · rw [if_neg he]
        have hz := ordS_zero o u.2 t.2 (by omega)
        have hneg := ordS_neg o u.2 t.2
        have htu : 0 < ordS o t.2 u.2 := by
          have : ordS o u.2 t.2 ≠ 0 := fun e => he (hz.1 e)
          omega
        refine ⟨fun x hx => ?_, h1, h2⟩
        simp only [List.mem_cons] at hx
        rcases hx with rfl | hx
        · exact htu
        · exact ordS_trans o t.2 u.2 x.2 (by omega) (by rw [hlo x hx]; exact hu) htu (h1 x hx)
theorem fold_falls {p o : Int} {n : Nat} : ∀ (l out : List Tm), Len n l → Len n out → Falls o out → Len n (l.foldl (ins p o) out) ∧ Falls o (l.foldl (ins p o) out)
  | [], out, _, ho, hf => ⟨ho, hf⟩
  | t :: l, out, hl, ho, hf => fold_falls l (ins p o out t) (fun x hx => hl x (by simp [hx])) (ins_len ho (hl t (by simp))) (ins_falls (hl t (by simp)) ho hf)
theorem falls_filter {o : Int} (f : Tm → Bool) : ∀ {ts : List Tm}, Falls o ts → Falls o (ts.filter f)
  | [], _ => trivial
  | t :: ts, ⟨h1, h2⟩ => by
    simp only [List.filter_cons]
    split
    · exact ⟨fun u hu => h1 u (List.mem_filter.1 hu).1, falls_filter f h2⟩
    · exact falls_filter f h2
theorem ins_range {p o : Int} (hp : 2 ≤ p) {t : Tm} (ht : 0 ≤ t.1 ∧ t.1 < p) : ∀ {out : List Tm}, (∀ u ∈ out, 0 ≤ u.1 ∧ u.1 < p) → ∀ x ∈ ins p o out t, 0 ≤ x.1 ∧ x.1 < p
  | [], _, x, hx => by simp [ins] at hx; rw [hx]; exact ht
  | u :: out, h, x, hx => by
    simp only [ins] at hx
    split at hx
    · simp only [List.mem_cons] at hx
      rcases hx with rfl | hx
      · exact h x (by simp)
      · exact ins_range hp ht (fun y hy => h y (by simp [hy])) x hx
    · split at hx
      · simp only [List.mem_cons] at hx
        rcases hx with rfl | hx
        · exact ⟨Int.emod_nonneg _ (by omega), Int.emod_lt_of_pos _ (by omega)⟩
        · exact h x (by simp [hx])
      · simp only [List.mem_cons] at hx
        rcases hx with rfl | rfl | hx
        · exact ht
        · exact h x (by simp)
        · exact h x (by simp [hx])
theorem fold_range {p o : Int} (hp : 2 ≤ p) : ∀ (l out : List Tm), (∀ u ∈ l, 0 ≤ u.1 ∧ u.1 < p) → (∀ u ∈ out, 0 ≤ u.1 ∧ u.1 < p) → ∀ x ∈ l.foldl (ins p o) out, 0 ≤ x.1 ∧ x.1 < p
  | [], out, _, ho => ho
  | t :: l, out, hl, ho => fold_range hp l (ins p o out t) (fun x hx => hl x (by simp [hx])) (ins_range hp (hl t (by simp)) ho)

/-- A polynomial of n variables modulo p: its terms fall, none is nothing. -/
structure Canon (p o : Int) (n : Nat) (ts : List Tm) : Prop where
  len : Len n ts
  falls : Falls o ts
  coef : ∀ t ∈ ts, 1 ≤ t.1 ∧ t.1 < p
theorem col_canon {p o : Int} {n : Nat} (hp : 2 ≤ p) {l : List Tm} (hl : Len n l) (hc : ∀ t ∈ l, 0 ≤ t.1 ∧ t.1 < p) : Canon p o n (colL p o l) := by
  have h := fold_falls (p := p) (o := o) (n := n) l [] hl (fun x hx => by simp at hx) trivial
  have hr := fold_range (o := o) hp l [] hc (fun x hx => by simp at hx)
  refine ⟨fun t ht => h.1 t (List.mem_filter.1 ht).1, falls_filter _ h.2, fun t ht => ?_⟩
  unfold colL at ht
  rw [List.mem_filter] at ht
  have h1 := hr t ht.1
  have h2 : t.1 % p ≠ 0 := by simpa using ht.2
  have h3 : t.1 ≠ 0 := fun e => h2 (by rw [e]; simp)
  omega

def delta (e : List Int) : List Int → Int := fun x => if x = e then 1 else 0
theorem lin_delta_none {e : List Int} : ∀ {ts : List Tm}, (∀ t ∈ ts, t.2 ≠ e) → lin (delta e) ts = 0
  | [], _ => rfl
  | t :: ts, h => by
    simp only [lin]
    rw [lin_delta_none (fun u hu => h u (by simp [hu]))]
    unfold delta
    rw [if_neg (h t (by simp))]; simp
theorem falls_ne {o : Int} {n : Nat} {t : Tm} {ts : List Tm} (hl : Len n (t :: ts)) (hf : Falls o (t :: ts)) : ∀ u ∈ ts, u.2 ≠ t.2 := by
  intro u hu e
  have h1 := hf.1 u hu
  have := (ordS_zero o t.2 u.2 (by rw [hl t (by simp), hl u (by simp [hu])])).2 e.symm
  omega
theorem lin_delta_head {o : Int} {n : Nat} {t : Tm} {ts : List Tm} (hl : Len n (t :: ts)) (hf : Falls o (t :: ts)) : lin (delta t.2) (t :: ts) = t.1 := by
  show t.1 * delta t.2 t.2 + lin (delta t.2) ts = t.1
  rw [lin_delta_none (falls_ne hl hf)]
  unfold delta; rw [if_pos rfl]; omega
theorem dvd_neg {p a : Int} (h : p ∣ 0 - a) : p ∣ a := by
  obtain ⟨k, hk⟩ := h
  exact ⟨-k, by rw [Int.mul_neg, ← hk]; omega⟩
theorem dvd_sub0 {p a : Int} (h : p ∣ a - 0) : p ∣ a := by rwa [Int.sub_zero] at h
/-- What all monomials are told tells the polynomial. -/
theorem canon_uniq {p o : Int} {n : Nat} (hp : 2 ≤ p) : ∀ (ts us : List Tm), Canon p o n ts → Canon p o n us → (∀ e, p ∣ lin (delta e) ts - lin (delta e) us) → ts = us
  | [], [], _, _, _ => rfl
  | [], u :: us, _, hu, h => by
    have h1 := h u.2
    rw [lin_delta_head hu.len hu.falls] at h1
    have h2 := hu.coef u (by simp)
    have := Int.le_of_dvd (by omega) (dvd_neg h1)
    omega
  | t :: ts, [], ht, _, h => by
    have h1 := h t.2
    rw [lin_delta_head ht.len ht.falls] at h1
    have h2 := ht.coef t (by simp)
    have := Int.le_of_dvd (by omega) (dvd_sub0 h1)
    omega
  | t :: ts, u :: us, ht, hu, h => by
    have tc := ht.coef t (by simp)
    have uc := hu.coef u (by simp)
    have tl := ht.len t (by simp)
    have ul := hu.len u (by simp)
    have hts : Canon p o n ts := ⟨fun x hx => ht.len x (by simp [hx]), ht.falls.2, fun x hx => ht.coef x (by simp [hx])⟩
    have hus : Canon p o n us := ⟨fun x hx => hu.len x (by simp [hx]), hu.falls.2, fun x hx => hu.coef x (by simp [hx])⟩
    -- the first ones are of one monomial
    have hsame : t.2 = u.2 := by
      apply Classical.byContradiction
      intro hne
      have hz := ordS_zero o t.2 u.2 (by omega)
      have hg := ordS_neg o t.2 u.2
      have hnz : ordS o t.2 u.2 ≠ 0 := fun e => hne (hz.1 e)
      by_cases hlt : 0 < ordS o t.2 u.2
      · have h1 := h t.2
        have hn : ∀ x ∈ u :: us, x.2 ≠ t.2 := by
          intro x hx e
          simp only [List.mem_cons] at hx
          rcases hx with rfl | hx
          · exact hne e.symm
          · have h2 := hu.falls.1 x hx
            have h3 := ordS_trans o t.2 u.2 x.2 (by omega) (by rw [ul, hu.len x (by simp [hx])]) hlt h2
            have h4 := (ordS_zero o t.2 x.2 (by rw [tl, hu.len x (by simp [hx])])).2 e.symm
            omega
        rw [lin_delta_none hn, lin_delta_head ht.len ht.falls] at h1
        have := Int.le_of_dvd (by omega) (dvd_sub0 h1)
        omega
      · have hlt2 : 0 < ordS o u.2 t.2 := by omega
        have h1 := h u.2
        have hn : ∀ x ∈ t :: ts, x.2 ≠ u.2 := by
          intro x hx e
          simp only [List.mem_cons] at hx
          rcases hx with rfl | hx
          · exact hne e
          · have h2 := ht.falls.1 x hx
            have h3 := ordS_trans o u.2 t.2 x.2 (by omega) (by rw [tl, ht.len x (by simp [hx])]) hlt2 h2
            have h4 := (ordS_zero o u.2 x.2 (by rw [ul, ht.len x (by simp [hx])])).2 e.symm
            omega
        rw [lin_delta_none hn, lin_delta_head hu.len hu.falls] at h1
        have := Int.le_of_dvd (by omega) (dvd_neg h1)
        omega
    have hcoef : t.1 = u.1 := by
      have h2 := h t.2
      rw [lin_delta_head ht.len ht.falls, hsame, lin_delta_head hu.len hu.falls] at h2
      by_cases hd : t.1 - u.1 = 0
      · omega
      · by_cases hd2 : 0 < t.1 - u.1
        · have := Int.le_of_dvd hd2 h2; omega
        · have h3 : p ∣ u.1 - t.1 := by
            obtain ⟨k, hk⟩ := h2
            exact ⟨-k, by rw [Int.mul_neg, ← hk]; omega⟩
          have := Int.le_of_dvd (by omega) h3; omega
    have htu : t = u := Prod.ext hcoef hsame
    subst htu
    congr 1
    refine canon_uniq hp ts us hts hus (fun e => ?_)
    have h1 := h e
    simp only [lin] at h1
    have e2 : t.1 * delta e t.2 + lin (delta e) ts - (t.1 * delta e t.2 + lin (delta e) us) = lin (delta e) ts - lin (delta e) us := by omega
    rwa [e2] at h1
/-- What collects to the same is the same. -/
theorem col_of_canon {p o : Int} {n : Nat} (hp : 2 ≤ p) {l ts : List Tm} (hl : Len n l) (hc : ∀ t ∈ l, 0 ≤ t.1 ∧ t.1 < p) (ht : Canon p o n ts) (h : ∀ φ, p ∣ lin φ ts - lin φ l) : ts = colL p o l := by
  refine canon_uniq hp ts (colL p o l) ht (col_canon hp hl hc) (fun e => ?_)
  obtain ⟨a, ha⟩ := h (delta e)
  obtain ⟨b, hb⟩ := lin_col p o (delta e) l
  exact ⟨a - b, by rw [Int.mul_sub, ← ha, ← hb]; omega⟩

/-- All products of a term and a term. -/
def prodT (p : Int) (t : Tm) (g : List Tm) : List Tm := g.map fun u => (t.1 * u.1 % p, zipI (· + ·) t.2 u.2)
def prodL (p : Int) (f g : List Tm) : List Tm := f.flatMap fun t => prodT p t g
theorem lin_prodT (p : Int) (φ : List Int → Int) (t : Tm) : ∀ g : List Tm, p ∣ lin φ (prodT p t g) - t.1 * lin (fun b => φ (zipI (· + ·) t.2 b)) g
  | [] => by simp [prodT, lin]
  | u :: g => by
    have h := lin_prodT p φ t g
    have e : prodT p t (u :: g) = (t.1 * u.1 % p, zipI (· + ·) t.2 u.2) :: prodT p t g := rfl
    rw [e]
    simp only [lin]
    obtain ⟨k, hk⟩ := h
    obtain ⟨m, hm⟩ := modDvd p (t.1 * u.1)
    exact ⟨k + m * φ (zipI (· + ·) t.2 u.2), by grind⟩
theorem lin_prod (p : Int) (φ : List Int → Int) (g : List Tm) : ∀ f : List Tm, p ∣ lin φ (prodL p f g) - lin (fun a => lin (fun b => φ (zipI (· + ·) a b)) g) f
  | [] => by simp [prodL, lin]
  | t :: f => by
    have h := lin_prod p φ g f
    have e : prodL p (t :: f) g = prodT p t g ++ prodL p f g := rfl
    rw [e, lin_append]
    simp only [lin]
    have h2 := lin_prodT p φ t g
    have h3 := Int.dvd_add h2 h
    have e2 : ∀ a b c d : Int, a - b + (c - d) = a + c - (b + d) := fun a b c d => by omega
    rw [e2] at h3; exact h3
theorem lin_zero (f : List Tm) : lin (fun _ => 0) f = 0 := by
  induction f with
  | nil => rfl
  | cons t f ih => simp only [lin]; rw [ih]; simp
theorem lin_add (φ ψ : List Int → Int) (f : List Tm) : lin (fun a => φ a + ψ a) f = lin φ f + lin ψ f := by
  induction f with
  | nil => rfl
  | cons t f ih => simp only [lin]; rw [ih]; grind
theorem lin_smul (c : Int) (φ : List Int → Int) (f : List Tm) : lin (fun a => c * φ a) f = c * lin φ f := by
  induction f with
  | nil => simp [lin]
  | cons t f ih => simp only [lin]; rw [ih]; grind
theorem lin_swap (F : List Int → List Int → Int) (f g : List Tm) : lin (fun a => lin (fun b => F a b) g) f = lin (fun b => lin (fun a => F a b) f) g := by
  induction g with
  | nil => simp only [lin]; exact lin_zero f
  | cons u g ih =>
    simp only [lin]
    rw [lin_add, ih, lin_smul]
theorem zip_comm : ∀ a b : List Int, zipI (· + ·) a b = zipI (· + ·) b a
  | [], [] => rfl
  | [], _ :: _ => rfl
  | _ :: _, [] => rfl
  | x :: a, y :: b => by simp only [zipI]; rw [zip_comm a b, Int.add_comm]
theorem lin_congr {φ ψ : List Int → Int} {f : List Tm} (h : ∀ t ∈ f, φ t.2 = ψ t.2) : lin φ f = lin ψ f := by
  induction f with
  | nil => rfl
  | cons t f ih => simp only [lin]; rw [h t (by simp), ih (fun u hu => h u (by simp [hu]))]

end Go.Proofs.Ytkmjmmnnnbjghaa

/- Terms, polynomials, lists of polynomials in memory. -/
namespace Go.Proofs.Ytkmjmmnnnbjghaa
set_option linter.unusedSimpArgs false
set_option linter.unusedVariables false
open Go.RowKit

def noT : Tm := (0, [])
/-- These terms lie at this place. -/
def TmsAt (w : World) (b off : Nat) (ts : List Tm) : Prop :=
  ∀ i, i < ts.length → w.cell? ⟨b, off + i * 2, none⟩ = some (.int .i64 (ts.getD i noT).1) ∧ ∃ v, w.cell? ⟨b, off + i * 2 + 1, none⟩ = some v ∧ Sl w v (ts.getD i noT).2
theorem TmsAt.below {w w' : World} {b off : Nat} {ts : List Tm} (h : TmsAt w b off ts) (hlt : b < w.heap.size) (hb : Below w.heap.size w w') : TmsAt w' b off ts := by
  intro i hi
  obtain ⟨h1, v, h2, h3⟩ := h i hi
  exact ⟨by rw [hb.cell (p := ⟨b, off + i * 2, none⟩) hlt]; exact h1, v, by rw [hb.cell (p := ⟨b, off + i * 2 + 1, none⟩) hlt]; exact h2, h3.below hb⟩
/-- A polynomial. -/
def Pl (w : World) (v : Value) (ts : List Tm) : Prop :=
  ∃ a cap, v = .slice a ts.length cap ∧ ts.length ≤ cap ∧ (0 < ts.length → ∃ b off, a = some ⟨b, off, none⟩ ∧ b < w.heap.size ∧ TmsAt w b off ts)
theorem Pl.below {w w' : World} {v : Value} {ts : List Tm} (h : Pl w v ts) (hb : Below w.heap.size w w') : Pl w' v ts := by
  obtain ⟨a, cap, rfl, hcap, h⟩ := h
  refine ⟨a, cap, rfl, hcap, fun hp => ?_⟩
  obtain ⟨b, off, rfl, hlt, hc⟩ := h hp
  exact ⟨b, off, rfl, Nat.lt_of_lt_of_le hlt hb.size, hc.below hlt hb⟩
theorem Pl.empty (w : World) : Pl w (.slice none 0 0) [] := ⟨none, 0, rfl, Nat.le_refl _, fun h => absurd h (by simp)⟩
/-- A list of polynomials. -/
def PlsAt (w : World) (b off : Nat) (fs : List (List Tm)) : Prop :=
  ∀ i, i < fs.length → ∃ v, w.cell? ⟨b, off + i, none⟩ = some v ∧ Pl w v (fs.getD i [])
theorem PlsAt.below {w w' : World} {b off : Nat} {fs : List (List Tm)} (h : PlsAt w b off fs) (hlt : b < w.heap.size) (hb : Below w.heap.size w w') : PlsAt w' b off fs := by
  intro i hi
  obtain ⟨v, hc, hs⟩ := h i hi
  exact ⟨v, by rw [hb.cell (p := ⟨b, off + i, none⟩) hlt]; exact hc, hs.below hb⟩
def Vl (w : World) (v : Value) (fs : List (List Tm)) : Prop :=
  ∃ a cap, v = .slice a fs.length cap ∧ (0 < fs.length → ∃ b off, a = some ⟨b, off, none⟩ ∧ b < w.heap.size ∧ PlsAt w b off fs)
theorem Vl.below {w w' : World} {v : Value} {fs : List (List Tm)} (h : Vl w v fs) (hb : Below w.heap.size w w') : Vl w' v fs := by
  obtain ⟨a, cap, rfl, h⟩ := h
  refine ⟨a, cap, rfl, fun hp => ?_⟩
  obtain ⟨b, off, rfl, hlt, hc⟩ := h hp
  exact ⟨b, off, rfl, Nat.lt_of_lt_of_le hlt hb.size, hc.below hlt hb⟩

end Go.Proofs.Ytkmjmmnnnbjghaa

/- Numbers modulo a prime: the closures; looking through numbers. -/
namespace Go.Proofs.Ytkmjmmnnnbjghaa
set_option linter.unusedSimpArgs false
set_option linter.unusedVariables false
open Go.RowKit

def outP (p x : Int) : Bool := decide (x < 0 ∨ p ≤ x)

set_option maxHeartbeats 400000 in
theorem addFn_any (a b : Int) (w : World) (h : 0 ≤ a ∧ a ≤ 200 ∧ 0 ≤ b ∧ b ≤ 200) :
    Calls Try.prog 55 #[.int .i64 a, .int .i64 b] w fun e w' => e = .returned (.int .i64 (a + b)) ∧ w' = w := by
  obtain ⟨_, _, _, _⟩ := h
  go_enter Try.func55, Try.ntmps55
  go_wp2
  go_ret
  exact ⟨rfl, rfl⟩

theorem mul_bd {a b : Int} (h : 0 ≤ a ∧ a ≤ 200 ∧ 0 ≤ b ∧ b ≤ 200) : 0 ≤ a * b ∧ a * b ≤ 40000 := by
  obtain ⟨h1, h2, h3, h4⟩ := h
  refine ⟨Int.mul_nonneg h1 h3, ?_⟩
  have : a * b ≤ 200 * 200 := Int.mul_le_mul h2 h4 h3 (by omega)
  omega

set_option maxHeartbeats 400000 in
theorem mulFn_any (a b : Int) (w : World) (h : 0 ≤ a ∧ a ≤ 200 ∧ 0 ≤ b ∧ b ≤ 200) :
    Calls Try.prog 56 #[.int .i64 a, .int .i64 b] w fun e w' => e = .returned (.int .i64 (a * b)) ∧ w' = w := by
  obtain ⟨h1, h2⟩ := mul_bd h
  clear h
  go_enter Try.func56, Try.ntmps56
  go_wp2
  go_ret
  exact ⟨rfl, rfl⟩

set_option maxHeartbeats 400000 in
theorem outFn_any (p x : Int) (b : Nat) (w : World) (hb : w.cell? ⟨b, 0, none⟩ = some (.int .i64 p)) :
    Calls Try.prog 123 #[.int .i64 x, .pointer (some ⟨b, 0, none⟩)] w fun e w' => e = .returned (.bool (outP p x)) ∧ w' = w := by
  unfold outP
  by_cases h : x < 0
  · go_enter Try.func123, Try.ntmps123
    go_wp2
    go_ret
    exact ⟨by simp [h], rfl⟩
  · go_enter Try.func123, Try.ntmps123
    go_wp2
    go_ret
    exact ⟨by simp; omega, rfl⟩

set_option maxHeartbeats 400000 in
theorem indexOut_any (p : Int) (xs : List Int) (b off cap pb : Nat) (w : World) (hm : xs.length ≤ 400) (hc : IntsAt w b off xs) (hp : w.cell? ⟨pb, 0, none⟩ = some (.int .i64 p)) :
    Calls Try.prog 106 #[.slice (some ⟨b, off, none⟩) xs.length cap, .func (.func 123) #[] #[.pointer (some ⟨pb, 0, none⟩)]] w fun e w' =>
      ∃ r : Int, e = .returned (.int .i64 r) ∧ decide (0 ≤ r) = xs.any (outP p) ∧ w' = w := by
  have HC := hid hc
  have HP := hid hp
  clear hc hp
  go_enter Try.func106, Try.ntmps106
  go_wp2
  go_loop [8] (fun i => ∃ k : Nat, k ≤ xs.length ∧ i = .int .i64 k ∧ (xs.take k).any (outP p) = false) (fun i => xs.length - (intOf i).toNat)
  case atStart => exact ⟨0, Nat.zero_le _, rfl, by simp⟩
  case round =>
    obtain ⟨k, hk, rfl, hn⟩ := hrel
    have HN := hid hn
    clear hn
    by_cases hlt : k < xs.length
    · have hcell := HC.out k hlt
      have H1 := hid (any_take (outP p) xs k hlt HN.out)
      have H2 := hid (any_at (outP p) xs k hlt)
      generalize xs.getD k 0 = y at hcell H1 H2
      cases hy : outP p y
      · go_wp2_with (go_at_call 123; refine (outFn_any p _ _ _ HP.out).mono ?_; rintro e w' ⟨rfl, rfl⟩)
        go_round
        case rel => exact ⟨k + 1, by omega, by go_num, H1.out hy⟩
        case measure => simp [intOf]; omega
      · go_wp2_with (go_at_call 123; refine (outFn_any p _ _ _ HP.out).mono ?_; rintro e w' ⟨rfl, rfl⟩)
        go_ret
        exact ⟨(k : Int), rfl, by rw [H2.out hy]; simp, rfl⟩
    · go_wp2
      go_ret
      exact ⟨-1, rfl, by have := HN.out; rw [List.take_of_length_le (by omega)] at this; rw [this]; simp, rfl⟩

set_option maxHeartbeats 400000 in
/-- .. of a slice without numbers, too. -/
theorem indexNil_any (f : Value) (a : Option Addr) (cap : Nat) (w : World) :
    Calls Try.prog 106 #[.slice a 0 cap, f] w fun e w' => e = .returned (.int .i64 (-1)) ∧ w' = w := by
  go_enter Try.func106, Try.ntmps106
  go_wp2
  go_loop [8] (fun i => i = .int .i64 0) (fun _ => 0)
  case atStart => rfl
  case round =>
    subst hrel
    go_wp2
    go_ret
    exact ⟨rfl, rfl⟩

set_option maxHeartbeats 400000 in
theorem anyOutside_any (p : Int) (v : Value) (xs : List Int) (w : World) (hm : xs.length ≤ 400) (hs : Sl w v xs) :
    Calls Try.prog 100 #[.int .i64 p, v] w fun e w' => e = .returned (.bool (xs.any (outP p))) ∧ Below w.heap.size w w' := by
  have below_one : ∀ {w : World} {A : Obj}, Below w.heap.size w (w.alloc A) := fun {w A} => (Below.refl _ _).alloc (Nat.le_refl _) _
  obtain ⟨a, cap, rfl, h1⟩ := hs
  have hcon : ∀ (W : World) (pb : Nat), W.cell? ⟨pb, 0, none⟩ = some (.int .i64 p) → Below w.heap.size w W → Calls Try.prog 96 #[.slice a xs.length cap, .func (.func 123) #[] #[.pointer (some ⟨pb, 0, none⟩)]] W fun e w' => e = .returned (.bool (xs.any (outP p))) ∧ w' = W := by
    intro W pb hW hb
    by_cases h0 : 0 < xs.length
    · obtain ⟨b, off, rfl, hlt, hc⟩ := h1 h0
      have HC : Hid (IntsAt W b off xs) := fun i hi => by rw [hb.cell (p := ⟨b, off + i, none⟩) hlt]; exact hc i hi
      have HW := hid hW
      clear hc h1 hb hW
      go_enter Try.func96, Try.ntmps96
      go_wp2_with (go_at_call 106; refine (indexOut_any p xs _ _ _ _ _ hm HC.out HW.out).mono ?_; rintro e w' ⟨r, rfl, hr, rfl⟩)
      go_ret
      exact ⟨by rw [← hr]; rfl, rfl⟩
    · have e : xs = [] := List.length_eq_zero_iff.1 (by omega)
      subst e
      clear h1 hb hW h0 hm
      go_enter Try.func96, Try.ntmps96
      go_wp2_with (go_at_call 106; refine (indexNil_any _ _ _ _).mono ?_; rintro e w' ⟨rfl, rfl⟩)
      go_ret
      exact ⟨rfl, rfl⟩
  have HCON := hid hcon
  clear hcon h1
  go_enter Try.func100, Try.ntmps100
  go_wp2_with fail
  refine (HCON.out _ _ (by simp) below_one).mono ?_
  rintro e w' ⟨rfl, rfl⟩
  go_wp2
  go_ret
  exact ⟨rfl, below_one⟩

end Go.Proofs.Ytkmjmmnnnbjghaa

/- Add, Mul, Inverse. -/
namespace Go.Proofs.Ytkmjmmnnnbjghaa
set_option linter.unusedSimpArgs false
set_option linter.unusedVariables false
open Go.RowKit

def numE (p : Int) (xs : List Int) : Int := if errP p = 0 then (if xs.any (outP p) then 3 else 0) else errP p
theorem belowNew {w : World} {A : Obj} : Below w.heap.size w (w.alloc A) := (Below.refl _ _).alloc (Nat.le_refl _) _
theorem errP_ok {p : Int} (h : errP p = 0) : 2 ≤ p ∧ p ≤ 101 ∧ primeB p = true := by
  unfold errP at h
  by_cases h1 : p < 2 ∨ 101 < p
  · rw [if_pos h1] at h; omega
  · rw [if_neg h1] at h
    by_cases h2 : primeB p = true
    · exact ⟨by omega, by omega, h2⟩
    · rw [if_neg h2] at h; omega
theorem outP_all {p : Int} {xs : List Int} (h : xs.any (outP p) = false) : ∀ x ∈ xs, 0 ≤ x ∧ x < p := by
  intro x hx
  rw [List.any_eq_false] at h
  have := h x hx
  simp [outP] at this; omega

set_option maxHeartbeats 400000 in
theorem checkNumbers_any (p : Int) (v : Value) (xs : List Int) (w : World) (hm : xs.length ≤ 400) (hs : Sl w v xs) :
    Calls Try.prog 57 #[.int .i64 p, v] w fun e w' => e = .returned (.int .i64 (numE p xs)) ∧ Below w.heap.size w w' := by
  have HS := hid hs
  obtain ⟨a, cap, rfl, _⟩ := hs
  cases hp : (errP p != 0)
  · have hp0 : errP p = 0 := by simpa using hp
    cases hx : xs.any (outP p)
    · have e : numE p xs = 0 := by unfold numE; rw [if_pos hp0, if_neg (by simp [hx])]
      rw [e]
      clear e hp0
      go_enter Try.func57, Try.ntmps57
      go_wp2_with fail
      refine (check_any _ _).mono ?_
      rintro e w' ⟨rfl, rfl⟩
      go_wp2_with fail
      refine (anyOutside_any p _ xs _ hm HS.out).mono ?_
      rintro e w' ⟨rfl, hb⟩
      go_wp2
      go_ret
      exact ⟨rfl, hb⟩
    · have e : numE p xs = 3 := by unfold numE; rw [if_pos hp0, if_pos hx]
      rw [e]
      clear e hp0
      go_enter Try.func57, Try.ntmps57
      go_wp2_with fail
      refine (check_any _ _).mono ?_
      rintro e w' ⟨rfl, rfl⟩
      go_wp2_with fail
      refine (anyOutside_any p _ xs _ hm HS.out).mono ?_
      rintro e w' ⟨rfl, hb⟩
      go_wp2
      go_ret
      exact ⟨rfl, hb⟩
  · have e : numE p xs = errP p := by unfold numE; rw [if_neg (by simpa using hp)]
    rw [e]
    clear e
    go_enter Try.func57, Try.ntmps57
    go_wp2_with fail
    refine (check_any _ _).mono ?_
    rintro e w' ⟨rfl, rfl⟩
    go_wp2
    go_ret
    exact ⟨rfl, Below.refl _ _⟩

theorem Sl.of1 (w : World) (a : Int) (T : TypeId) : Sl (w.alloc (.cells #[.int .i64 a] T)) (.slice (some ⟨w.heap.size, 0, none⟩) 1 1) [a] := by
  refine ⟨_, _, rfl, fun _ => ⟨_, _, rfl, by simp, fun i hi => ?_⟩⟩
  simp at hi
  subst hi
  simp
theorem Sl.of2 (w : World) (a b : Int) (T : TypeId) : Sl (w.alloc (.cells #[.int .i64 a, .int .i64 b] T)) (.slice (some ⟨w.heap.size, 0, none⟩) 2 2) [a, b] := by
  refine ⟨_, _, rfl, fun _ => ⟨_, _, rfl, by simp, fun i hi => ?_⟩⟩
  simp at hi
  rcases i with _ | _ | i
  · simp
  · simp
  · omega

def fopR (g : Int → Int → Int) (p a b : Int) : Int := if numE p [a, b] = 0 then g a b % p else 0
theorem numE_two {p a b : Int} (h : numE p [a, b] = 0) : errP p = 0 ∧ 0 ≤ a ∧ a < p ∧ 0 ≤ b ∧ b < p := by
  unfold numE at h
  by_cases h1 : errP p = 0
  · rw [if_pos h1] at h
    cases h2 : [a, b].any (outP p)
    · have := outP_all h2
      have ha := this a (by simp)
      have hb := this b (by simp)
      exact ⟨h1, ha.1, ha.2, hb.1, hb.2⟩
    · rw [if_pos h2] at h; omega
  · rw [if_neg h1] at h; exact absurd h h1

set_option maxHeartbeats 400000 in
theorem moduloAdd_any (p a b : Int) (w : World) :
    Calls Try.prog 54 #[.int .i64 p, .int .i64 a, .int .i64 b, .func (.func 55) #[] #[]] w fun e w' => e = .returned (.tuple #[.int .i64 (fopR (· + ·) p a b), .int .i64 (numE p [a, b])]) ∧ Below w.heap.size w w' := by
  cases hz : (numE p [a, b] != 0)
  · have hz0 : numE p [a, b] = 0 := by simpa using hz
    obtain ⟨h1, ha, ha2, hb, hb2⟩ := numE_two hz0
    obtain ⟨hp1, hp2, _⟩ := errP_ok h1
    have e1 : fopR (· + ·) p a b = (a + b) % p := by unfold fopR; rw [if_pos hz0]
    rw [e1, hz0]
    have HZ := hid hz0
    have hbd := mul_bd (a := a) (b := b) ⟨by omega, by omega, by omega, by omega⟩
    obtain ⟨hbd1, hbd2⟩ := hbd
    clear e1 h1 hz0 hz
    go_enter Try.func54, Try.ntmps54
    go_wp2_with fail
    refine (checkNumbers_any p _ [a, b] _ (by simp) (Sl.of2 _ _ _ _)).mono ?_
    rintro e w1 ⟨rfl, hb1⟩
    rw [HZ.out]
    go_wp2_with fail
    refine (addFn_any _ _ _ ⟨by omega, by omega, by omega, by omega⟩).mono ?_
    rintro e w' ⟨rfl, rfl⟩
    go_wp2
    go_ret2
    exact ⟨rfl, belowNew.trans (hb1.mono (by simp))⟩
  · have e1 : fopR (· + ·) p a b = 0 := by unfold fopR; rw [if_neg (by simpa using hz)]
    rw [e1]
    clear e1
    go_enter Try.func54, Try.ntmps54
    go_wp2_with fail
    refine (checkNumbers_any p _ [a, b] _ (by simp) (Sl.of2 _ _ _ _)).mono ?_
    rintro e w1 ⟨rfl, hb1⟩
    go_wp2
    go_ret2
    exact ⟨rfl, belowNew.trans (hb1.mono (by simp))⟩

set_option maxHeartbeats 400000 in
theorem fieldAdd_any (p a b : Int) (w : World) :
    Calls Try.prog 10 #[.int .i64 p, .int .i64 a, .int .i64 b] w fun e w' => e = .returned (.tuple #[.int .i64 (fopR (· + ·) p a b), .int .i64 (numE p [a, b])]) ∧ Below w.heap.size w w' := by
  go_enter Try.func10, Try.ntmps10
  go_wp2_with fail
  refine (moduloAdd_any p a b _).mono ?_
  rintro e w1 ⟨rfl, hb1⟩
  go_wp2
  go_ret2
  exact ⟨rfl, hb1⟩

set_option maxHeartbeats 400000 in
theorem moduloMul_any (p a b : Int) (w : World) :
    Calls Try.prog 54 #[.int .i64 p, .int .i64 a, .int .i64 b, .func (.func 56) #[] #[]] w fun e w' => e = .returned (.tuple #[.int .i64 (fopR (· * ·) p a b), .int .i64 (numE p [a, b])]) ∧ Below w.heap.size w w' := by
  cases hz : (numE p [a, b] != 0)
  · have hz0 : numE p [a, b] = 0 := by simpa using hz
    obtain ⟨h1, ha, ha2, hb, hb2⟩ := numE_two hz0
    obtain ⟨hp1, hp2, _⟩ := errP_ok h1
    have e1 : fopR (· * ·) p a b = (a * b) % p := by unfold fopR; rw [if_pos hz0]
    rw [e1, hz0]
    have HZ := hid hz0
    have hbd := mul_bd (a := a) (b := b) ⟨by omega, by omega, by omega, by omega⟩
    obtain ⟨hbd1, hbd2⟩ := hbd
    clear e1 h1 hz0 hz
    go_enter Try.func54, Try.ntmps54
    go_wp2_with fail
    refine (checkNumbers_any p _ [a, b] _ (by simp) (Sl.of2 _ _ _ _)).mono ?_
    rintro e w1 ⟨rfl, hb1⟩
    rw [HZ.out]
    go_wp2_with fail
    refine (mulFn_any _ _ _ ⟨by omega, by omega, by omega, by omega⟩).mono ?_
    rintro e w' ⟨rfl, rfl⟩
    go_wp2
    go_ret2
    exact ⟨rfl, belowNew.trans (hb1.mono (by simp))⟩
  · have e1 : fopR (· * ·) p a b = 0 := by unfold fopR; rw [if_neg (by simpa using hz)]
    rw [e1]
    clear e1
    go_enter Try.func54, Try.ntmps54
    go_wp2_with fail
    refine (checkNumbers_any p _ [a, b] _ (by simp) (Sl.of2 _ _ _ _)).mono ?_
    rintro e w1 ⟨rfl, hb1⟩
    go_wp2
    go_ret2
    exact ⟨rfl, belowNew.trans (hb1.mono (by simp))⟩

set_option maxHeartbeats 400000 in
theorem fieldMul_any (p a b : Int) (w : World) :
    Calls Try.prog 11 #[.int .i64 p, .int .i64 a, .int .i64 b] w fun e w' => e = .returned (.tuple #[.int .i64 (fopR (· * ·) p a b), .int .i64 (numE p [a, b])]) ∧ Below w.heap.size w w' := by
  go_enter Try.func11, Try.ntmps11
  go_wp2_with fail
  refine (moduloMul_any p a b _).mono ?_
  rintro e w1 ⟨rfl, hb1⟩
  go_wp2
  go_ret2
  exact ⟨rfl, hb1⟩

/-- Powers, modulo p. -/
def pwN (p a : Nat) : Nat → Nat
  | 0 => 1
  | k + 1 => pwN p a k * a % p
theorem pwN_lt (p a : Nat) (hp : 2 ≤ p) : ∀ k, pwN p a k < p
  | 0 => by simp [pwN]; omega
  | k + 1 => by simp only [pwN]; exact Nat.mod_lt _ (by omega)
def invN (p a : Nat) : Nat := pwN p a (p - 2)
def invI (p a : Int) : Int := invN p.toNat a.toNat

def invOk (p a : Nat) : Bool := decide (1 ≤ invN p a) && decide (invN p a < p) && (a * invN p a % p == 1 % p) && (List.range (invN p a)).all fun b => a * b % p != 1 % p
/-- Each number but 0 has its inverse, modulo a prime up to 101: by trying all. -/
theorem inv_all : ((List.range 102).all fun p => !(decide (2 ≤ p) && noDiv p p) || (List.range p).all fun a => decide (a = 0) || invOk p a) = true := by decide +kernel
theorem invOk_of {p a : Nat} (h1 : 2 ≤ p) (h2 : p ≤ 101) (h3 : noDiv p p = true) (h4 : 0 < a) (h5 : a < p) : invOk p a = true := by
  have h := inv_all
  rw [List.all_eq_true] at h
  have h6 := h p (by simp; omega)
  rw [h3, decide_eq_true h1] at h6
  simp only [Bool.and_self, Bool.not_true, Bool.false_or] at h6
  rw [List.all_eq_true] at h6
  have h7 := h6 a (by simpa using h5)
  rw [decide_eq_false (by omega)] at h7
  simpa using h7

theorem cast_pw (p a k : Nat) : ((pwN p a (k + 1) : Nat) : Int) = (pwN p a k : Int) * (a : Int) % (p : Int) := by
  simp [pwN, Int.natCast_emod, Int.natCast_mul]

set_option maxHeartbeats 400000 in
theorem inverse_any (p a : Nat) (w : World) (hp : 2 ≤ p) (hp2 : p ≤ 101) (ha : a < p) :
    Calls Try.prog 58 #[.int .i64 p, .int .i64 a] w fun e w' => e = .returned (.int .i64 (invN p a)) ∧ w' = w := by
  go_enter Try.func58, Try.ntmps58
  go_wp2
  go_loop [5, 8] (fun r i => ∃ k : Nat, k ≤ p - 2 ∧ i = .int .i64 k ∧ r = .int .i64 (pwN p a k)) (fun _ i => p - (intOf i).toNat)
  case atStart => exact ⟨0, Nat.zero_le _, rfl, rfl⟩
  case round =>
    obtain ⟨k, hk, rfl, rfl⟩ := hrel
    have hlt := pwN_lt p a hp k
    by_cases hk2 : k < p - 2
    · have hc := cast_pw p a k
      have hmb := mul_bd (a := (pwN p a k : Int)) (b := (a : Int)) ⟨by omega, by omega, by omega, by omega⟩
      obtain ⟨hm1, hm2⟩ := hmb
      have HC := hid hc
      clear hc
      generalize hq : pwN p a k = q at *
      clear hq
      go_wp2
      go_round
      case rel => exact ⟨k + 1, by omega, by go_num, by rw [HC.out]⟩
      case measure => simp [intOf]; omega
    · have e : k = p - 2 := by omega
      go_wp2
      go_ret
      exact ⟨ret_int (by first | rfl | (rw [e]; rfl)), rfl⟩

end Go.Proofs.Ytkmjmmnnnbjghaa

/- Inverse; the reference's. -/
namespace Go.Proofs.Ytkmjmmnnnbjghaa
set_option linter.unusedSimpArgs false
set_option linter.unusedVariables false
open Go.RowKit

theorem numE_one {p a : Int} (h : numE p [a] = 0) : errP p = 0 ∧ 0 ≤ a ∧ a < p := by
  unfold numE at h
  by_cases h1 : errP p = 0
  · rw [if_pos h1] at h
    cases h2 : [a].any (outP p)
    · have ha := outP_all h2 a (by simp)
      exact ⟨h1, ha.1, ha.2⟩
    · rw [if_pos h2] at h; omega
  · rw [if_neg h1] at h; exact absurd h h1
def ivE (p a : Int) : Int := if numE p [a] = 0 then (if a = 0 then 5 else 0) else numE p [a]
def ivR (p a : Int) : Int := if ivE p a = 0 then invI p a else 0

set_option maxHeartbeats 400000 in
theorem fieldInverse_any (p a : Int) (w : World) :
    Calls Try.prog 12 #[.int .i64 p, .int .i64 a] w fun e w' => e = .returned (.tuple #[.int .i64 (ivR p a), .int .i64 (ivE p a)]) ∧ Below w.heap.size w w' := by
  cases hz : (numE p [a] != 0)
  · have hz0 : numE p [a] = 0 := by simpa using hz
    obtain ⟨h1, ha, ha2⟩ := numE_one hz0
    obtain ⟨hp1, hp2, _⟩ := errP_ok h1
    have HZ := hid hz0
    cases h0 : (a == 0)
    · have h0' : a ≠ 0 := by simpa using h0
      have e1 : ivE p a = 0 := by unfold ivE; rw [if_pos hz0, if_neg h0']
      have e2 : ivR p a = invI p a := by unfold ivR; rw [if_pos e1]
      rw [e1, e2]
      obtain ⟨pn, rfl⟩ : ∃ n : Nat, p = n := ⟨p.toNat, by omega⟩
      obtain ⟨an, rfl⟩ : ∃ n : Nat, a = n := ⟨a.toNat, by omega⟩
      have e3 : invI (pn : Int) (an : Int) = invN pn an := rfl
      rw [e3]
      clear e1 e2 e3 h1 hz0 hz h0'
      go_enter Try.func12, Try.ntmps12
      go_wp2_with fail
      refine (checkNumbers_any pn _ [(an : Int)] _ (by simp) (Sl.of1 _ _ _)).mono ?_
      rintro e w1 ⟨rfl, hb1⟩
      rw [HZ.out]
      go_wp2_with fail
      refine (inverse_any pn an _ (by omega) (by omega) (by omega)).mono ?_
      rintro e w' ⟨rfl, rfl⟩
      go_wp2
      go_ret2
      exact ⟨rfl, belowNew.trans (hb1.mono (by simp))⟩
    · have h0' : a = 0 := by simpa using h0
      have e1 : ivE p a = 5 := by unfold ivE; rw [if_pos hz0, if_pos h0']
      have e2 : ivR p a = 0 := by unfold ivR; rw [if_neg (by rw [e1]; decide)]
      rw [e1, e2]
      clear e1 e2 h1 hz0 hz h0'
      go_enter Try.func12, Try.ntmps12
      go_wp2_with fail
      refine (checkNumbers_any p _ [a] _ (by simp) (Sl.of1 _ _ _)).mono ?_
      rintro e w1 ⟨rfl, hb1⟩
      rw [HZ.out]
      go_wp2
      go_ret2
      exact ⟨rfl, belowNew.trans (hb1.mono (by simp))⟩
  · have e1 : ivE p a = numE p [a] := by unfold ivE; rw [if_neg (by simpa using hz)]
    have e2 : ivR p a = 0 := by unfold ivR; rw [if_neg (by rw [e1]; simpa using hz)]
    rw [e1, e2]
    clear e1 e2
    go_enter Try.func12, Try.ntmps12
    go_wp2_with fail
    refine (checkNumbers_any p _ [a] _ (by simp) (Sl.of1 _ _ _)).mono ?_
    rintro e w1 ⟨rfl, hb1⟩
    go_wp2
    go_ret2
    exact ⟨rfl, belowNew.trans (hb1.mono (by simp))⟩

theorem invOk_parts {p a : Nat} (h : invOk p a = true) : 1 ≤ invN p a ∧ invN p a < p ∧ a * invN p a % p = 1 % p ∧ ∀ b, b < invN p a → a * b % p ≠ 1 % p := by
  unfold invOk at h
  simp only [Bool.and_eq_true, decide_eq_true_eq, List.all_eq_true, beq_iff_eq, bne_iff_ne] at h
  obtain ⟨⟨⟨h1, h2⟩, h3⟩, h4⟩ := h
  exact ⟨h1, h2, h3, fun b hb => h4 b (by simpa using hb)⟩

theorem cast_test (p a k : Nat) : ((a : Int) * (k : Int) % (p : Int) == 1 % (p : Int)) = decide (a * k % p = 1 % p) := by
  have e1 : (a : Int) * (k : Int) % (p : Int) = ((a * k % p : Nat) : Int) := by simp
  have e2 : (1 : Int) % (p : Int) = ((1 % p : Nat) : Int) := by simp
  rw [e1, e2]
  by_cases h : a * k % p = 1 % p
  · simp [h]
  · rw [decide_eq_false h]; simp only [beq_eq_false_iff_ne]; intro e; exact h (by exact_mod_cast e)

set_option maxHeartbeats 400000 in
theorem inverseOf_any (p a : Nat) (w : World) (hp : 2 ≤ p) (hp2 : p ≤ 101) (ha : a < p) (hok : invOk p a = true) :
    Calls Try.prog 15 #[.int .i64 p, .int .i64 a] w fun e w' => e = .returned (.int .i64 (invN p a)) ∧ ∃ n, w' = w.drewN n := by
  have PARTS := hid (invOk_parts hok)
  clear hok
  go_enter Try.func15, Try.ntmps15
  go_wp2
  go_loopw [5] (fun i wr => ∃ k n : Nat, 1 ≤ k ∧ k ≤ invN p a ∧ i = .int .i64 k ∧ wr = w.drewN n) (fun i _ => p - (intOf i).toNat)
  case atStart => exact ⟨1, 0, by omega, PARTS.out.1, rfl, rfl⟩
  case round =>
    obtain ⟨k, n0, hk1, hk, rfl, hw0⟩ := hrel
    have HW := hid hw0
    have HK := hid hk
    have hkp : k < p := by have := PARTS.out.2.1; omega
    have hmb := mul_bd (a := (a : Int)) (b := (k : Int)) ⟨by omega, by omega, by omega, by omega⟩
    obtain ⟨hm1, hm2⟩ := hmb
    have hct := cast_test p a k
    clear hw0 hk
    by_cases he : k = invN p a
    · have ht : ((a : Int) * (k : Int) % (p : Int) == 1 % (p : Int)) = true := by rw [hct, he]; exact decide_eq_true PARTS.out.2.2.1
      have HE := hid he
      clear hct he
      go_wp2
      go_quiet (fail)
      go_wp2
      go_ret
      exact ⟨ret_int (by rw [← HE.out]), _, by rw [HW.out, World.drewN_drewN]⟩
    · have ht : ((a : Int) * (k : Int) % (p : Int) == 1 % (p : Int)) = false := by
        rw [hct]; exact decide_eq_false (PARTS.out.2.2.2 k (by have := HK.out; omega))
      have HE := hid he
      clear hct he
      go_wp2
      go_quiet (fail)
      go_wp2
      go_roundw
      case rel => exact ⟨k + 1, _, by omega, by have := HK.out; have := HE.out; omega, by go_num, by rw [HW.out, World.drewN_drewN]⟩
      case measure => simp [intOf]; omega

end Go.Proofs.Ytkmjmmnnnbjghaa

/- Looking through rows. -/
namespace Go.Proofs.Ytkmjmmnnnbjghaa
set_option linter.unusedSimpArgs false
set_option linter.unusedVariables false
open Go.RowKit

/-- A list of rows. -/
def Rws (w : World) (v : Value) (xss : List (List Int)) : Prop :=
  ∃ a cap, v = .slice a xss.length cap ∧ (0 < xss.length → ∃ b off, a = some ⟨b, off, none⟩ ∧ b < w.heap.size ∧ SlsAt w b off xss)
theorem Rws.below {w w' : World} {v : Value} {xss : List (List Int)} (h : Rws w v xss) (hb : Below w.heap.size w w') : Rws w' v xss := by
  obtain ⟨a, cap, rfl, h⟩ := h
  refine ⟨a, cap, rfl, fun hp => ?_⟩
  obtain ⟨b, off, rfl, hlt, hc⟩ := h hp
  exact ⟨b, off, rfl, Nat.lt_of_lt_of_le hlt hb.size, hc.below hlt hb⟩

theorem anyR_take (f : List Int → Bool) (xs : List (List Int)) (k : Nat) (h : k < xs.length) (h0 : (xs.take k).any f = false) (h1 : f (xs.getD k []) = false) : (xs.take (k + 1)).any f = false := by
  rw [List.take_succ_eq_append_getElem h, List.any_append, h0]
  rw [List.getD_eq_getElem?_getD, List.getElem?_eq_getElem h] at h1
  simpa using h1
theorem getR_mem (xs : List (List Int)) (k : Nat) (h : k < xs.length) : xs.getD k [] ∈ xs := by
  rw [List.getD_eq_getElem?_getD, List.getElem?_eq_getElem h]; simp
theorem anyR_at (f : List Int → Bool) (xs : List (List Int)) (k : Nat) (h : k < xs.length) (h1 : f (xs.getD k []) = true) : xs.any f = true := by
  rw [List.any_eq_true]; exact ⟨_, getR_mem xs k h, h1⟩

set_option maxHeartbeats 400000 in
theorem indexNone_any (f : Value) (a : Option Addr) (cap : Nat) (w : World) :
    Calls Try.prog 124 #[.slice a 0 cap, f] w fun e w' => e = .returned (.int .i64 (-1)) ∧ w' = w := by
  go_enter Try.func124, Try.ntmps124
  go_wp2
  go_loop [8] (fun i => i = .int .i64 0) (fun _ => 0)
  case atStart => rfl
  case round =>
    subst hrel
    go_wp2
    go_ret
    exact ⟨rfl, rfl⟩

set_option maxHeartbeats 400000 in
theorem indexLong_any (t : List Int → Bool) (xss : List (List Int)) (b off cap : Nat) (w : World) (hm : xss.length ≤ 400) (hlt : b < w.heap.size) (hs : SlsAt w b off xss)
    (hK : ∀ (W : World) (v : Value) (xs : List Int), Below w.heap.size w W → Sl W v xs → xs ∈ xss → Calls Try.prog 102 #[v] W fun e w' => e = .returned (.bool (t xs)) ∧ Below W.heap.size W w') :
    Calls Try.prog 124 #[.slice (some ⟨b, off, none⟩) xss.length cap, .func (.func 102) #[] #[]] w fun e w' =>
      ∃ r : Int, e = .returned (.int .i64 r) ∧ decide (0 ≤ r) = xss.any t ∧ Below w.heap.size w w' := by
  have HS := hid hs
  have HK := hid hK
  clear hs hK
  go_enter Try.func124, Try.ntmps124
  go_wp2
  go_loopw [8] (fun i wr => ∃ k : Nat, k ≤ xss.length ∧ i = .int .i64 k ∧ (xss.take k).any t = false ∧ Below w.heap.size w wr) (fun i _ => xss.length - (intOf i).toNat)
  case atStart => exact ⟨0, Nat.zero_le _, rfl, by simp, Below.refl _ _⟩
  case round =>
    obtain ⟨k, hk, rfl, hn, hbr⟩ := hrel
    have HN := hid hn
    have HBR := hid hbr
    by_cases hk2 : k < xss.length
    · obtain ⟨vv, hcell, hsl⟩ := HS.out k hk2
      rw [← hbr.cell (p := ⟨b, off + k, none⟩) hlt] at hcell
      have HSL := hid (hsl.below hbr)
      have H1 := hid (anyR_take t xss k hk2 HN.out)
      have H2 := hid (anyR_at t xss k hk2)
      have HM := hid (getR_mem xss k hk2)
      clear hn hbr hsl
      generalize xss.getD k [] = xs at HSL H1 H2 HM
      obtain ⟨a, cc, hvv, _⟩ := HSL.out
      subst hvv
      have CON := hid (HK.out wr _ xs HBR.out HSL.out HM.out)
      cases hy : t xs
      · rw [hy] at CON
        go_wp2_with (go_at_call 102; refine CON.out.mono ?_; rintro e w2 ⟨rfl, hb2⟩)
        go_roundw
        case rel => exact ⟨k + 1, by omega, by go_num, H1.out hy, HBR.out.trans (hb2.mono HBR.out.size)⟩
        case measure => simp [intOf]; omega
      · rw [hy] at CON
        go_wp2_with (go_at_call 102; refine CON.out.mono ?_; rintro e w2 ⟨rfl, hb2⟩)
        go_ret
        exact ⟨(k : Int), rfl, by rw [H2.out hy]; simp, HBR.out.trans (hb2.mono HBR.out.size)⟩
    · clear hn hbr
      go_wp2
      go_ret
      exact ⟨-1, rfl, by have := HN.out; rw [List.take_of_length_le (by omega)] at this; rw [this]; simp, HBR.out⟩

set_option maxHeartbeats 400000 in
theorem containsLong_any (t : List Int → Bool) (v : Value) (xss : List (List Int)) (w : World) (hm : xss.length ≤ 400) (hr : Rws w v xss)
    (hK : ∀ (W : World) (v : Value) (xs : List Int), Below w.heap.size w W → Sl W v xs → xs ∈ xss → Calls Try.prog 102 #[v] W fun e w' => e = .returned (.bool (t xs)) ∧ Below W.heap.size W w') :
    Calls Try.prog 101 #[v, .func (.func 102) #[] #[]] w fun e w' => e = .returned (.bool (xss.any t)) ∧ Below w.heap.size w w' := by
  obtain ⟨a, cap, rfl, h1⟩ := hr
  have HK := hid hK
  clear hK
  by_cases h0 : 0 < xss.length
  · obtain ⟨b, off, rfl, hlt, hc⟩ := h1 h0
    have HC := hid hc
    clear hc h1 h0
    go_enter Try.func101, Try.ntmps101
    go_wp2_with (go_at_call 124; refine (indexLong_any t xss _ _ _ _ hm hlt HC.out HK.out).mono ?_; rintro e w' ⟨r, rfl, hr, hb⟩)
    go_ret
    exact ⟨by rw [← hr]; rfl, hb⟩
  · have e : xss = [] := List.length_eq_zero_iff.1 (by omega)
    subst e
    clear h1 h0 hm HK
    go_enter Try.func101, Try.ntmps101
    go_wp2_with (go_at_call 124; refine (indexNone_any _ _ _ _).mono ?_; rintro e w' ⟨rfl, rfl⟩)
    go_ret
    exact ⟨rfl, Below.refl _ _⟩

set_option maxHeartbeats 400000 in
theorem indexUnlike_any (t : List Int → Bool) (xss : List (List Int)) (b off cap cb : Nat) (w : World) (hm : xss.length ≤ 400) (hlt : b < w.heap.size) (hs : SlsAt w b off xss)
    (hK : ∀ (W : World) (v : Value) (xs : List Int), Below w.heap.size w W → Sl W v xs → xs ∈ xss → Calls Try.prog 103 #[v, .pointer (some ⟨cb, 0, none⟩)] W fun e w' => e = .returned (.bool (t xs)) ∧ Below W.heap.size W w') :
    Calls Try.prog 124 #[.slice (some ⟨b, off, none⟩) xss.length cap, .func (.func 103) #[] #[.pointer (some ⟨cb, 0, none⟩)]] w fun e w' =>
      ∃ r : Int, e = .returned (.int .i64 r) ∧ decide (0 ≤ r) = xss.any t ∧ Below w.heap.size w w' := by
  have HS := hid hs
  have HK := hid hK
  clear hs hK
  go_enter Try.func124, Try.ntmps124
  go_wp2
  go_loopw [8] (fun i wr => ∃ k : Nat, k ≤ xss.length ∧ i = .int .i64 k ∧ (xss.take k).any t = false ∧ Below w.heap.size w wr) (fun i _ => xss.length - (intOf i).toNat)
  case atStart => exact ⟨0, Nat.zero_le _, rfl, by simp, Below.refl _ _⟩
  case round =>
    obtain ⟨k, hk, rfl, hn, hbr⟩ := hrel
    have HN := hid hn
    have HBR := hid hbr
    by_cases hk2 : k < xss.length
    · obtain ⟨vv, hcell, hsl⟩ := HS.out k hk2
      rw [← hbr.cell (p := ⟨b, off + k, none⟩) hlt] at hcell
      have HSL := hid (hsl.below hbr)
      have H1 := hid (anyR_take t xss k hk2 HN.out)
      have H2 := hid (anyR_at t xss k hk2)
      have HM := hid (getR_mem xss k hk2)
      clear hn hbr hsl
      generalize xss.getD k [] = xs at HSL H1 H2 HM
      obtain ⟨a, cc, hvv, _⟩ := HSL.out
      subst hvv
      have CON := hid (HK.out wr _ xs HBR.out HSL.out HM.out)
      cases hy : t xs
      · rw [hy] at CON
        go_wp2_with (go_at_call 103; refine CON.out.mono ?_; rintro e w2 ⟨rfl, hb2⟩)
        go_roundw
        case rel => exact ⟨k + 1, by omega, by go_num, H1.out hy, HBR.out.trans (hb2.mono HBR.out.size)⟩
        case measure => simp [intOf]; omega
      · rw [hy] at CON
        go_wp2_with (go_at_call 103; refine CON.out.mono ?_; rintro e w2 ⟨rfl, hb2⟩)
        go_ret
        exact ⟨(k : Int), rfl, by rw [H2.out hy]; simp, HBR.out.trans (hb2.mono HBR.out.size)⟩
    · clear hn hbr
      go_wp2
      go_ret
      exact ⟨-1, rfl, by have := HN.out; rw [List.take_of_length_le (by omega)] at this; rw [this]; simp, HBR.out⟩

set_option maxHeartbeats 400000 in
theorem containsUnlike_any (t : List Int → Bool) (v : Value) (xss : List (List Int)) (cb : Nat) (w : World) (hm : xss.length ≤ 400) (hr : Rws w v xss)
    (hK : ∀ (W : World) (v : Value) (xs : List Int), Below w.heap.size w W → Sl W v xs → xs ∈ xss → Calls Try.prog 103 #[v, .pointer (some ⟨cb, 0, none⟩)] W fun e w' => e = .returned (.bool (t xs)) ∧ Below W.heap.size W w') :
    Calls Try.prog 101 #[v, .func (.func 103) #[] #[.pointer (some ⟨cb, 0, none⟩)]] w fun e w' => e = .returned (.bool (xss.any t)) ∧ Below w.heap.size w w' := by
  obtain ⟨a, cap, rfl, h1⟩ := hr
  have HK := hid hK
  clear hK
  by_cases h0 : 0 < xss.length
  · obtain ⟨b, off, rfl, hlt, hc⟩ := h1 h0
    have HC := hid hc
    clear hc h1 h0
    go_enter Try.func101, Try.ntmps101
    go_wp2_with (go_at_call 124; refine (indexUnlike_any t xss _ _ _ _ _ hm hlt HC.out HK.out).mono ?_; rintro e w' ⟨r, rfl, hr, hb⟩)
    go_ret
    exact ⟨by rw [← hr]; rfl, hb⟩
  · have e : xss = [] := List.length_eq_zero_iff.1 (by omega)
    subst e
    clear h1 h0 hm HK
    go_enter Try.func101, Try.ntmps101
    go_wp2_with (go_at_call 124; refine (indexNone_any _ _ _ _).mono ?_; rintro e w' ⟨rfl, rfl⟩)
    go_ret
    exact ⟨rfl, Below.refl _ _⟩

set_option maxHeartbeats 400000 in
theorem indexRange_any (t : List Int → Bool) (xss : List (List Int)) (b off cap cb : Nat) (w : World) (hm : xss.length ≤ 400) (hlt : b < w.heap.size) (hs : SlsAt w b off xss)
    (hK : ∀ (W : World) (v : Value) (xs : List Int), Below w.heap.size w W → Sl W v xs → xs ∈ xss → Calls Try.prog 104 #[v, .pointer (some ⟨cb, 0, none⟩)] W fun e w' => e = .returned (.bool (t xs)) ∧ Below W.heap.size W w') :
    Calls Try.prog 124 #[.slice (some ⟨b, off, none⟩) xss.length cap, .func (.func 104) #[] #[.pointer (some ⟨cb, 0, none⟩)]] w fun e w' =>
      ∃ r : Int, e = .returned (.int .i64 r) ∧ decide (0 ≤ r) = xss.any t ∧ Below w.heap.size w w' := by
  have HS := hid hs
  have HK := hid hK
  clear hs hK
  go_enter Try.func124, Try.ntmps124
  go_wp2
  go_loopw [8] (fun i wr => ∃ k : Nat, k ≤ xss.length ∧ i = .int .i64 k ∧ (xss.take k).any t = false ∧ Below w.heap.size w wr) (fun i _ => xss.length - (intOf i).toNat)
  case atStart => exact ⟨0, Nat.zero_le _, rfl, by simp, Below.refl _ _⟩
  case round =>
    obtain ⟨k, hk, rfl, hn, hbr⟩ := hrel
    have HN := hid hn
    have HBR := hid hbr
    by_cases hk2 : k < xss.length
    · obtain ⟨vv, hcell, hsl⟩ := HS.out k hk2
      rw [← hbr.cell (p := ⟨b, off + k, none⟩) hlt] at hcell
      have HSL := hid (hsl.below hbr)
      have H1 := hid (anyR_take t xss k hk2 HN.out)
      have H2 := hid (anyR_at t xss k hk2)
      have HM := hid (getR_mem xss k hk2)
      clear hn hbr hsl
      generalize xss.getD k [] = xs at HSL H1 H2 HM
      obtain ⟨a, cc, hvv, _⟩ := HSL.out
      subst hvv
      have CON := hid (HK.out wr _ xs HBR.out HSL.out HM.out)
      cases hy : t xs
      · rw [hy] at CON
        go_wp2_with (go_at_call 104; refine CON.out.mono ?_; rintro e w2 ⟨rfl, hb2⟩)
        go_roundw
        case rel => exact ⟨k + 1, by omega, by go_num, H1.out hy, HBR.out.trans (hb2.mono HBR.out.size)⟩
        case measure => simp [intOf]; omega
      · rw [hy] at CON
        go_wp2_with (go_at_call 104; refine CON.out.mono ?_; rintro e w2 ⟨rfl, hb2⟩)
        go_ret
        exact ⟨(k : Int), rfl, by rw [H2.out hy]; simp, HBR.out.trans (hb2.mono HBR.out.size)⟩
    · clear hn hbr
      go_wp2
      go_ret
      exact ⟨-1, rfl, by have := HN.out; rw [List.take_of_length_le (by omega)] at this; rw [this]; simp, HBR.out⟩

set_option maxHeartbeats 400000 in
theorem containsRange_any (t : List Int → Bool) (v : Value) (xss : List (List Int)) (cb : Nat) (w : World) (hm : xss.length ≤ 400) (hr : Rws w v xss)
    (hK : ∀ (W : World) (v : Value) (xs : List Int), Below w.heap.size w W → Sl W v xs → xs ∈ xss → Calls Try.prog 104 #[v, .pointer (some ⟨cb, 0, none⟩)] W fun e w' => e = .returned (.bool (t xs)) ∧ Below W.heap.size W w') :
    Calls Try.prog 101 #[v, .func (.func 104) #[] #[.pointer (some ⟨cb, 0, none⟩)]] w fun e w' => e = .returned (.bool (xss.any t)) ∧ Below w.heap.size w w' := by
  obtain ⟨a, cap, rfl, h1⟩ := hr
  have HK := hid hK
  clear hK
  by_cases h0 : 0 < xss.length
  · obtain ⟨b, off, rfl, hlt, hc⟩ := h1 h0
    have HC := hid hc
    clear hc h1 h0
    go_enter Try.func101, Try.ntmps101
    go_wp2_with (go_at_call 124; refine (indexRange_any t xss _ _ _ _ _ hm hlt HC.out HK.out).mono ?_; rintro e w' ⟨r, rfl, hr, hb⟩)
    go_ret
    exact ⟨by rw [← hr]; rfl, hb⟩
  · have e : xss = [] := List.length_eq_zero_iff.1 (by omega)
    subst e
    clear h1 h0 hm HK
    go_enter Try.func101, Try.ntmps101
    go_wp2_with (go_at_call 124; refine (indexNone_any _ _ _ _).mono ?_; rintro e w' ⟨rfl, rfl⟩)
    go_ret
    exact ⟨rfl, Below.refl _ _⟩

set_option maxHeartbeats 400000 in
theorem longFn_any (v : Value) (xs : List Int) (w : World) (hs : Sl w v xs) :
    Calls Try.prog 102 #[v] w fun e w' => e = .returned (.bool (decide (400 < (xs.length : Int)))) ∧ Below w.heap.size w w' := by
  obtain ⟨a, cap, rfl, _⟩ := hs
  go_enter Try.func102, Try.ntmps102
  go_wp2
  go_ret
  exact ⟨rfl, Below.refl _ _⟩

set_option maxHeartbeats 400000 in
theorem unlikeFn_any (v r : Value) (xs : List Int) (xss : List (List Int)) (cb : Nat) (w : World) (hs : Sl w v xs) (hr : Rws w r xss) (h0 : 0 < xss.length) (hc : w.cell? ⟨cb, 0, none⟩ = some r) :
    Calls Try.prog 103 #[v, .pointer (some ⟨cb, 0, none⟩)] w fun e w' => e = .returned (.bool ((xs.length : Int) != ((xss.getD 0 []).length : Int))) ∧ Below w.heap.size w w' := by
  obtain ⟨a, cap, rfl, _⟩ := hs
  obtain ⟨a2, cap2, rfl, h2⟩ := hr
  obtain ⟨b, off, rfl, hlt, hsl⟩ := h2 h0
  obtain ⟨vv, hcell, hs0⟩ := hsl 0 h0
  obtain ⟨a3, cap3, hvv, _⟩ := hs0
  subst hvv
  rw [Nat.add_zero] at hcell
  have h00 : (0 : Int) < (xss.length : Int) := by omega
  clear h2 hsl h0
  generalize (xss.getD 0 []).length = m at *
  go_enter Try.func103, Try.ntmps103
  go_wp2
  go_ret
  exact ⟨rfl, Below.refl _ _⟩

set_option maxHeartbeats 400000 in
theorem rangeFn_any (p : Int) (v : Value) (xs : List Int) (cb : Nat) (w : World) (hm : xs.length ≤ 400) (hs : Sl w v xs) (hc : w.cell? ⟨cb, 0, none⟩ = some (.int .i64 p)) :
    Calls Try.prog 104 #[v, .pointer (some ⟨cb, 0, none⟩)] w fun e w' => e = .returned (.bool (xs.any (outP p))) ∧ Below w.heap.size w w' := by
  have HS := hid hs
  obtain ⟨a, cap, rfl, _⟩ := hs
  go_enter Try.func104, Try.ntmps104
  go_wp2_with fail
  refine (anyOutside_any p _ xs _ hm HS.out).mono ?_
  rintro e w1 ⟨rfl, hb⟩
  go_wp2
  go_ret
  exact ⟨rfl, hb⟩

/-- What is said of rows, the prime being right. -/
def longR (xs : List Int) : Bool := decide (400 < (xs.length : Int))
def unlikeR (n : Nat) (xs : List Int) : Bool := (xs.length : Int) != (n : Int)
def rowE (p : Int) (xss : List (List Int)) : Int :=
  if 400 < (xss.length : Int) ∨ xss.any longR = true then 2 else if xss.any (unlikeR (xss.getD 0 []).length) then 1 else if xss.any (fun xs => xs.any (outP p)) then 3 else 0
def rowsE (p : Int) (xss : List (List Int)) : Int := if errP p = 0 then rowE p xss else errP p

end Go.Proofs.Ytkmjmmnnnbjghaa

/- Rows that came in. -/
namespace Go.Proofs.Ytkmjmmnnnbjghaa
set_option linter.unusedSimpArgs false
set_option linter.unusedVariables false
open Go.ChangeShapes Go.WideShapes Go.ChangeAt Go.RowKit Go.Deep

theorem Try.ownR : ownKnob Try.prog.godebug = none := by kernel_rfl
theorem Try.laidOutR : laidOutB Try.prog = true := by kernel_rfl
theorem Try.cellsIntR : Try.prog.cellsOf 3 = 1 := by kernel_rfl
theorem Try.cellsIntsR : Try.prog.cellsOf 36 = 1 := by kernel_rfl

theorem cellLt {w : World} {a : Addr} {v : Value} (h : w.cell? a = some v) : a.block < w.heap.size := World.block_lt_of_cell? w a h

theorem addrAt {w : World} {a : Addr} {v : Value} (h : w.cell? (a.add 0) = some v) : ∃ b off, a = ⟨b, off, none⟩ := by
  obtain ⟨b, off, spot⟩ := a
  have hspot : spot = none := by simpa [Addr.add] using World.cell?_spot h
  exact ⟨b, off, by rw [hspot]⟩
theorem cellAdd {w : World} {b off i : Nat} {v : Value} (h : w.cell? ((⟨b, off, none⟩ : Addr).add i) = some v) : w.cell? ⟨b, off + i, none⟩ = some v := by
  by_cases h0 : i = 0
  · subst h0; simpa [Addr.add] using h
  · simpa [Addr.add, h0] using h

theorem rws_of {H : Type} {enc : TypeId × Value → H} {W : World} {v : Value} {d : DataW H} {p : List MemPlace} (hv : ∃ a len cap, v = .slice a len cap)
    (h : DataW.Trod enc Try.prog W 0 (fun _ => true) true 31 v d p) : ∃ xss : List (List Int), Rws W v xss := by
  obtain ⟨a0, len0, cap0, rfl⟩ := hv
  obtain ⟨fuel, hf⟩ := h
  rcases open_int_rows Try.underlying31 Try.underlying36 Try.underlying3 Try.cellsIntsR Try.cellsIntR hf with ⟨hcs, _⟩ | ⟨a, len, cap, A, L, C, Z, hcs, _, hl, _, _, hall⟩
  · simp [Value.cells] at hcs
    obtain ⟨rfl, rfl, rfl⟩ := hcs
    exact ⟨[], none, 0, rfl, fun h => absurd h (by simp)⟩
  · simp [Value.cells] at hcs
    obtain ⟨rfl, rfl, rfl⟩ := hcs
    refine ⟨(List.range len0).map (fun r => (Z r).take (L r)), some a, cap0, by simp, fun hp => ?_⟩
    simp at hp
    obtain ⟨b, off, rfl⟩ := addrAt (hall 0 (by omega)).1
    refine ⟨b, off, rfl, cellLt (hall 0 (by omega)).1, fun i hi => ?_⟩
    simp at hi
    obtain ⟨hc, hL, _, hZ, _, hnone, hsome⟩ := hall i (by omega)
    have hg : ((List.range len0).map (fun r => (Z r).take (L r))).getD i [] = (Z i).take (L i) := by
      simp [List.getD_eq_getElem?_getD, hi]
    have hzl : ((Z i).take (L i)).length = L i := by rw [List.length_take]; omega
    rw [hg]
    refine ⟨_, cellAdd hc, A i, C i, by rw [hzl], fun hpos => ?_⟩
    rw [hzl] at hpos
    cases hA : A i with
    | none => have := hnone hA; omega
    | some a' =>
      obtain ⟨_, hcells⟩ := hsome a' hA
      obtain ⟨b', off', rfl⟩ := addrAt (hcells 0 (by omega))
      refine ⟨b', off', rfl, cellLt (hcells 0 (by omega)), fun j hj => ?_⟩
      rw [hzl] at hj
      have e : ((Z i).take (L i)).getD j 0 = (Z i).getD j 0 := by
        simp [List.getD_eq_getElem?_getD, List.getElem?_take, hj]
      rw [e]
      exact cellAdd (hcells j (by omega))

end Go.Proofs.Ytkmjmmnnnbjghaa
