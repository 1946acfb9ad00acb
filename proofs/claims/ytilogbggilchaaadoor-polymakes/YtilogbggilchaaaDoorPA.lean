/- Plain mathematics of polynomials: terms put where they belong; what is told by a polynomial tells it. -/
import Derived.Test.YtilogbggilchaaaDoorL
namespace Go.Proofs.YtilogbggilchaaaDoor
set_option linter.unusedSimpArgs false
set_option linter.unusedVariables false
abbrev Tm := Int × List Int
def ins (p o : Int) : List Tm → Tm → List Tm
  | [], t => [t]
  | u :: out, t => if 0 < ordS o u.2 t.2 then u :: ins p o out t else if u.2 = t.2 then ((u.1 + t.1) % p, u.2) :: out else t :: u :: out
def colL (p o : Int) (l : List Tm) : List Tm := (l.foldl (ins p o) []).filter fun t => t.1 % p != 0

def lin (φ : List Int → Int) : List Tm → Int
  | [] => 0
  | t :: ts => t.1 * φ t.2 + lin φ ts
theorem lin_append (φ : List Int → Int) : ∀ ts us : List Tm, lin φ (ts ++ us) = lin φ ts + lin φ us
  | [], us => by simp [lin]
  | t :: ts, us => by simp only [List.cons_append, lin]; rw [lin_append φ ts us]; omega
theorem modDvd (p x : Int) : p ∣ x % p - x := ⟨-(x / p), by rw [Int.emod_def]; grind⟩
theorem lin_ins (p o : Int) (φ : List Int → Int) (t : Tm) : ∀ out : List Tm, p ∣ lin φ (ins p o out t) - (lin φ out + t.1 * φ t.2)
  | [] => by simp [ins, lin]
  | u :: out => by
    simp only [ins]
    split
    · simp only [lin]
      have := lin_ins p o φ t out
      have e : u.1 * φ u.2 + lin φ (ins p o out t) - (u.1 * φ u.2 + lin φ out + t.1 * φ t.2) = lin φ (ins p o out t) - (lin φ out + t.1 * φ t.2) := by omega
      rw [e]; exact this
    · split
      · rename_i _ h
        simp only [lin]
        obtain ⟨k, hk⟩ := modDvd p (u.1 + t.1)
        rw [← h]
        exact ⟨k * φ u.2, by grind⟩
      · simp only [lin]
        exact ⟨0, by omega⟩
theorem lin_fold (p o : Int) (φ : List Int → Int) : ∀ (l out : List Tm), p ∣ lin φ (l.foldl (ins p o) out) - (lin φ out + lin φ l)
  | [], out => by simp [lin]
  | t :: l, out => by
    simp only [List.foldl_cons, lin]
    have h1 := lin_fold p o φ l (ins p o out t)
    have h2 := lin_ins p o φ t out
    have h3 := Int.dvd_add h1 h2
    have e : lin φ (l.foldl (ins p o) (ins p o out t)) - (lin φ (ins p o out t) + lin φ l) + (lin φ (ins p o out t) - (lin φ out + t.1 * φ t.2)) = lin φ (l.foldl (ins p o) (ins p o out t)) - (lin φ out + (t.1 * φ t.2 + lin φ l)) := by omega
    rw [e] at h3; exact h3
theorem lin_filter (p : Int) (φ : List Int → Int) : ∀ ts : List Tm, p ∣ lin φ (ts.filter fun t => t.1 % p != 0) - lin φ ts
  | [] => by simp [lin]
  | t :: ts => by
    have h := lin_filter p φ ts
    by_cases ht : t.1 % p = 0
    · have e : (t :: ts).filter (fun t => t.1 % p != 0) = ts.filter fun t => t.1 % p != 0 := by simp [List.filter_cons, ht]
      rw [e]
      simp only [lin]
      obtain ⟨k, hk⟩ := h
      obtain ⟨m, hm⟩ := Int.dvd_of_emod_eq_zero ht
      exact ⟨k - m * φ t.2, by grind⟩
    · have e : (t :: ts).filter (fun t => t.1 % p != 0) = t :: ts.filter fun t => t.1 % p != 0 := by simp [List.filter_cons, ht]
      rw [e]
      simp only [lin]
      have e2 : t.1 * φ t.2 + lin φ (ts.filter fun t => t.1 % p != 0) - (t.1 * φ t.2 + lin φ ts) = lin φ (ts.filter fun t => t.1 % p != 0) - lin φ ts := by omega
      rw [e2]; exact h
theorem lin_col (p o : Int) (φ : List Int → Int) (l : List Tm) : p ∣ lin φ (colL p o l) - lin φ l := by
  unfold colL
  have h1 := lin_filter p φ (l.foldl (ins p o) [])
  have h2 := lin_fold p o φ l []
  have h3 := Int.dvd_add h1 h2
  simp only [lin, Int.zero_add] at h3
  have e : ∀ a b c : Int, a - b + (b - c) = a - c := fun a b c => by omega
  rw [e] at h3; exact h3

def Falls (o : Int) : List Tm → Prop
  | [] => True
  | t :: ts => (∀ u ∈ ts, 0 < ordS o t.2 u.2) ∧ Falls o ts
def Len (n : Nat) (ts : List Tm) : Prop := ∀ t ∈ ts, t.2.length = n
theorem ins_mem {p o : Int} {t : Tm} : ∀ {out : List Tm} {x : Tm}, x ∈ ins p o out t → x.2 = t.2 ∨ ∃ u ∈ out, x.2 = u.2
  | [], x, h => by simp [ins] at h; exact Or.inl (by rw [h])
  | u :: out, x, h => by
    simp only [ins] at h
    split at h
    · simp only [List.mem_cons] at h
      rcases h with rfl | h
      · exact Or.inr ⟨x, by simp, rfl⟩
      · rcases ins_mem h with h | ⟨y, hy, h⟩
        · exact Or.inl h
        · exact Or.inr ⟨y, by simp [hy], h⟩
    · split at h
      · simp only [List.mem_cons] at h
        rcases h with rfl | h
        · exact Or.inr ⟨u, by simp, rfl⟩
        · exact Or.inr ⟨x, by simp [h], rfl⟩
      · simp only [List.mem_cons] at h
        rcases h with rfl | rfl | h
        · exact Or.inl rfl
        · exact Or.inr ⟨x, by simp, rfl⟩
        · exact Or.inr ⟨x, by simp [h], rfl⟩
theorem ins_len {p o : Int} {n : Nat} {t : Tm} {out : List Tm} (h : Len n out) (ht : t.2.length = n) : Len n (ins p o out t) := by
  intro x hx
  rcases ins_mem hx with h1 | ⟨u, hu, h1⟩
  · rw [h1]; exact ht
  · rw [h1]; exact h u hu
theorem ins_falls {p o : Int} {n : Nat} {t : Tm} (ht : t.2.length = n) : ∀ {out : List Tm}, Len n out → Falls o out → Falls o (ins p o out t)
  | [], _, _ => ⟨by simp, trivial⟩
  | u :: out, hl, ⟨h1, h2⟩ => by
    have hu : u.2.length = n := hl u (by simp)
    have hlo : Len n out := fun x hx => hl x (by simp [hx])
    simp only [ins]
    by_cases hm : 0 < ordS o u.2 t.2
    · rw [if_pos hm]
      refine ⟨fun x hx => ?_, ins_falls ht hlo h2⟩
      rcases ins_mem hx with h | ⟨y, hy, h⟩
      · rw [h]; exact hm
      · rw [h]; exact h1 y hy
    · rw [if_neg hm]
      by_cases he : u.2 = t.2
      · rw [if_pos he]; exact ⟨h1, h2⟩
      · rw [if_neg he]
        have hz := ordS_zero o u.2 t.2 (by omega)
        have hneg := ordS_neg o u.2 t.2
        have htu : 0 < ordS o t.2 u.2 := by
          have : ordS o u.2 t.2 ≠ 0 := fun e => he (hz.1 e)
          omega
        refine ⟨fun x hx => ?_, h1, h2⟩
        simp only [List.mem_cons] at hx
        rcases hx with rfl | hx
        · exact htu
        · exact ordS_trans o t.2 u.2 x.2 (by omega) (by rw [hlo x hx]; exact hu) htu (h1 x hx)
theorem fold_falls {p o : Int} {n : Nat} : ∀ (l out : List Tm), Len n l → Len n out → Falls o out → Len n (l.foldl (ins p o) out) ∧ Falls o (l.foldl (ins p o) out)
  | [], out, _, ho, hf => ⟨ho, hf⟩
  | t :: l, out, hl, ho, hf => fold_falls l (ins p o out t) (fun x hx => hl x (by simp [hx])) (ins_len ho (hl t (by simp))) (ins_falls (hl t (by simp)) ho hf)
theorem falls_filter {o : Int} (f : Tm → Bool) : ∀ {ts : List Tm}, Falls o ts → Falls o (ts.filter f)
  | [], _ => trivial
  | t :: ts, ⟨h1, h2⟩ => by
    simp only [List.filter_cons]
    split
    · exact ⟨fun u hu => h1 u (List.mem_filter.1 hu).1, falls_filter f h2⟩
    · exact falls_filter f h2
theorem ins_range {p o : Int} (hp : 2 ≤ p) {t : Tm} (ht : 0 ≤ t.1 ∧ t.1 < p) : ∀ {out : List Tm}, (∀ u ∈ out, 0 ≤ u.1 ∧ u.1 < p) → ∀ x ∈ ins p o out t, 0 ≤ x.1 ∧ x.1 < p
  | [], _, x, hx => by simp [ins] at hx; rw [hx]; exact ht
  | u :: out, h, x, hx => by
    simp only [ins] at hx
    split at hx
    · simp only [List.mem_cons] at hx
      rcases hx with rfl | hx
      · exact h x (by simp)
      · exact ins_range hp ht (fun y hy => h y (by simp [hy])) x hx
    · split at hx
      · simp only [List.mem_cons] at hx
        rcases hx with rfl | hx
        · exact ⟨Int.emod_nonneg _ (by omega), Int.emod_lt_of_pos _ (by omega)⟩
        · exact h x (by simp [hx])
      · simp only [List.mem_cons] at hx
        rcases hx with rfl | rfl | hx
        · exact ht
        · exact h x (by simp)
        · exact h x (by simp [hx])
theorem fold_range {p o : Int} (hp : 2 ≤ p) : ∀ (l out : List Tm), (∀ u ∈ l, 0 ≤ u.1 ∧ u.1 < p) → (∀ u ∈ out, 0 ≤ u.1 ∧ u.1 < p) → ∀ x ∈ l.foldl (ins p o) out, 0 ≤ x.1 ∧ x.1 < p
  | [], out, _, ho => ho
  | t :: l, out, hl, ho => fold_range hp l (ins p o out t) (fun x hx => hl x (by simp [hx])) (ins_range hp (hl t (by simp)) ho)

structure Canon (p o : Int) (n : Nat) (ts : List Tm) : Prop where
  len : Len n ts
  falls : Falls o ts
  coef : ∀ t ∈ ts, 1 ≤ t.1 ∧ t.1 < p
theorem col_canon {p o : Int} {n : Nat} (hp : 2 ≤ p) {l : List Tm} (hl : Len n l) (hc : ∀ t ∈ l, 0 ≤ t.1 ∧ t.1 < p) : Canon p o n (colL p o l) := by
  have h := fold_falls (p := p) (o := o) (n := n) l [] hl (fun x hx => by simp at hx) trivial
  have hr := fold_range (o := o) hp l [] hc (fun x hx => by simp at hx)
  refine ⟨fun t ht => h.1 t (List.mem_filter.1 ht).1, falls_filter _ h.2, fun t ht => ?_⟩
  unfold colL at ht
  rw [List.mem_filter] at ht
  have h1 := hr t ht.1
  have h2 : t.1 % p ≠ 0 := by simpa using ht.2
  have h3 : t.1 ≠ 0 := fun e => h2 (by rw [e]; simp)
  omega

def delta (e : List Int) : List Int → Int := fun x => if x = e then 1 else 0
theorem lin_delta_none {e : List Int} : ∀ {ts : List Tm}, (∀ t ∈ ts, t.2 ≠ e) → lin (delta e) ts = 0
  | [], _ => rfl
  | t :: ts, h => by
    simp only [lin]
    rw [lin_delta_none (fun u hu => h u (by simp [hu]))]
    unfold delta
    rw [if_neg (h t (by simp))]; simp
theorem falls_ne {o : Int} {n : Nat} {t : Tm} {ts : List Tm} (hl : Len n (t :: ts)) (hf : Falls o (t :: ts)) : ∀ u ∈ ts, u.2 ≠ t.2 := by
  intro u hu e
  have h1 := hf.1 u hu
  have := (ordS_zero o t.2 u.2 (by rw [hl t (by simp), hl u (by simp [hu])])).2 e.symm
  omega
theorem lin_delta_head {o : Int} {n : Nat} {t : Tm} {ts : List Tm} (hl : Len n (t :: ts)) (hf : Falls o (t :: ts)) : lin (delta t.2) (t :: ts) = t.1 := by
  show t.1 * delta t.2 t.2 + lin (delta t.2) ts = t.1
  rw [lin_delta_none (falls_ne hl hf)]
  unfold delta; rw [if_pos rfl]; omega
theorem dvd_neg {p a : Int} (h : p ∣ 0 - a) : p ∣ a := by
  obtain ⟨k, hk⟩ := h
  exact ⟨-k, by rw [Int.mul_neg, ← hk]; omega⟩
theorem dvd_sub0 {p a : Int} (h : p ∣ a - 0) : p ∣ a := by rwa [Int.sub_zero] at h
theorem canon_uniq {p o : Int} {n : Nat} (hp : 2 ≤ p) : ∀ (ts us : List Tm), Canon p o n ts → Canon p o n us → (∀ e, p ∣ lin (delta e) ts - lin (delta e) us) → ts = us
  | [], [], _, _, _ => rfl
  | [], u :: us, _, hu, h => by
    have h1 := h u.2
    rw [lin_delta_head hu.len hu.falls] at h1
    have h2 := hu.coef u (by simp)
    have := Int.le_of_dvd (by omega) (dvd_neg h1)
    omega
  | t :: ts, [], ht, _, h => by
    have h1 := h t.2
    rw [lin_delta_head ht.len ht.falls] at h1
    have h2 := ht.coef t (by simp)
    have := Int.le_of_dvd (by omega) (dvd_sub0 h1)
    omega
  | t :: ts, u :: us, ht, hu, h => by
    have tc := ht.coef t (by simp)
    have uc := hu.coef u (by simp)
    have tl := ht.len t (by simp)
    have ul := hu.len u (by simp)
    have hts : Canon p o n ts := ⟨fun x hx => ht.len x (by simp [hx]), ht.falls.2, fun x hx => ht.coef x (by simp [hx])⟩
    have hus : Canon p o n us := ⟨fun x hx => hu.len x (by simp [hx]), hu.falls.2, fun x hx => hu.coef x (by simp [hx])⟩
    have hsame : t.2 = u.2 := by
      apply Classical.byContradiction
      intro hne
      have hz := ordS_zero o t.2 u.2 (by omega)
      have hg := ordS_neg o t.2 u.2
      have hnz : ordS o t.2 u.2 ≠ 0 := fun e => hne (hz.1 e)
      by_cases hlt : 0 < ordS o t.2 u.2
      · have h1 := h t.2
        have hn : ∀ x ∈ u :: us, x.2 ≠ t.2 := by
          intro x hx e
          simp only [List.mem_cons] at hx
          rcases hx with rfl | hx
          · exact hne e.symm
          · have h2 := hu.falls.1 x hx
            have h3 := ordS_trans o t.2 u.2 x.2 (by omega) (by rw [ul, hu.len x (by simp [hx])]) hlt h2
            have h4 := (ordS_zero o t.2 x.2 (by rw [tl, hu.len x (by simp [hx])])).2 e.symm
            omega
        rw [lin_delta_none hn, lin_delta_head ht.len ht.falls] at h1
        have := Int.le_of_dvd (by omega) (dvd_sub0 h1)
        omega
      · have hlt2 : 0 < ordS o u.2 t.2 := by omega
        have h1 := h u.2
        have hn : ∀ x ∈ t :: ts, x.2 ≠ u.2 := by
          intro x hx e
          simp only [List.mem_cons] at hx
          rcases hx with rfl | hx
          · exact hne e
          · have h2 := ht.falls.1 x hx
            have h3 := ordS_trans o u.2 t.2 x.2 (by omega) (by rw [tl, ht.len x (by simp [hx])]) hlt2 h2
            have h4 := (ordS_zero o u.2 x.2 (by rw [ul, ht.len x (by simp [hx])])).2 e.symm
            omega
        rw [lin_delta_none hn, lin_delta_head hu.len hu.falls] at h1
        have := Int.le_of_dvd (by omega) (dvd_neg h1)
        omega
    have hcoef : t.1 = u.1 := by
      have h2 := h t.2
      rw [lin_delta_head ht.len ht.falls, hsame, lin_delta_head hu.len hu.falls] at h2
      by_cases hd : t.1 - u.1 = 0
      · omega
      · by_cases hd2 : 0 < t.1 - u.1
        · have := Int.le_of_dvd hd2 h2; omega
        · have h3 : p ∣ u.1 - t.1 := by
            obtain ⟨k, hk⟩ := h2
            exact ⟨-k, by rw [Int.mul_neg, ← hk]; omega⟩
          have := Int.le_of_dvd (by omega) h3; omega
    have htu : t = u := Prod.ext hcoef hsame
    subst htu
    congr 1
    refine canon_uniq hp ts us hts hus (fun e => ?_)
    have h1 := h e
    simp only [lin] at h1
    have e2 : t.1 * delta e t.2 + lin (delta e) ts - (t.1 * delta e t.2 + lin (delta e) us) = lin (delta e) ts - lin (delta e) us := by omega
    rwa [e2] at h1
theorem col_of_canon {p o : Int} {n : Nat} (hp : 2 ≤ p) {l ts : List Tm} (hl : Len n l) (hc : ∀ t ∈ l, 0 ≤ t.1 ∧ t.1 < p) (ht : Canon p o n ts) (h : ∀ φ, p ∣ lin φ ts - lin φ l) : ts = colL p o l := by
  refine canon_uniq hp ts (colL p o l) ht (col_canon hp hl hc) (fun e => ?_)
  obtain ⟨a, ha⟩ := h (delta e)
  obtain ⟨b, hb⟩ := lin_col p o (delta e) l
  exact ⟨a - b, by rw [Int.mul_sub, ← ha, ← hb]; omega⟩

def prodT (p : Int) (t : Tm) (g : List Tm) : List Tm := g.map fun u => (t.1 * u.1 % p, zipI (· + ·) t.2 u.2)
def prodL (p : Int) (f g : List Tm) : List Tm := f.flatMap fun t => prodT p t g
theorem lin_prodT (p : Int) (φ : List Int → Int) (t : Tm) : ∀ g : List Tm, p ∣ lin φ (prodT p t g) - t.1 * lin (fun b => φ (zipI (· + ·) t.2 b)) g
  | [] => by simp [prodT, lin]
  | u :: g => by
    have h := lin_prodT p φ t g
    have e : prodT p t (u :: g) = (t.1 * u.1 % p, zipI (· + ·) t.2 u.2) :: prodT p t g := rfl
    rw [e]
    simp only [lin]
    obtain ⟨k, hk⟩ := h
    obtain ⟨m, hm⟩ := modDvd p (t.1 * u.1)
    exact ⟨k + m * φ (zipI (· + ·) t.2 u.2), by grind⟩
theorem lin_prod (p : Int) (φ : List Int → Int) (g : List Tm) : ∀ f : List Tm, p ∣ lin φ (prodL p f g) - lin (fun a => lin (fun b => φ (zipI (· + ·) a b)) g) f
  | [] => by simp [prodL, lin]
  | t :: f => by
    have h := lin_prod p φ g f
    have e : prodL p (t :: f) g = prodT p t g ++ prodL p f g := rfl
    rw [e, lin_append]
    simp only [lin]
    have h2 := lin_prodT p φ t g
    have h3 := Int.dvd_add h2 h
    have e2 : ∀ a b c d : Int, a - b + (c - d) = a + c - (b + d) := fun a b c d => by omega
    rw [e2] at h3; exact h3
theorem lin_zero (f : List Tm) : lin (fun _ => 0) f = 0 := by
  induction f with
  | nil => rfl
  | cons t f ih => simp only [lin]; rw [ih]; simp
theorem lin_add (φ ψ : List Int → Int) (f : List Tm) : lin (fun a => φ a + ψ a) f = lin φ f + lin ψ f := by
  induction f with
  | nil => rfl
  | cons t f ih => simp only [lin]; rw [ih]; grind
theorem lin_smul (c : Int) (φ : List Int → Int) (f : List Tm) : lin (fun a => c * φ a) f = c * lin φ f := by
  induction f with
  | nil => simp [lin]
  | cons t f ih => simp only [lin]; rw [ih]; grind
theorem lin_swap (F : List Int → List Int → Int) (f g : List Tm) : lin (fun a => lin (fun b => F a b) g) f = lin (fun b => lin (fun a => F a b) f) g := by
  induction g with
  | nil => simp only [lin]; exact lin_zero f
  | cons u g ih =>
    simp only [lin]
    rw [lin_add, ih, lin_smul]
theorem zip_comm : ∀ a b : List Int, zipI (· + ·) a b = zipI (· + ·) b a
  | [], [] => rfl
  | [], _ :: _ => rfl
  | _ :: _, [] => rfl
  | x :: a, y :: b => by simp only [zipI]; rw [zip_comm a b, Int.add_comm]
theorem lin_congr {φ ψ : List Int → Int} {f : List Tm} (h : ∀ t ∈ f, φ t.2 = ψ t.2) : lin φ f = lin ψ f := by
  induction f with
  | nil => rfl
  | cons t f ih => simp only [lin]; rw [h t (by simp), ih (fun u hu => h u (by simp [hu]))]
end Go.Proofs.YtilogbggilchaaaDoor
