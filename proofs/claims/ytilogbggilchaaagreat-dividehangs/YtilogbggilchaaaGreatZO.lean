/- The division of the reference, step by step: plain mathematics. -/
import Derived.Test.YtilogbggilchaaaGreatZN
import Derived.Test.YtilogbggilchaaaGreatZM
namespace Go.Proofs.YtilogbggilchaaaGreat
set_option linter.unusedSimpArgs false
set_option linter.unusedVariables false
open Go.RowKit
structure DS where
  v : List (List Tm)
  q : List (List Tm)
  l : List (List Tm)
def isDv (o ov : Int) (j : Nat) (e : List Int) (g : List (List Tm)) : Bool :=
  match leadF o ov g g.length with
  | none => false
  | some (k, u) => decide (k = j) && !lackB e u.2
def dvI (o ov : Int) (lss : List (List (List Tm))) (j : Nat) (e : List Int) : Option Nat := lss.findIdx? (isDv o ov j e)
def byT (p : Int) (t u : Tm) : Tm := (t.1 * invI p u.1 % p, zipI (· - ·) t.2 u.2)
def ldT (o ov : Int) (g : List (List Tm)) : Tm := ((leadF o ov g g.length).getD (0, noT)).2
def dstep (p o ov : Int) (lss : List (List (List Tm))) (s : DS) : Option DS :=
  match leadF o ov s.v s.v.length with
  | none => none
  | some (j, t) =>
    match dvI o ov lss j t.2 with
    | none => some ⟨sums p o s.v (atPl s.v.length j [(p - t.1, t.2)]), s.q, s.l.set j (s.l.getD j [] ++ [t])⟩
    | some i => some ⟨sums p o s.v (prods p o [(p - (byT p t (ldT o ov (lss.getD i []))).1, (byT p t (ldT o ov (lss.getD i []))).2)] (lss.getD i [])), s.q.set i (s.q.getD i [] ++ [byT p t (ldT o ov (lss.getD i []))]), s.l⟩
def Dv (p o ov : Int) (lss : List (List (List Tm))) (a b : DS) : Prop := ∀ P : DS → Prop, P a → (∀ b c, P b → dstep p o ov lss b = some c → P c) → P b
theorem Dv.refl {p o ov : Int} {lss : List (List (List Tm))} (s : DS) : Dv p o ov lss s s := fun _ h _ => h
theorem Dv.step {p o ov : Int} {lss : List (List (List Tm))} {a b c : DS} (h : Dv p o ov lss a b) (k : dstep p o ov lss b = some c) : Dv p o ov lss a c := fun P h1 h2 => h2 b c (h P h1 h2) k
theorem Dv.ind {p o ov : Int} {lss : List (List (List Tm))} {a : DS} {motive : ∀ b, Dv p o ov lss a b → Prop} (refl : motive a (Dv.refl a)) (step : ∀ {b c} (h1 : Dv p o ov lss a b) (h2 : dstep p o ov lss b = some c), motive b h1 → motive c (h1.step h2)) {b : DS} (h : Dv p o ov lss a b) : motive b h := by
  have := h (fun b => ∃ h, motive b h) ⟨_, refl⟩ (fun b c ⟨h1, h2⟩ h3 => ⟨_, step h1 h3 h2⟩)
  exact this.2
theorem Dv.trans {p o ov : Int} {lss : List (List (List Tm))} {a b c : DS} (h : Dv p o ov lss a b) (k : Dv p o ov lss b c) : Dv p o ov lss a c := by
  induction k using Dv.ind with
  | refl => exact h
  | step _ h2 ih => exact Dv.step ih h2
theorem Dv.first {p o ov : Int} {lss : List (List (List Tm))} {a c : DS} (h : Dv p o ov lss a c) : a = c ∨ ∃ b, dstep p o ov lss a = some b ∧ Dv p o ov lss b c := by
  induction h using Dv.ind with
  | refl => exact Or.inl rfl
  | step h1 h2 ih =>
    rcases ih with rfl | ⟨b, hb, hd⟩
    · exact Or.inr ⟨_, h2, Dv.refl _⟩
    · exact Or.inr ⟨b, hb, Dv.step hd h2⟩
theorem Dv.linear {p o ov : Int} {lss : List (List (List Tm))} {a b c : DS} (h : Dv p o ov lss a b) (k : Dv p o ov lss a c) (he : dstep p o ov lss c = none) : Dv p o ov lss b c := by
  induction h using Dv.ind with
  | refl => exact k
  | step h1 h2 ih =>
    rcases (ih).first with rfl | ⟨d, hd, hc⟩
    · rw [he] at h2; simp at h2
    · rw [h2] at hd
      simp only [Option.some.injEq] at hd
      subst hd; exact hc
theorem Dv.pre {p o ov : Int} {lss : List (List (List Tm))} {a b : DS} (h : Dv p o ov lss a b) : b.q.length = a.q.length ∧ b.l.length = a.l.length ∧ (∀ i, a.q.getD i [] <+: b.q.getD i []) ∧ ∀ i, a.l.getD i [] <+: b.l.getD i [] := by
  have pset : ∀ (l : List (List Tm)) (j i : Nat) (x : Tm), l.getD i [] <+: (l.set j (l.getD j [] ++ [x])).getD i [] := by
    intro l j i x
    by_cases h : j = i
    · subst h
      by_cases h2 : j < l.length
      · simp [List.getD_eq_getElem?_getD, h2]
      · simp [List.getD_eq_getElem?_getD, h2]
    · simp [List.getD_eq_getElem?_getD, List.getElem?_set_ne h]
  induction h using Dv.ind with
  | refl => exact ⟨rfl, rfl, fun i => List.prefix_refl _, fun i => List.prefix_refl _⟩
  | step h1 h2 ih =>
    obtain ⟨i1, i2, i3, i4⟩ := ih
    unfold dstep at h2
    split at h2
    · simp at h2
    · split at h2
      · simp only [Option.some.injEq] at h2
        subst h2
        exact ⟨i1, by simp [i2], i3, fun i => (i4 i).trans (pset _ _ _ _)⟩
      · simp only [Option.some.injEq] at h2
        subst h2
        exact ⟨by simp [i1], i2, fun i => (i3 i).trans (pset _ _ _ _), i4⟩
def Dg (ov : Int) (i : Nat) : Int := if ov = 2 then 200 * ((i : Int) + 1) else 200
structure DInv (p o ov : Int) (N R : Nat) (lss : List (List (List Tm))) (s : DS) : Prop where
  vl : s.v.length = R
  ql : s.q.length = lss.length
  ll : s.l.length = R
  vok : Vok p o N (Dg ov) s.v
  lok : Vok p o N (Dg ov) s.l
  qok : ∀ i, Canon p o N (s.q.getD i []) ∧ (∀ t ∈ s.q.getD i [], ∀ x ∈ t.2, 0 ≤ x) ∧ ∀ t ∈ s.q.getD i [], sumI t.2 ≤ 8000
  lk : ∀ i, ∀ u ∈ s.l.getD i [], ∀ j, ∀ t ∈ s.v.getD j [], keyL o ov j t.2 < keyL o ov i u.2
  qk : ∀ i, ∀ u ∈ s.q.getD i [], ∀ k x, leadF o ov (lss.getD i []) (lss.getD i []).length = some (k, x) → ∀ j, ∀ t ∈ s.v.getD j [], keyL o ov j t.2 < keyL o ov k (zipI (· + ·) u.2 x.2)
structure LOk (p o : Int) (N R : Nat) (lss : List (List (List Tm))) : Prop where
  len : ∀ g ∈ lss, g.length = R
  ok : ∀ g ∈ lss, Vok p o N (fun _ => 200) g
theorem Dg_bd {ov : Int} {R : Nat} (hR : R ≤ 40) : ∀ i, i < R → 0 ≤ Dg ov i ∧ Dg ov i ≤ 8000 := by
  intro i hi; unfold Dg; split <;> omega
theorem sumI_zipA : ∀ (xs ys : List Int), xs.length = ys.length → sumI (zipI (· + ·) xs ys) = sumI xs + sumI ys
  | [], [], _ => by simp [zipI, sumI]
  | [], _ :: _, h => by simp at h
  | _ :: _, [], h => by simp at h
  | x :: xs, y :: ys, h => by simp only [zipI, sumI]; rw [sumI_zipA xs ys (by simpa using h)]; omega
theorem zip_nn : ∀ (xs ys : List Int), (∀ x ∈ xs, 0 ≤ x) → (∀ x ∈ ys, 0 ≤ x) → ∀ x ∈ zipI (· + ·) xs ys, 0 ≤ x
  | [], [], _, _ => by simp [zipI]
  | [], _ :: _, _, _ => by simp [zipI]
  | _ :: _, [], _, _ => by simp [zipI]
  | x :: xs, y :: ys, h, g => by
    intro z hz
    simp only [zipI, List.mem_cons] at hz
    rcases hz with rfl | hz
    · have := h x (by simp); have := g y (by simp); omega
    · exact zip_nn xs ys (fun a ha => h a (by simp [ha])) (fun a ha => g a (by simp [ha])) z hz
theorem over_ok : ∀ (xs ys : List Int), xs.length = ys.length → lackB xs ys = false → (zipI (· - ·) xs ys).length = ys.length ∧ (∀ x ∈ zipI (· - ·) xs ys, 0 ≤ x) ∧ zipI (· + ·) (zipI (· - ·) xs ys) ys = xs
  | [], [], _, _ => by simp [zipI]
  | [], _ :: _, h, _ => by simp at h
  | _ :: _, [], h, _ => by simp at h
  | x :: xs, y :: ys, h, g => by
    unfold lackB at g
    simp only [zipI, List.any_cons, Bool.or_eq_false_iff] at g
    obtain ⟨a, b, c⟩ := over_ok xs ys (by simpa using h) g.2
    have g1 : 0 ≤ x - y := by have := g.1; simp [negI] at this; omega
    refine ⟨by simp [zipI, a], fun z hz => ?_, by simp only [zipI, c, List.cons.injEq, and_true]; omega⟩
    simp only [zipI, List.mem_cons] at hz
    rcases hz with rfl | hz
    · exact g1
    · exact b z hz
structure RCx (p o ov : Int) (N R : Nat) : Prop where
  pr : errP p = 0
  o : o = 1 ∨ o = 2
  ov : ov = 1 ∨ ov = 2
  n0 : 0 < N
  n3 : N ≤ 3
  r : R ≤ 40
theorem getD_lt {α : Type} {l : List (List α)} {i : Nat} {t : α} (ht : t ∈ l.getD i []) : i < l.length := by
  apply Nat.lt_of_not_le; intro hle
  rw [List.getD_eq_getElem?_getD, List.getElem?_eq_none hle] at ht; simp at ht
theorem getD_mem_or {α : Type} (l : List (List α)) (i : Nat) : l.getD i [] = [] ∨ l.getD i [] ∈ l := by
  by_cases h : i < l.length
  · right; rw [List.getD_eq_getElem?_getD, List.getElem?_eq_getElem h]; exact List.getElem_mem h
  · left; rw [List.getD_eq_getElem?_getD, List.getElem?_eq_none (by omega)]; rfl
theorem dvd_small {p a : Int} (h : p ∣ a) (h1 : 1 ≤ a) (h2 : a < p) : False := by
  obtain ⟨k, hk⟩ := h
  have hp : 0 < p := by omega
  have : 0 < k := by
    apply Int.lt_of_not_ge; intro hle
    have := Int.mul_le_mul_of_nonneg_left hle (Int.le_of_lt hp)
    rw [Int.mul_zero] at this; omega
  have h3 := Int.mul_le_mul_of_nonneg_left (show 1 ≤ k by omega) (Int.le_of_lt hp)
  rw [Int.mul_one] at h3; omega
theorem keys_below {p o ov : Int} {N R : Nat} (hx : RCx p o ov N R) {D : Nat → Int} {v : List (List Tm)} (hv : Vok p o N D v) (hl : v.length = R) (hD : ∀ i, i < R → D i ≤ 16000) {K : Int} (h : ∀ k, K ≤ k → p ∣ cv o ov k v R) : ∀ i, ∀ u ∈ v.getD i [], keyL o ov i u.2 < K := by
  intro i u hu
  apply Int.lt_of_not_ge
  intro hge
  have hR := hx.r
  have hi := getD_lt hu
  have hc := cv_one hx.o hx.ov hx.n0 hx.n3 (by omega) hv (by rw [hl]; exact hD) hu hi v.length (Nat.le_refl _)
  rw [if_pos hi] at hc
  have h1 := h _ hge
  rw [← hl, hc] at h1
  have h2 := (hv.canon i).coef u hu
  exact dvd_small h1 h2.1 h2.2
theorem canon_snoc {p o : Int} {N : Nat} {t : Tm} (hl : t.2.length = N) (hc : 1 ≤ t.1 ∧ t.1 < p) : ∀ {f : List Tm}, Canon p o N f → (∀ u ∈ f, 0 < ordS o u.2 t.2) → Canon p o N (f ++ [t]) := by
  intro f hf h
  refine ⟨fun x hx => ?_, ?_, fun x hx => ?_⟩
  · rcases List.mem_append.1 hx with hx | hx
    · exact hf.len x hx
    · rw [List.mem_singleton] at hx; rw [hx]; exact hl
  · have := hf.falls
    clear hf
    induction f with
    | nil => exact ⟨fun u hu => by simp at hu, trivial⟩
    | cons y f ih =>
      refine ⟨fun u hu => ?_, ih (fun u hu => h u (by simp [hu])) this.2⟩
      rcases List.mem_append.1 hu with hu | hu
      · exact this.1 u hu
      · rw [List.mem_singleton] at hu; rw [hu]; exact h y (by simp)
  · rcases List.mem_append.1 hx with hx | hx
    · exact hf.coef x hx
    · rw [List.mem_singleton] at hx; rw [hx]; exact hc
theorem ord_of_add {o : Int} {N : Nat} {xs ys : List Int} (ho : o = 1 ∨ o = 2) (h0 : 0 < N) (h3 : N ≤ 3) (hx : Exq N xs) (hy : Exq N ys) (h : addK o ys < addK o xs) : 0 < ordS o xs ys := by
  rcases ord_key ho h0 h3 hx hy with h1 | h1 | h1
  · exact h1.1
  · omega
  · rw [h1.2] at h; omega
theorem ord_of_key {o ov : Int} {N : Nat} {i : Nat} {xs ys : List Int} (ho : o = 1 ∨ o = 2) (h0 : 0 < N) (h3 : N ≤ 3) (hx : Exq N xs) (hy : Exq N ys) (h : keyL o ov i ys < keyL o ov i xs) : 0 < ordS o xs ys :=
  ord_of_add ho h0 h3 hx hy (by unfold keyL at h; omega)
theorem sums_vok {p o : Int} {N : Nat} {D : Nat → Int} (hp : 2 ≤ p) {v w : List (List Tm)} (hl : v.length = w.length) (hv : Vok p o N D v) (hw : ∀ i, Okl p N (w.getD i []) ∧ ∀ t ∈ w.getD i [], (∀ x ∈ t.2, 0 ≤ x) ∧ sumI t.2 ≤ D i) : Vok p o N D (sums p o v w) := by
  have hat : ∀ i, (sums p o v w).getD i [] = colL p o (v.getD i [] ++ w.getD i []) := fun i => by
    by_cases hi : i < v.length
    · exact sums_at hl hi
    · have e1 : v.getD i [] = [] := by rw [List.getD_eq_getElem?_getD, List.getElem?_eq_none (by omega)]; rfl
      have e2 : w.getD i [] = [] := by rw [List.getD_eq_getElem?_getD, List.getElem?_eq_none (by omega)]; rfl
      rw [e1, e2, List.getD_eq_getElem?_getD, List.getElem?_eq_none (by rw [sums_len hl]; omega)]; rfl
  have hm : ∀ i, ∀ t ∈ (sums p o v w).getD i [], (∀ x ∈ t.2, 0 ≤ x) ∧ sumI t.2 ≤ D i := fun i t ht => by
    rw [hat] at ht
    obtain ⟨y, hy, e⟩ := col_mem ht
    rw [e]
    rcases List.mem_append.1 hy with hy | hy
    · exact ⟨hv.nn i y hy, hv.deg i y hy⟩
    · exact (hw i).2 y hy
  exact ⟨fun i => by rw [hat]; exact ((hv.canon i).okl.append (hw i).1).col hp, fun i t ht => (hm i t ht).1, fun i t ht => (hm i t ht).2⟩
theorem isDv_true {o ov : Int} {j : Nat} {e : List Int} {g : List (List Tm)} (h : isDv o ov j e g = true) : leadF o ov g g.length = some (j, ldT o ov g) ∧ lackB e (ldT o ov g).2 = false := by
  unfold isDv at h
  unfold ldT
  split at h
  · simp at h
  · rename_i k u hl
    simp only [Bool.and_eq_true, decide_eq_true_eq, Bool.not_eq_true'] at h
    rw [hl, h.1]
    exact ⟨rfl, h.2⟩
theorem dvI_some {o ov : Int} {lss : List (List (List Tm))} {j : Nat} {e : List Int} {i : Nat} (h : dvI o ov lss j e = some i) : i < lss.length ∧ lss.getD i [] ∈ lss ∧ isDv o ov j e (lss.getD i []) = true := by
  unfold dvI at h
  rw [List.findIdx?_eq_some_iff_getElem] at h
  obtain ⟨hi, h1, _⟩ := h
  have e1 : lss.getD i [] = lss[i] := by simp [List.getD_eq_getElem?_getD, hi]
  rw [e1]
  exact ⟨hi, List.getElem_mem hi, h1⟩
structure ByOk (p o ov : Int) (N R : Nat) (g : List (List Tm)) (j : Nat) (t u b : Tm) : Prop where
  lead : leadF o ov g g.length = some (j, u)
  mem : u ∈ g.getD j []
  bl : b.2.length = N
  bn : ∀ x ∈ b.2, 0 ≤ x
  bc : 1 ≤ b.1 ∧ b.1 < p
  add : zipI (· + ·) b.2 u.2 = t.2
  sum : sumI b.2 + sumI u.2 = sumI t.2
  un : 0 ≤ sumI u.2
  bs : 0 ≤ sumI b.2
  co : p ∣ t.1 + (p - b.1) * u.1
theorem sumI_nn : ∀ {xs : List Int}, (∀ x ∈ xs, 0 ≤ x) → 0 ≤ sumI xs
  | [], _ => by simp [sumI]
  | x :: xs, h => by
    simp only [sumI]
    have := h x (by simp)
    have := sumI_nn (xs := xs) fun y hy => h y (by simp [hy])
    omega
theorem by_ok {p o ov : Int} {N R : Nat} (hx : RCx p o ov N R) {lss : List (List (List Tm))} (hl : LOk p o N R lss) {j i : Nat} {t : Tm} (htl : t.2.length = N) (htc : 1 ≤ t.1 ∧ t.1 < p) (h : dvI o ov lss j t.2 = some i) :
    ByOk p o ov N R (lss.getD i []) j t (ldT o ov (lss.getD i [])) (byT p t (ldT o ov (lss.getD i []))) := by
  obtain ⟨_, hm, hd⟩ := dvI_some h
  obtain ⟨h1, h2⟩ := isDv_true hd
  generalize ldT o ov (lss.getD i []) = u at h1 h2
  obtain ⟨_, us, hus⟩ := leadF_at h1
  have hmem : u ∈ (lss.getD i []).getD j [] := by rw [hus]; simp
  have hok := hl.ok _ hm
  have hul := (hok.canon j).len u hmem
  have huc := (hok.canon j).coef u hmem
  have hun := hok.nn j u hmem
  obtain ⟨o1, o2, o3⟩ := over_ok t.2 u.2 (by rw [htl, hul]) h2
  obtain ⟨hp1, hp2⟩ := errP_bd hx.pr
  obtain ⟨i1, i2, i3⟩ := invI_ok hx.pr (show 0 < u.1 ∧ u.1 < p by omega)
  have hs : sumI (zipI (· - ·) t.2 u.2) + sumI u.2 = sumI t.2 := by rw [← sumI_zipA _ _ o1, o3]
  refine ⟨h1, hmem, by unfold byT; rw [o1, hul], o2, prime_mulI hx.pr htc.1 htc.2 i1 i2, o3, hs, sumI_nn hun, sumI_nn o2, ?_⟩
  unfold byT
  simp only
  obtain ⟨m, hm⟩ := modDvd p (t.1 * invI p u.1)
  have h4 := modDvd p (u.1 * invI p u.1)
  rw [i3] at h4
  obtain ⟨q, hq⟩ := h4
  refine ⟨u.1 - m * u.1 + q * t.1, ?_⟩
  have e1 : t.1 * invI p u.1 % p = p * m + t.1 * invI p u.1 := by omega
  have e2 : u.1 * invI p u.1 = 1 - p * q := by omega
  rw [e1]
  have e3 : (p - (p * m + t.1 * invI p u.1)) * u.1 = p * u.1 - p * (m * u.1) - t.1 * (u.1 * invI p u.1) := by grind
  rw [e3, e2]
  grind
theorem dg_le {ov : Int} {j m : Nat} (hov : ov = 1 ∨ ov = 2) (h : ov = 1 ∨ j < m) {a b : Int} (ha : a ≤ Dg ov j) (hb : b ≤ 200) (hab : ov = 1 → a + b ≤ 200) : a + b ≤ Dg ov m := by
  unfold Dg at *
  rcases hov with rfl | rfl
  · simp; exact hab rfl
  · simp at ha ⊢
    rcases h with h | h
    · simp at h
    · omega
theorem by_deg {p o ov : Int} {N R : Nat} (hx : RCx p o ov N R) {g : List (List Tm)} (hg : Vok p o N (fun _ => 200) g) (hgl : g.length = R) {j : Nat} {t u b : Tm} (hb : ByOk p o ov N R g j t u b) (ht : sumI t.2 ≤ Dg ov j) {m : Nat} {x : Tm} (hm : x ∈ g.getD m []) : sumI b.2 + sumI x.2 ≤ Dg ov m := by
  have hR := hx.r
  have hml := getD_lt hm
  have hk := (lead_key hx.o hx.ov hx.n0 hx.n3 (by omega) hg (fun _ _ => by omega) g.length (Nat.le_refl _)).2 j u hb.lead m hml x hm
  have xx := hg.exq (fun _ _ => by omega) hm
  have xu := hg.exq (fun _ _ => by omega) hb.mem
  have hjl := getD_lt hb.mem
  have hxd := hg.deg m x hm
  have h1 := hb.sum
  have h2 := hb.un
  have h3 := hb.bs
  have key : (ov = 1 ∨ m = j) → sumI x.2 ≤ sumI u.2 := by
    intro hc
    rcases hk with ⟨_, rfl⟩ | hk
    · omega
    · by_cases ho : 0 < ordS o x.2 u.2
      · have := key_ord (i := m) (j := j) hx.o hx.ov hx.n0 hx.n3 (by omega) (by omega) xx xu hc ho
        omega
      · have hz := ordS_zero o u.2 x.2 (by rw [xu.len, xx.len])
        have hn := ordS_neg o x.2 u.2
        by_cases h0 : ordS o u.2 x.2 = 0
        · rw [hz.1 h0]; omega
        · exact ordS_sum (show 0 < ordS o u.2 x.2 by omega)
  by_cases hc : m = j
  · have := key (Or.inr hc); subst hc; omega
  · rcases hx.ov with h | h
    · have := key (Or.inl h)
      refine dg_le hx.ov (Or.inl h) (j := j) (by omega) hxd fun _ => ?_
      unfold Dg at ht; rw [if_neg (by omega)] at ht; omega
    · have hlt : j < m := by
        rcases Nat.lt_trichotomy j m with h4 | h4 | h4
        · exact h4
        · exact absurd h4.symm hc
        · exfalso
          have := key_pl (i := m) (j := j) hx.o hx.ov hx.n0 hx.n3 (by omega) (by omega) xx xu (Or.inl h) h4
          rcases hk with ⟨h5, _⟩ | hk
          · omega
          · omega
      exact dg_le hx.ov (Or.inr hlt) (j := j) (by omega) hxd fun h5 => by omega
theorem lead_cv {p o ov : Int} {N R : Nat} (hx : RCx p o ov N R) {D : Nat → Int} {v : List (List Tm)} (hv : Vok p o N D v) (hl : v.length = R) (hD : ∀ i, i < R → D i ≤ 16000) {j : Nat} {t : Tm} (h : leadF o ov v v.length = some (j, t)) :
    t ∈ v.getD j [] ∧ j < R ∧ cv o ov (keyL o ov j t.2) v R = t.1 ∧ ∀ k, keyL o ov j t.2 < k → cv o ov k v R = 0 := by
  have hR := hx.r
  obtain ⟨hj, ts, e⟩ := leadF_at h
  have hm : t ∈ v.getD j [] := by rw [e]; simp
  have hk := (lead_key hx.o hx.ov hx.n0 hx.n3 (by omega) hv (by rw [hl]; exact hD) v.length (Nat.le_refl _)).2 j t h
  have hc := cv_one hx.o hx.ov hx.n0 hx.n3 (by omega) hv (by rw [hl]; exact hD) hm hj v.length (Nat.le_refl _)
  rw [if_pos hj, hl] at hc
  refine ⟨hm, by omega, hc, fun k hk2 => cv_zero fun i hi u hu => ?_⟩
  rcases hk i (by omega) u hu with ⟨rfl, rfl⟩ | h4 <;> omega
theorem dinv_step {p o ov : Int} {N R : Nat} (hx : RCx p o ov N R) {lss : List (List (List Tm))} (hl : LOk p o N R lss) {s s2 : DS} (h : DInv p o ov N R lss s) (hs : dstep p o ov lss s = some s2) :
    DInv p o ov N R lss s2 ∧ ∃ j t, leadF o ov s.v s.v.length = some (j, t) ∧ ∀ i, ∀ u ∈ s2.v.getD i [], keyL o ov i u.2 < keyL o ov j t.2 := by
  have hR := hx.r
  obtain ⟨hp1, hp2⟩ := errP_bd hx.pr
  have hD : ∀ i, i < R → Dg ov i ≤ 16000 := fun i hi => by have := (Dg_bd (ov := ov) hx.r i hi).2; omega
  unfold dstep at hs
  cases hld : leadF o ov s.v s.v.length with
  | none => rw [hld] at hs; simp at hs
  | some q =>
  obtain ⟨j, t⟩ := q
  rw [hld] at hs
  simp only at hs
  obtain ⟨htm, hj, hc1, hc2⟩ := lead_cv hx h.vok h.vl hD hld
  have htc := (h.vok.canon j).coef t htm
  have htl := (h.vok.canon j).len t htm
  have htn := h.vok.nn j t htm
  have htd := h.vok.deg j t htm
  have xt := h.vok.exq (by rw [h.vl]; exact hD) htm
  cases hdv : dvI o ov lss j t.2 with
  | none =>
    rw [hdv] at hs
    simp only [Option.some.injEq] at hs
    subst hs
    have hal : s.v.length = (atPl s.v.length j [(p - t.1, t.2)]).length := by simp [atPl]
    have hv2 : Vok p o N (Dg ov) (sums p o s.v (atPl s.v.length j [(p - t.1, t.2)])) := by
      refine sums_vok hp1 hal h.vok fun i => ?_
      rw [atPl_at (by rw [h.vl]; exact hj)]
      by_cases e : j = i
      · subst e
        rw [if_pos rfl]
        refine ⟨⟨fun x hx => ?_, fun x hx => ?_⟩, fun x hx => ?_⟩ <;> (rw [List.mem_singleton] at hx; subst hx)
        · exact htl
        · simp only; omega
        · exact ⟨htn, htd⟩
      · rw [if_neg e]
        exact ⟨⟨fun x hx => by simp at hx, fun x hx => by simp at hx⟩, fun x hx => by simp at hx⟩
    have hvl2 : (sums p o s.v (atPl s.v.length j [(p - t.1, t.2)])).length = R := by rw [sums_len hal, h.vl]
    have hkb : ∀ i, ∀ u ∈ (sums p o s.v (atPl s.v.length j [(p - t.1, t.2)])).getD i [], keyL o ov i u.2 < keyL o ov j t.2 := by
      refine keys_below hx hv2 hvl2 hD fun k hk => ?_
      obtain ⟨a, ha⟩ := cv_sums (p := p) (o := o) (ov := ov) (k := k) hal R (by rw [h.vl]; exact Nat.le_refl _)
      have hb := cv_atPl (o := o) (ov := ov) (k := k) (m := s.v.length) (j := j) (c := p - t.1) (e := t.2) (by rw [h.vl]; exact hj) R (by rw [h.vl]; exact Nat.le_refl _)
      by_cases e : keyL o ov j t.2 = k
      · rw [if_pos ⟨hj, e⟩] at hb
        rw [e] at hc1
        exact ⟨a + 1, by rw [Int.mul_add]; omega⟩
      · rw [if_neg fun h => e h.2] at hb
        rw [hc2 k (by omega)] at ha
        exact ⟨a, by omega⟩
    refine ⟨⟨hvl2, h.ql, by simp [h.ll], hv2, ?_, h.qok, fun i u hu j2 t2 ht2 => ?_, fun i u hu k x hkx j2 t2 ht2 => ?_⟩, j, t, rfl, hkb⟩
    · have hat : ∀ i, (s.l.set j (s.l.getD j [] ++ [t])).getD i [] = if j = i ∧ i < s.l.length then s.l.getD j [] ++ [t] else s.l.getD i [] := fun i => getD_set _ _ _ _ _
      refine ⟨fun i => ?_, fun i x hx => ?_, fun i x hx => ?_⟩
      · rw [hat]
        split
        · refine canon_snoc htl htc (h.lok.canon j) fun u hu => ?_
          exact ord_of_key (ov := ov) (i := j) hx.o hx.n0 hx.n3 (h.lok.exq (by rw [h.ll]; exact hD) hu) xt (h.lk j u hu j t htm)
        · exact h.lok.canon i
      · rw [hat] at hx
        split at hx
        · rcases List.mem_append.1 hx with hx | hx
          · exact h.lok.nn j x hx
          · rw [List.mem_singleton] at hx; subst hx; exact htn
        · exact h.lok.nn i x hx
      · rw [hat] at hx
        split at hx
        · rename_i e
          rw [← e.1]
          rcases List.mem_append.1 hx with hx | hx
          · exact h.lok.deg j x hx
          · rw [List.mem_singleton] at hx; subst hx; exact htd
        · exact h.lok.deg i x hx
    · have hk := hkb j2 t2 ht2
      simp only [getD_set] at hu
      split at hu
      · rename_i e
        rw [← e.1]
        rcases List.mem_append.1 hu with hu | hu
        · have := h.lk j u hu j t htm; omega
        · rw [List.mem_singleton] at hu; subst hu; exact hk
      · have := h.lk i u hu j t htm; omega
    · have hk := hkb j2 t2 ht2
      have := h.qk i u hu k x hkx j t htm; omega
  | some i =>
    rw [hdv] at hs
    simp only [Option.some.injEq] at hs
    have hby := by_ok hx hl htl htc hdv
    obtain ⟨hil, hgm, _⟩ := dvI_some hdv
    generalize ldT o ov (lss.getD i []) = u at hby hs
    generalize byT p t u = b at hby hs
    subst hs
    have hg := hl.ok _ hgm
    have hgl := hl.len _ hgm
    have hal : s.v.length = (prods p o [(p - b.1, b.2)] (lss.getD i [])).length := by unfold prods; rw [List.length_map, hgl, h.vl]
    have hpat : ∀ m, (prods p o [(p - b.1, b.2)] (lss.getD i [])).getD m [] = colL p o (prodT p (p - b.1, b.2) ((lss.getD i []).getD m [])) := fun m => by
      by_cases hm : m < (lss.getD i []).length
      · unfold prods; rw [getD_mapL _ _ _ hm]; simp [prodL]
      · have e1 : (lss.getD i []).getD m [] = [] := by rw [List.getD_eq_getElem?_getD (l := lss.getD i []), List.getElem?_eq_none (by omega)]; rfl
        rw [e1, List.getD_eq_getElem?_getD, List.getElem?_eq_none (by unfold prods; rw [List.length_map]; omega)]; rfl
    have hv2 : Vok p o N (Dg ov) (sums p o s.v (prods p o [(p - b.1, b.2)] (lss.getD i []))) := by
      refine sums_vok hp1 hal h.vok fun m => ?_
      rw [hpat]
      have hok : Okl p N (prodT p (p - b.1, b.2) ((lss.getD i []).getD m [])) := by
        refine ⟨fun x hx => ?_, fun x hx => ?_⟩ <;> (simp only [prodT, List.mem_map] at hx; obtain ⟨y, hy, rfl⟩ := hx)
        · simp only; rw [zipI_len _ _ _ (by rw [hby.bl, (hg.canon m).len y hy])]; exact hby.bl
        · exact ⟨Int.emod_nonneg _ (by omega), Int.emod_lt_of_pos _ (by omega)⟩
      refine ⟨(hok.col (o := o) hp1).okl, fun x hx2 => ?_⟩
      obtain ⟨y, hy, e⟩ := col_mem hx2
      simp only [prodT, List.mem_map] at hy
      obtain ⟨z, hz, rfl⟩ := hy
      rw [e]
      simp only
      refine ⟨zip_nn _ _ hby.bn (hg.nn m z hz), ?_⟩
      rw [sumI_zipA _ _ (by rw [hby.bl, (hg.canon m).len z hz])]
      exact by_deg hx hg hgl hby htd hz
    have hvl2 : (sums p o s.v (prods p o [(p - b.1, b.2)] (lss.getD i []))).length = R := by rw [sums_len hal, h.vl]
    have hul := (hg.canon j).len u hby.mem
    have hkt : keyL o ov j t.2 = keyL o ov j u.2 + addK o b.2 := by rw [← hby.add, key_zip hx.n3 hby.bl hul]
    have hkb : ∀ m, ∀ x ∈ (sums p o s.v (prods p o [(p - b.1, b.2)] (lss.getD i []))).getD m [], keyL o ov m x.2 < keyL o ov j t.2 := by
      refine keys_below hx hv2 hvl2 hD fun k hk => ?_
      obtain ⟨a, ha⟩ := cv_sums (p := p) (o := o) (ov := ov) (k := k) hal R (by rw [h.vl]; exact Nat.le_refl _)
      obtain ⟨c, hc⟩ := cv_prods (p := p) (o := o) (ov := ov) (k := k) (N := N) hx.n3 (c := p - b.1) (e := b.2) hby.bl (gss := lss.getD i []) (fun m => (hg.canon m).len) R (by rw [hgl]; exact Nat.le_refl _)
      obtain ⟨_, _, g1, g2⟩ := lead_cv hx hg hgl (fun _ _ => by omega) hby.lead
      by_cases e : k = keyL o ov j t.2
      · rw [show k - addK o b.2 = keyL o ov j u.2 by omega, g1] at hc
        rw [← e] at hc1
        obtain ⟨d, hd⟩ := hby.co
        exact ⟨a + c + d, by rw [Int.mul_add, Int.mul_add]; omega⟩
      · rw [g2 (k - addK o b.2) (by omega), Int.mul_zero] at hc
        rw [hc2 k (by omega)] at ha
        exact ⟨a + c, by rw [Int.mul_add]; omega⟩
    have hbd : sumI b.2 ≤ 8000 := by
      have := hby.sum; have := hby.un; have := (Dg_bd (ov := ov) hx.r j hj).2; omega
    have xb : Exq N b.2 := ⟨hby.bl, hby.bn, by omega⟩
    refine ⟨⟨hvl2, by simp [h.ql], h.ll, hv2, h.lok, fun m => ?_, fun m x hx j2 t2 ht2 => ?_, fun m w hw k x hkx j2 t2 ht2 => ?_⟩, j, t, rfl, hkb⟩
    · rw [getD_set]
      split
      · obtain ⟨q1, q2, q3⟩ := h.qok i
        refine ⟨canon_snoc hby.bl hby.bc q1 fun w hw => ?_, fun x hx => ?_, fun x hx => ?_⟩
        · have hk := h.qk i w hw j u hby.lead j t htm
          rw [key_zip hx.n3 (q1.len w hw) hul, hkt] at hk
          exact ord_of_add hx.o hx.n0 hx.n3 ⟨q1.len w hw, q2 w hw, by have := q3 w hw; omega⟩ xb (by omega)
        · rcases List.mem_append.1 hx with hx | hx
          · exact q2 x hx
          · rw [List.mem_singleton] at hx; subst hx; exact hby.bn
        · rcases List.mem_append.1 hx with hx | hx
          · exact q3 x hx
          · rw [List.mem_singleton] at hx; subst hx; exact hbd
      · exact h.qok m
    · have hk := hkb j2 t2 ht2
      have := h.lk m x hx j t htm; omega
    · have hk := hkb j2 t2 ht2
      simp only [getD_set] at hw
      split at hw
      · rename_i e
        rw [← e.1] at hkx
        rcases List.mem_append.1 hw with hw | hw
        · have := h.qk i w hw k x hkx j t htm; omega
        · rw [List.mem_singleton] at hw; subst hw
          rw [hby.lead] at hkx
          simp only [Option.some.injEq, Prod.mk.injEq] at hkx
          obtain ⟨rfl, rfl⟩ := hkx
          rw [hby.add]; exact hk
      · have := h.qk m w hw k x hkx j t htm; omega
def dms (o ov : Int) (v : List (List Tm)) : Nat :=
  match leadF o ov v v.length with
  | none => 0
  | some (j, t) => (keyL o ov j t.2 + 1).toNat
theorem dms_lt {p o ov : Int} {N R : Nat} (hx : RCx p o ov N R) {lss : List (List (List Tm))} (hl : LOk p o N R lss) {s s2 : DS} (h : DInv p o ov N R lss s) (hs : dstep p o ov lss s = some s2) : dms o ov s2.v < dms o ov s.v := by
  obtain ⟨h2, j, t, hld, hk⟩ := dinv_step hx hl h hs
  have hR := hx.r
  have hD : ∀ i, i < R → Dg ov i ≤ 16000 := fun i hi => by have := (Dg_bd (ov := ov) hx.r i hi).2; omega
  have hpos : ∀ {j : Nat} {t : Tm}, j < R → Exq N t.2 → 0 ≤ keyL o ov j t.2 := fun {j t} hj hq => by
    have := addK_bd hx.o hx.n0 hx.n3 hq
    unfold keyL stK; split <;> omega
  obtain ⟨htm, hj, _, _⟩ := lead_cv hx h.vok h.vl hD hld
  have h0 := hpos hj (h.vok.exq (by rw [h.vl]; exact hD) htm)
  unfold dms
  rw [hld]
  simp only
  cases hl2 : leadF o ov s2.v s2.v.length with
  | none => simp only; omega
  | some q =>
    obtain ⟨j2, t2⟩ := q
    obtain ⟨htm2, hj2, _, _⟩ := lead_cv hx h2.vok h2.vl hD hl2
    have h1 := hpos hj2 (h2.vok.exq (by rw [h2.vl]; exact hD) htm2)
    have h3 := hk j2 t2 htm2
    simp only; omega
end Go.Proofs.YtilogbggilchaaaGreat
