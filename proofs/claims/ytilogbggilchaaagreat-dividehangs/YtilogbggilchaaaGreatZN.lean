/- Keys of the terms of vectors, and what a vector has of a key: plain mathematics. -/
import Derived.Test.YtilogbggilchaaaGreatZL
import Derived.Test.YtilogbggilchaaaGreatWH
import Derived.Test.YtilogbggilchaaaGreatRC
namespace Go.Proofs.YtilogbggilchaaaGreat
set_option linter.unusedSimpArgs false
set_option linter.unusedVariables false
open Go.RowKit
theorem addK_bd {o : Int} {N : Nat} {xs : List Int} (ho : o = 1 ∨ o = 2) (h0 : 0 < N) (h3 : N ≤ 3) (hx : Exq N xs) : 0 ≤ addK o xs ∧ addK o xs < 1125899906842624 := by
  obtain ⟨lx, nx, dx⟩ := hx
  unfold addK W0 W1 W2
  rcases len3 (xs := xs) (by omega) (by omega) with ⟨a, rfl⟩ | ⟨a, b, rfl⟩ | ⟨a, b, c, rfl⟩
  · have := nx a (by simp)
    simp only [sumI] at dx
    rcases ho with rfl | rfl <;> simp <;> omega
  · have := nx a (by simp)
    have := nx b (by simp)
    simp only [sumI] at dx
    rcases ho with rfl | rfl <;> simp <;> omega
  · have := nx a (by simp)
    have := nx b (by simp)
    have := nx c (by simp)
    simp only [sumI] at dx
    rcases ho with rfl | rfl <;> simp <;> omega
theorem key_ord {o ov : Int} {N : Nat} {i j : Nat} {xs ys : List Int} (ho : o = 1 ∨ o = 2) (hov : ov = 1 ∨ ov = 2) (h0 : 0 < N) (h3 : N ≤ 3) (hi : i < 256) (hj : j < 256) (hx : Exq N xs) (hy : Exq N ys) (h : ov = 1 ∨ i = j) (hm : 0 < ordS o xs ys) : keyL o ov j ys < keyL o ov i xs := by
  have hk := ord_key ho h0 h3 hx hy
  unfold keyL stK
  rcases hk with h1 | h1 | h1
  · rcases hov with rfl | rfl
    · simp; omega
    · rcases h with h | h
      · simp at h
      · subst h; simp; omega
  · omega
  · omega
theorem key_pl {o ov : Int} {N : Nat} {i j : Nat} {xs ys : List Int} (ho : o = 1 ∨ o = 2) (hov : ov = 1 ∨ ov = 2) (h0 : 0 < N) (h3 : N ≤ 3) (hi : i < 256) (hj : j < 256) (hx : Exq N xs) (hy : Exq N ys) (h : ov = 2 ∨ xs = ys) (hm : i < j) : keyL o ov j ys < keyL o ov i xs := by
  have h1 := addK_bd ho h0 h3 hx
  have h2 := addK_bd ho h0 h3 hy
  unfold keyL stK
  rcases hov with rfl | rfl
  · rcases h with h | h
    · simp at h
    · subst h; simp; omega
  · simp; omega
theorem key_inj {o ov : Int} {N : Nat} {i j : Nat} {xs ys : List Int} (ho : o = 1 ∨ o = 2) (hov : ov = 1 ∨ ov = 2) (h0 : 0 < N) (h3 : N ≤ 3) (hi : i < 256) (hj : j < 256) (hx : Exq N xs) (hy : Exq N ys) (h : keyL o ov i xs = keyL o ov j ys) : i = j ∧ xs = ys := by
  have hz := ordS_zero o xs ys (by rw [hx.len, hy.len])
  have hn := ordS_neg o xs ys
  rcases Nat.lt_trichotomy i j with hl | hl | hl
  · exfalso
    by_cases h1 : ov = 2 ∨ xs = ys
    · have := key_pl ho hov h0 h3 hi hj hx hy h1 hl; omega
    · have h2 : ov = 1 := by rcases hov with h | h <;> simp_all
      by_cases h4 : 0 < ordS o xs ys
      · have := key_ord ho hov h0 h3 hi hj hx hy (Or.inl h2) h4; omega
      · have h5 : ordS o xs ys ≠ 0 := fun e => h1 (Or.inr (hz.1 e))
        have := key_ord ho hov h0 h3 hj hi hy hx (Or.inl h2) (by omega); omega
  · subst hl
    refine ⟨rfl, ?_⟩
    by_cases h4 : 0 < ordS o xs ys
    · have := key_ord ho hov h0 h3 hi hj hx hy (Or.inr rfl) h4; omega
    · by_cases h5 : ordS o xs ys = 0
      · exact hz.1 h5
      · have := key_ord ho hov h0 h3 hj hi hy hx (Or.inr rfl) (by omega); omega
  · exfalso
    by_cases h1 : ov = 2 ∨ xs = ys
    · have := key_pl ho hov h0 h3 hj hi hy hx (h1.imp id Eq.symm) hl; omega
    · have h2 : ov = 1 := by rcases hov with h | h <;> simp_all
      by_cases h4 : 0 < ordS o xs ys
      · have := key_ord ho hov h0 h3 hi hj hx hy (Or.inl h2) h4; omega
      · have h5 : ordS o xs ys ≠ 0 := fun e => h1 (Or.inr (hz.1 e))
        have := key_ord ho hov h0 h3 hj hi hy hx (Or.inl h2) (by omega); omega

structure Vok (p o : Int) (N : Nat) (D : Nat → Int) (fss : List (List Tm)) : Prop where
  canon : ∀ i, Canon p o N (fss.getD i [])
  nn : ∀ i, ∀ t ∈ fss.getD i [], ∀ x ∈ t.2, 0 ≤ x
  deg : ∀ i, ∀ t ∈ fss.getD i [], sumI t.2 ≤ D i
theorem Vok.exq {p o : Int} {N : Nat} {D : Nat → Int} {fss : List (List Tm)} (h : Vok p o N D fss) (hD : ∀ i, i < fss.length → D i ≤ 16000) {i : Nat} {t : Tm} (ht : t ∈ fss.getD i []) : Exq N t.2 := by
  have hi : i < fss.length := by
    apply Nat.lt_of_not_le; intro hle
    rw [List.getD_eq_getElem?_getD, List.getElem?_eq_none hle] at ht; simp at ht
  exact ⟨(h.canon i).len t ht, h.nn i t ht, Int.le_trans (h.deg i t ht) (hD i hi)⟩
theorem lead_key {p o ov : Int} {N : Nat} {D : Nat → Int} {fss : List (List Tm)} (ho : o = 1 ∨ o = 2) (hov : ov = 1 ∨ ov = 2) (h0 : 0 < N) (h3 : N ≤ 3) (hR : fss.length < 256) (h : Vok p o N D fss) (hD : ∀ i, i < fss.length → D i ≤ 16000) : ∀ (n : Nat), n ≤ fss.length →
    (leadF o ov fss n = none → ∀ i, i < n → fss.getD i [] = []) ∧ (∀ j u, leadF o ov fss n = some (j, u) → ∀ i, i < n → ∀ t ∈ fss.getD i [], (i = j ∧ t = u) ∨ keyL o ov i t.2 < keyL o ov j u.2)
  | 0, _ => ⟨fun _ i hi => by omega, fun j u h => by simp [leadF] at h⟩
  | n + 1, hn => by
    obtain ⟨a1, a2⟩ := lead_key ho hov h0 h3 hR h hD n (by omega)
    have hc := h.canon n
    simp only [leadF]
    cases hf : fss.getD n [] with
    | nil =>
      simp only [leadStep]
      refine ⟨fun e i hi => ?_, fun j u e i hi t ht => ?_⟩
      · rcases Nat.lt_succ_iff_lt_or_eq.1 hi with hl | rfl
        · exact a1 e i hl
        · exact hf
      · rcases Nat.lt_succ_iff_lt_or_eq.1 hi with hl | rfl
        · exact a2 j u e i hl t ht
        · rw [hf] at ht; simp at ht
    | cons t0 ts =>
      rw [hf] at hc
      have m0 : t0 ∈ fss.getD n [] := by rw [hf]; simp
      have x0 := h.exq hD m0
      have hself : ∀ t ∈ fss.getD n [], (n = n ∧ t = t0) ∨ keyL o ov n t.2 < keyL o ov n t0.2 := fun t ht => by
        have xt := h.exq hD ht
        rw [hf] at ht
        rcases List.mem_cons.1 ht with rfl | ht
        · exact Or.inl ⟨rfl, rfl⟩
        · exact Or.inr (key_ord ho hov h0 h3 (by omega) (by omega) x0 xt (Or.inr rfl) (hc.falls.1 t ht))
      cases hs : leadF o ov fss n with
      | none =>
        simp only [leadStep]
        refine ⟨fun e => by simp at e, fun j u e i hi t ht => ?_⟩
        simp only [Option.some.injEq, Prod.mk.injEq] at e
        obtain ⟨rfl, rfl⟩ := e
        rcases Nat.lt_succ_iff_lt_or_eq.1 hi with hl | rfl
        · rw [a1 hs i hl] at ht; simp at ht
        · exact hself t ht
      | some q =>
        obtain ⟨j0, u0⟩ := q
        obtain ⟨hj0, us, hu0⟩ := leadF_at hs
        have mu : u0 ∈ fss.getD j0 [] := by rw [hu0]; simp
        have xu := h.exq hD mu
        simp only [leadStep]
        by_cases hc1 : ov = 1 ∧ 0 < ordS o t0.2 u0.2
        · rw [if_pos hc1]
          refine ⟨fun e => by simp at e, fun j u e i hi t ht => ?_⟩
          simp only [Option.some.injEq, Prod.mk.injEq] at e
          obtain ⟨rfl, rfl⟩ := e
          have hk := key_ord (i := n) (j := j0) ho hov h0 h3 (by omega) (by omega) x0 xu (Or.inl hc1.1) hc1.2
          rcases Nat.lt_succ_iff_lt_or_eq.1 hi with hl | rfl
          · rcases a2 j0 u0 hs i hl t ht with ⟨rfl, rfl⟩ | h2
            · exact Or.inr hk
            · exact Or.inr (by omega)
          · exact hself t ht
        · rw [if_neg hc1]
          refine ⟨fun e => by simp at e, fun j u e i hi t ht => ?_⟩
          simp only [Option.some.injEq, Prod.mk.injEq] at e
          obtain ⟨rfl, rfl⟩ := e
          have hk : keyL o ov n t0.2 < keyL o ov j0 u0.2 := by
            by_cases h2 : ov = 2 ∨ u0.2 = t0.2
            · exact key_pl ho hov h0 h3 (by omega) (by omega) xu x0 h2 hj0
            · have h4 : ov = 1 := by rcases hov with h | h <;> simp_all
              have hz := ordS_zero o u0.2 t0.2 (by rw [xu.len, x0.len])
              have hneg := ordS_neg o u0.2 t0.2
              have h5 : ordS o u0.2 t0.2 ≠ 0 := fun e => h2 (Or.inr (hz.1 e))
              exact key_ord ho hov h0 h3 (by omega) (by omega) xu x0 (Or.inl h4) (by have : ¬ 0 < ordS o t0.2 u0.2 := fun h => hc1 ⟨h4, h⟩; omega)
          rcases Nat.lt_succ_iff_lt_or_eq.1 hi with hl | rfl
          · exact a2 j0 u0 hs i hl t ht
          · rcases hself t ht with ⟨_, rfl⟩ | h2
            · exact Or.inr hk
            · exact Or.inr (by omega)
def kd (o ov : Int) (i : Nat) (k : Int) : List Int → Int := fun xs => if keyL o ov i xs = k then 1 else 0
def cv (o ov k : Int) (fss : List (List Tm)) : Nat → Int
  | 0 => 0
  | i + 1 => cv o ov k fss i + lin (kd o ov i k) (fss.getD i [])
theorem lin_none {φ : List Int → Int} : ∀ {ts : List Tm}, (∀ t ∈ ts, φ t.2 = 0) → lin φ ts = 0
  | [], _ => rfl
  | t :: ts, h => by
    simp only [lin]
    rw [h t (by simp), lin_none fun u hu => h u (by simp [hu])]; simp
theorem lin_one {φ : List Int → Int} {u : Tm} : ∀ {ts : List Tm}, u ∈ ts → φ u.2 = 1 → ts.Nodup → (∀ t ∈ ts, t = u ∨ φ t.2 = 0) → lin φ ts = u.1
  | [], h, _, _, _ => by simp at h
  | t :: ts, h, h1, hn, h2 => by
    obtain ⟨n1, n2⟩ := List.nodup_cons.1 hn
    simp only [lin]
    rcases List.mem_cons.1 h with rfl | h
    · rw [h1, lin_none fun x hx => ?_]
      · omega
      · rcases h2 x (by simp [hx]) with rfl | h3
        · exact absurd hx n1
        · exact h3
    · rcases h2 t (by simp) with rfl | h3
      · exact absurd h n1
      · rw [h3, lin_one h h1 n2 fun x hx => h2 x (by simp [hx])]; omega
theorem canon_nodup {p o : Int} {N : Nat} {ts : List Tm} (h : Canon p o N ts) : ts.Nodup := by
  induction ts with
  | nil => exact List.nodup_nil
  | cons t ts ih =>
    refine List.nodup_cons.2 ⟨fun hm => falls_ne h.len h.falls t hm rfl, ih ⟨fun x hx => h.len x (by simp [hx]), h.falls.2, fun x hx => h.coef x (by simp [hx])⟩⟩
theorem cv_zero {o ov k : Int} {fss : List (List Tm)} : ∀ {n : Nat}, (∀ i, i < n → ∀ t ∈ fss.getD i [], keyL o ov i t.2 ≠ k) → cv o ov k fss n = 0
  | 0, _ => rfl
  | n + 1, h => by
    rw [cv, cv_zero fun i hi => h i (by omega), lin_none fun t ht => ?_]; · rfl
    unfold kd; rw [if_neg (h n (by omega) t ht)]
theorem cv_one {p o ov : Int} {N : Nat} {D : Nat → Int} {fss : List (List Tm)} (ho : o = 1 ∨ o = 2) (hov : ov = 1 ∨ ov = 2) (h0 : 0 < N) (h3 : N ≤ 3) (hR : fss.length < 256) (h : Vok p o N D fss) (hD : ∀ i, i < fss.length → D i ≤ 16000) {j : Nat} {u : Tm} (hu : u ∈ fss.getD j []) (hj : j < fss.length) :
    ∀ n, n ≤ fss.length → cv o ov (keyL o ov j u.2) fss n = if j < n then u.1 else 0
  | 0, _ => by simp [cv]
  | n + 1, hn => by
    have ih := cv_one ho hov h0 h3 hR h hD hu hj n (by omega)
    rw [cv, ih]
    have xu := h.exq hD hu
    by_cases e : n = j
    · subst e
      rw [if_neg (by omega), if_pos (by omega), lin_one hu (by unfold kd; rw [if_pos rfl]) (canon_nodup (h.canon n)) fun t ht => ?_]
      · omega
      · by_cases ek : keyL o ov n t.2 = keyL o ov n u.2
        · have h4 := key_inj ho hov h0 h3 (by omega) (by omega) (h.exq hD ht) xu ek
          left
          have hc := h.canon n
          have key : ∀ (ts : List Tm), Canon p o N ts → t ∈ ts → u ∈ ts → t = u := by
            intro ts
            induction ts with
            | nil => intro _ ht; simp at ht
            | cons x ts ih =>
              intro hc ht hu
              have hne := falls_ne hc.len hc.falls
              rcases List.mem_cons.1 ht with rfl | ht
              · rcases List.mem_cons.1 hu with rfl | hu
                · rfl
                · exact absurd h4.2.symm (hne u hu)
              · rcases List.mem_cons.1 hu with rfl | hu
                · exact absurd h4.2 (falls_ne hc.len hc.falls t ‹_›)
                · exact ih ⟨fun x hx => hc.len x (by simp [hx]), hc.falls.2, fun x hx => hc.coef x (by simp [hx])⟩ ht hu
          exact key _ hc ht hu
        · right; unfold kd; rw [if_neg ek]
    · rw [lin_none fun t ht => ?_]
      · by_cases h4 : j < n
        · rw [if_pos h4, if_pos (by omega)]; omega
        · rw [if_neg h4, if_neg (by omega)]; omega
      · unfold kd
        rw [if_neg fun ek => e (key_inj ho hov h0 h3 (by omega) (by omega) (h.exq hD ht) xu ek).1]
theorem cv_sums {p o ov k : Int} {fss gss : List (List Tm)} (hl : fss.length = gss.length) : ∀ n, n ≤ fss.length → p ∣ cv o ov k (sums p o fss gss) n - (cv o ov k fss n + cv o ov k gss n)
  | 0, _ => ⟨0, by simp [cv]⟩
  | n + 1, hn => by
    obtain ⟨a, ha⟩ := cv_sums (p := p) (o := o) (ov := ov) (k := k) hl n (by omega)
    simp only [cv]
    rw [sums_at hl (by omega)]
    obtain ⟨b, hb⟩ := lin_col p o (kd o ov n k) (fss.getD n [] ++ gss.getD n [])
    rw [lin_append] at hb
    exact ⟨a + b, by rw [Int.mul_add]; omega⟩
theorem addK_zip {o : Int} {N : Nat} {xs ys : List Int} (h3 : N ≤ 3) (hx : xs.length = N) (hy : ys.length = N) : addK o (zipI (· + ·) xs ys) = addK o xs + addK o ys := by
  unfold addK
  match xs, ys, hx, hy with
  | [], [], _, _ => simp [zipI]
  | [a], [x], _, _ => simp [zipI]; grind
  | [a, b], [x, y], _, _ => simp [zipI]; grind
  | [a, b, c], [x, y, z], _, _ => simp [zipI]; grind
  | _ :: _ :: _ :: _ :: _, _, h, _ => simp at h; omega
  | [], _ :: _, h, g => simp at h g; omega
  | [_], [], h, g => simp at h g; omega
  | [_], _ :: _ :: _, h, g => simp at h g; omega
  | [_, _], [], h, g => simp at h g; omega
  | [_, _], [_], h, g => simp at h g; omega
  | [_, _], _ :: _ :: _ :: _, h, g => simp at h g; omega
  | [_, _, _], [], h, g => simp at h g; omega
  | [_, _, _], [_], h, g => simp at h g; omega
  | [_, _, _], [_, _], h, g => simp at h g; omega
  | [_, _, _], _ :: _ :: _ :: _ :: _, h, g => simp at h g; omega
theorem key_zip {o ov : Int} {N i : Nat} {xs ys : List Int} (h3 : N ≤ 3) (hx : xs.length = N) (hy : ys.length = N) : keyL o ov i (zipI (· + ·) xs ys) = keyL o ov i ys + addK o xs := by
  unfold keyL; rw [addK_zip h3 hx hy]; omega
theorem cv_prods {p o ov k : Int} {N : Nat} (h3 : N ≤ 3) {c : Int} {e : List Int} (he : e.length = N) {gss : List (List Tm)} (hg : ∀ i, Len N (gss.getD i [])) : ∀ n, n ≤ gss.length → p ∣ cv o ov k (prods p o [(c, e)] gss) n - c * cv o ov (k - addK o e) gss n
  | 0, _ => ⟨0, by simp [cv]⟩
  | n + 1, hn => by
    obtain ⟨a, ha⟩ := cv_prods (p := p) (o := o) (ov := ov) (k := k) h3 (c := c) he hg n (by omega)
    simp only [cv]
    have e1 : (prods p o [(c, e)] gss).getD n [] = colL p o (prodL p [(c, e)] (gss.getD n [])) := by
      unfold prods; rw [getD_mapL _ _ _ (by omega)]
    rw [e1]
    obtain ⟨b, hb⟩ := lin_col p o (kd o ov n k) (prodL p [(c, e)] (gss.getD n []))
    have e2 : prodL p [(c, e)] (gss.getD n []) = prodT p (c, e) (gss.getD n []) := by simp [prodL]
    rw [e2] at hb ⊢
    obtain ⟨d, hd⟩ := lin_prodT p (kd o ov n k) (c, e) (gss.getD n [])
    have e3 : lin (fun b => kd o ov n k (zipI (· + ·) e b)) (gss.getD n []) = lin (kd o ov n (k - addK o e)) (gss.getD n []) := lin_congr fun t ht => by
      unfold kd
      rw [key_zip h3 he (hg n t ht)]
      by_cases h : keyL o ov n t.2 = k - addK o e
      · rw [if_pos (by omega), if_pos h]
      · rw [if_neg (by omega), if_neg h]
    simp only at hd
    rw [e3] at hd
    rw [Int.mul_add]
    exact ⟨a + b + d, by rw [Int.mul_add, Int.mul_add]; omega⟩
def atPl (n j : Nat) (f : List Tm) : List (List Tm) := (List.replicate n []).set j f
theorem atPl_at {n j i : Nat} {f : List Tm} (hj : j < n) : (atPl n j f).getD i [] = if j = i then f else [] := by
  unfold atPl
  by_cases h : j = i
  · subst h; rw [if_pos rfl]; simp [List.getD_eq_getElem?_getD, hj]
  · rw [if_neg h]
    rw [List.getD_eq_getElem?_getD, List.getElem?_set_ne h]
    by_cases h2 : i < n
    · simp [h2]
    · simp [List.getElem?_eq_none, h2]
theorem cv_atPl {o ov k : Int} {m j : Nat} {c : Int} {e : List Int} (hj : j < m) : ∀ n, n ≤ m → cv o ov k (atPl m j [(c, e)]) n = if j < n ∧ keyL o ov j e = k then c else 0
  | 0, _ => by simp [cv]
  | n + 1, hn => by
    rw [cv, cv_atPl hj n (by omega), atPl_at hj]
    by_cases h : j = n
    · subst h
      rw [if_pos rfl, if_neg (by omega)]
      by_cases hk : keyL o ov j e = k
      · rw [if_pos ⟨by omega, hk⟩]; simp [lin, kd, hk]
      · rw [if_neg fun h => hk h.2]; simp [lin, kd, hk]
    · rw [if_neg h]
      simp only [lin]
      by_cases h2 : j < n ∧ keyL o ov j e = k
      · rw [if_pos h2, if_pos ⟨by omega, h2.2⟩]; omega
      · rw [if_neg h2, if_neg fun h4 => h2 ⟨by omega, h4.2⟩]; omega
end Go.Proofs.YtilogbggilchaaaGreat
