/- The program beside the reference: rows that add up to a vector; the next term is the lead. -/
import Derived.Test.YtilogbggilchaaaGreatZO
import Derived.Test.YtilogbggilchaaaGreatZG
namespace Go.Proofs.YtilogbggilchaaaGreat
set_option linter.unusedSimpArgs false
set_option linter.unusedVariables false
open Go.RowKit
def exs (N : Nat) (t : Ft) : List Int := [t.a, t.b, t.d].take N
structure Gd (o ov : Int) (N R : Nat) (Q : Int) (t : Ft) : Prop where
  k : t.k = keyL o ov t.pl (exs N t)
  a : 0 ≤ t.a
  b : 0 ≤ t.b
  d : 0 ≤ t.d
  deg : t.a + t.b + t.d ≤ Q
  z : t.z = 0
  pl0 : 0 ≤ t.pl
  pl : t.pl < R
  n1 : N ≤ 1 → t.b = 0
  n2 : N ≤ 2 → t.d = 0
theorem Gd.alk {o ov : Int} {N R : Nat} {Q : Int} (x t : Ft) (h : Alk x t) (g : Gd o ov N R Q t) : Gd o ov N R Q x := by
  obtain ⟨h1, h2, h3, h4, h5, h6⟩ := h
  have e : exs N x = exs N t := by unfold exs; rw [h2, h3, h4]
  exact ⟨by rw [h1, e, h6]; exact g.k, by rw [h2]; exact g.a, by rw [h3]; exact g.b, by rw [h4]; exact g.d, by rw [h2, h3, h4]; exact g.deg, by rw [h5]; exact g.z, by rw [h6]; exact g.pl0, by rw [h6]; exact g.pl, fun h => by rw [h3]; exact g.n1 h, fun h => by rw [h4]; exact g.n2 h⟩
theorem Gd.exq {o ov : Int} {N R : Nat} {Q : Int} {t : Ft} (h0 : 0 < N) (h3 : N ≤ 3) (hQ : Q ≤ 16000) (g : Gd o ov N R Q t) : Exq N (exs N t) ∧ sumI (exs N t) = t.a + t.b + t.d := by
  have h1 := g.a
  have h2 := g.b
  have h4 := g.d
  have h5 := g.deg
  have hN : N = 1 ∨ N = 2 ∨ N = 3 := by omega
  rcases hN with rfl | rfl | rfl
  · have := g.n1 (by omega)
    have := g.n2 (by omega)
    refine ⟨⟨by simp [exs], fun x hx => ?_, ?_⟩, ?_⟩
    · simp [exs] at hx; omega
    · simp [exs, sumI]; omega
    · simp [exs, sumI]; omega
  · have := g.n2 (by omega)
    refine ⟨⟨by simp [exs], fun x hx => ?_, ?_⟩, ?_⟩
    · simp [exs] at hx; omega
    · simp [exs, sumI]; omega
    · simp [exs, sumI]; omega
  · refine ⟨⟨by simp [exs], fun x hx => ?_, ?_⟩, ?_⟩
    · simp [exs] at hx; omega
    · simp [exs, sumI]; omega
    · simp [exs, sumI]; omega
theorem dvd_eq {p a b : Int} (h : p ∣ a - b) (ha : 1 ≤ a) (ha2 : a < p) (hb : 1 ≤ b) (hb2 : b < p) : a = b := by
  rcases Int.lt_trichotomy a b with h1 | h1 | h1
  · exfalso
    obtain ⟨k, hk⟩ := h
    exact dvd_small (p := p) (a := b - a) ⟨-k, by rw [Int.mul_neg]; omega⟩ (by omega) (by omega)
  · exact h1
  · exact (dvd_small h (by omega) (by omega)).elim
def Rep (p o ov : Int) (R : Nat) (rows : List (List Ft)) (v : List (List Tm)) : Prop := ∀ k, p ∣ cnt k rows.flatten - cv o ov k v R
theorem ls_none {p o ov : Int} {N R : Nat} (hx : RCx p o ov N R) {Q : Int} {rows rows2 : List (List Ft)} {D : Nat → Int} {v : List (List Tm)} (hv : Vok p o N D v) (hl : v.length = R) (hD : ∀ i, i < R → D i ≤ 16000) (hr : Rok p (Gd o ov N R Q) rows) (hrep : Rep p o ov R rows v) (h : Nx p rows none rows2) : leadF o ov v v.length = none := by
  obtain ⟨hp1, hp2⟩ := errP_bd hx.pr
  obtain ⟨_, _, hs⟩ := Nx.spec hp1 (G := Gd o ov N R Q) (fun x t => Gd.alk x t) h hr
  cases hld : leadF o ov v v.length with
  | none => rfl
  | some q =>
    obtain ⟨j, u⟩ := q
    exfalso
    obtain ⟨hm, _, hc, _⟩ := lead_cv hx hv hl hD hld
    obtain ⟨a, ha⟩ := hrep (keyL o ov j u.2)
    obtain ⟨b, hb⟩ := hs (keyL o ov j u.2)
    have hco := (hv.canon j).coef u hm
    exact dvd_small (p := p) (a := u.1) ⟨b - a, by rw [Int.mul_sub]; omega⟩ hco.1 hco.2
theorem ls_some {p o ov : Int} {N R : Nat} (hx : RCx p o ov N R) {Q : Int} (hQ : Q ≤ 16000) {rows rows2 : List (List Ft)} {t : Ft} {D : Nat → Int} {v : List (List Tm)} (hv : Vok p o N D v) (hl : v.length = R) (hD : ∀ i, i < R → D i ≤ 16000) (hr : Rok p (Gd o ov N R Q) rows) (hrep : Rep p o ov R rows v) (h : Nx p rows (some t) rows2) :
    leadF o ov v v.length = some (t.pl.toNat, (t.c, exs N t)) ∧ Rok p (Gd o ov N R Q) rows2 ∧ rows2.length = rows.length ∧ Gd o ov N R Q t ∧ 0 < t.c ∧ t.c < p ∧ ∀ k, p ∣ cnt k rows2.flatten + (if k = t.k then t.c else 0) - cv o ov k v R := by
  obtain ⟨hp1, hp2⟩ := errP_bd hx.pr
  obtain ⟨r1, r2, g, c1, c2, hlt, hs⟩ := Nx.spec hp1 (G := Gd o ov N R Q) (fun x t => Gd.alk x t) h hr
  have hall : ∀ k, p ∣ cnt k rows2.flatten + (if k = t.k then t.c else 0) - cv o ov k v R := fun k => by
    obtain ⟨a, ha⟩ := hrep k
    obtain ⟨b, hb⟩ := hs k
    exact ⟨a - b, by rw [Int.mul_sub]; omega⟩
  have hz : ∀ k, t.k ≤ k → cnt k rows2.flatten = 0 := fun k hk => cnt_far fun u hu => by
    obtain ⟨r, h1, h2⟩ := List.mem_flatten.1 hu
    have := hlt r h1 u h2; omega
  refine ⟨?_, r1, r2, g, c1, c2, hall⟩
  obtain ⟨a, ha⟩ := hall t.k
  rw [hz t.k (Int.le_refl _), if_pos rfl] at ha
  have hR := hx.r
  cases hld : leadF o ov v v.length with
  | none =>
    exfalso
    have he := (lead_key hx.o hx.ov hx.n0 hx.n3 (by omega) hv (by rw [hl]; exact hD) v.length (Nat.le_refl _)).1 hld
    have h0 : cv o ov t.k v R = 0 := cv_zero fun i hi u hu => by rw [he i (by omega)] at hu; simp at hu
    exact dvd_small (p := p) (a := t.c) ⟨a, by omega⟩ (by omega) c2
  | some q =>
    obtain ⟨j, u⟩ := q
    obtain ⟨hm, hj, hc, hc2⟩ := lead_cv hx hv hl hD hld
    have hco := (hv.canon j).coef u hm
    have hk : keyL o ov j u.2 = t.k := by
      rcases Int.lt_trichotomy (keyL o ov j u.2) t.k with h1 | h1 | h1
      · exfalso
        rw [hc2 t.k h1] at ha
        exact dvd_small (p := p) (a := t.c) ⟨a, by omega⟩ (by omega) c2
      · exact h1
      · exfalso
        obtain ⟨b, hb⟩ := hall (keyL o ov j u.2)
        rw [hz _ (by omega), if_neg (by omega), hc] at hb
        exact dvd_small (p := p) (a := u.1) ⟨-b, by rw [Int.mul_neg]; omega⟩ hco.1 hco.2
    have hpl : ((t.pl.toNat : Nat) : Int) = t.pl := Int.toNat_of_nonneg g.pl0
    have hkt := g.k
    rw [← hpl] at hkt
    have hplR : t.pl.toNat < R := by have := g.pl; omega
    have hin := key_inj hx.o hx.ov hx.n0 hx.n3 (by omega) (by omega) (hv.exq (by rw [hl]; exact hD) hm) (g.exq hx.n0 hx.n3 hQ).1 (hk.trans hkt)
    rw [hk] at hc
    rw [hc] at ha
    have hcc : u.1 = t.c := dvd_eq (p := p) ⟨-a, by rw [Int.mul_neg]; omega⟩ hco.1 hco.2 (by omega) c2
    rw [hin.1]
    congr 2
    exact Prod.ext hcc hin.2
theorem cnt_mul (p more k : Int) (bt : Ft) : ∀ fs : List Ft, p ∣ cnt k (fs.map (mulF p more bt)) - bt.c * cnt (k - more) fs
  | [] => ⟨0, by simp [cnt]⟩
  | t :: fs => by
    obtain ⟨a, ha⟩ := cnt_mul p more k bt fs
    simp only [List.map_cons, cnt, mulF]
    by_cases h : t.k = k - more
    · rw [if_pos (by omega), if_pos h]
      obtain ⟨b, hb⟩ := modDvd p (t.c * bt.c)
      exact ⟨a + b, by rw [Int.mul_add, Int.mul_add]; grind⟩
    · rw [if_neg (by omega), if_neg h]
      exact ⟨a, by rw [Int.mul_add]; omega⟩
def stL (ov : Int) (R : Nat) : List Int := (List.range R).map fun i : Nat => stK ov (i : Int)
theorem stL_at {ov : Int} {R i : Nat} (h : i < R) : (stL ov R).getD i 0 = stK ov i := by
  simp [stL, List.getD_eq_getElem?_getD, h]
def ftN (o ov : Int) (N : Nat) (i : Nat) (t : Tm) : Ft := ftO (stK ov i) (WtN o N N 0) (WtN o N N 1) (WtN o N N 2) i t
theorem ftN_ok {o ov : Int} {N R i : Nat} {t : Tm} {Q : Int} (h0 : 0 < N) (h3 : N ≤ 3) (hl : t.2.length = N) (hn : ∀ x ∈ t.2, 0 ≤ x) (hd : sumI t.2 ≤ Q) (hi : i < R) : Gd o ov N R Q (ftN o ov N i t) ∧ exs N (ftN o ov N i t) = t.2 ∧ (ftN o ov N i t).c = t.1 ∧ (ftN o ov N i t).pl = i ∧ (ftN o ov N i t).k = keyL o ov i t.2 := by
  have hN : N = 1 ∨ N = 2 ∨ N = 3 := by omega
  obtain ⟨c, e⟩ := t
  simp only at hl hn hd
  have key : exs N (ftN o ov N i (c, e)) = e ∧ (ftN o ov N i (c, e)).k = keyL o ov i e := by
    rcases hN with rfl | rfl | rfl
    · obtain ⟨a, rfl⟩ : ∃ a, e = [a] := by
        match e, hl with
        | [a], _ => exact ⟨a, rfl⟩
      refine ⟨by simp [exs, ftN, ftO], ?_⟩
      simp [ftN, ftO, keyL, addK, WtN, WtK]
    · obtain ⟨a, b, rfl⟩ : ∃ a b, e = [a, b] := by
        match e, hl with
        | [a, b], _ => exact ⟨a, b, rfl⟩
      refine ⟨by simp [exs, ftN, ftO], ?_⟩
      simp [ftN, ftO, keyL, addK, WtN, WtK]
    · obtain ⟨a, b, d, rfl⟩ : ∃ a b d, e = [a, b, d] := by
        match e, hl with
        | [a, b, d], _ => exact ⟨a, b, d, rfl⟩
      refine ⟨by simp [exs, ftN, ftO], ?_⟩
      simp [ftN, ftO, keyL, addK, WtN, WtK]
  have hpl : (ftN o ov N i (c, e)).pl = i := rfl
  refine ⟨?_, key.1, rfl, hpl, key.2⟩
  have hg : ∀ m, 0 ≤ e.getD m 0 := fun m => by
    by_cases hm : m < e.length
    · have : e.getD m 0 = e[m] := by simp [List.getD_eq_getElem?_getD, hm]
      rw [this]; exact hn _ (List.getElem_mem hm)
    · rw [List.getD_eq_getElem?_getD, List.getElem?_eq_none (by omega)]; simp
  refine ⟨by rw [key.1, key.2, hpl], hg 0, hg 1, hg 2, ?_, rfl, by rw [hpl]; omega, by rw [hpl]; omega, fun h => ?_, fun h => ?_⟩
  · show e.getD 0 0 + e.getD 1 0 + e.getD 2 0 ≤ Q
    have : e.getD 0 0 + e.getD 1 0 + e.getD 2 0 = sumI e := by
      rcases hN with rfl | rfl | rfl
      · match e, hl with
        | [a], _ => simp [sumI]
      · match e, hl with
        | [a, b], _ => simp [sumI]
      · match e, hl with
        | [a, b, d], _ => simp [sumI]; omega
    omega
  · show e.getD 1 0 = 0
    rw [List.getD_eq_getElem?_getD, List.getElem?_eq_none (by omega)]; rfl
  · show e.getD 2 0 = 0
    rw [List.getD_eq_getElem?_getD, List.getElem?_eq_none (by omega)]; rfl
def flV (o ov : Int) (N : Nat) (fss : List (List Tm)) : Nat → List Ft
  | 0 => []
  | i + 1 => flV o ov N fss i ++ (fss.getD i []).map (ftN o ov N i)
theorem allF_flV {o ov : Int} {N R : Nat} {fss : List (List Tm)} : ∀ n, n ≤ R → allF (WtN o N N 0) (WtN o N N 1) (WtN o N N 2) (stL ov R) fss n = flV o ov N fss n
  | 0, _ => rfl
  | n + 1, h => by
    simp only [allF, flV]
    rw [allF_flV n (by omega), stL_at (by omega)]; rfl
theorem flV_mem {o ov : Int} {N : Nat} {fss : List (List Tm)} : ∀ {n : Nat} {x : Ft}, x ∈ flV o ov N fss n → ∃ i t, i < n ∧ t ∈ fss.getD i [] ∧ x = ftN o ov N i t
  | 0, x, h => by simp [flV] at h
  | n + 1, x, h => by
    simp only [flV, List.mem_append, List.mem_map] at h
    rcases h with h | ⟨t, ht, rfl⟩
    · obtain ⟨i, t, h1, h2, h3⟩ := flV_mem h
      exact ⟨i, t, by omega, h2, h3⟩
    · exact ⟨n, t, by omega, ht, rfl⟩
theorem mem_flV {o ov : Int} {N : Nat} {fss : List (List Tm)} : ∀ {n i : Nat} {t : Tm}, i < n → t ∈ fss.getD i [] → ftN o ov N i t ∈ flV o ov N fss n
  | 0, i, t, h, _ => by omega
  | n + 1, i, t, h, ht => by
    simp only [flV, List.mem_append, List.mem_map]
    rcases Nat.lt_succ_iff_lt_or_eq.1 h with h | rfl
    · exact Or.inl (mem_flV h ht)
    · exact Or.inr ⟨t, ht, rfl⟩
theorem flV_cnt {p o ov : Int} {N R : Nat} (hx : RCx p o ov N R) {D : Nat → Int} {v : List (List Tm)} (hv : Vok p o N D v) (k : Int) : ∀ n, n ≤ R → cnt k (flV o ov N v n) = cv o ov k v n
  | 0, _ => rfl
  | n + 1, hn => by
    simp only [flV, cv]
    rw [cnt_append, flV_cnt hx hv k n (by omega)]
    congr 1
    have key : ∀ ts : List Tm, (∀ t ∈ ts, t ∈ v.getD n []) → cnt k (ts.map (ftN o ov N n)) = lin (kd o ov n k) ts := by
      intro ts
      induction ts with
      | nil => intro _; rfl
      | cons t ts ih =>
        intro h
        have hm := h t (by simp)
        obtain ⟨_, _, h1, _, h2⟩ := ftN_ok (o := o) (ov := ov) (R := R) (Q := D n) hx.n0 hx.n3 ((hv.canon n).len t hm) (hv.nn n t hm) (hv.deg n t hm) (show n < R by omega)
        simp only [List.map_cons, cnt, lin]
        rw [ih fun u hu => h u (by simp [hu]), h1, h2]
        unfold kd
        by_cases e : keyL o ov n t.2 = k
        · simp [e]
        · simp [e]
    exact key _ fun t ht => ht
theorem flV_ne {p o ov : Int} {N R : Nat} (hx : RCx p o ov N R) {D : Nat → Int} {v : List (List Tm)} (hv : Vok p o N D v) (hl : v.length = R) (hD : ∀ i, i < R → D i ≤ 16000) : ∀ n, n ≤ R → (flV o ov N v n).Pairwise fun a b => a.k ≠ b.k
  | 0, _ => List.Pairwise.nil
  | n + 1, hn => by
    have hR := hx.r
    simp only [flV]
    have hk : ∀ {i : Nat} {t : Tm}, i < R → t ∈ v.getD i [] → (ftN o ov N i t).k = keyL o ov i t.2 := fun {i t} hi hm =>
      (ftN_ok (o := o) (ov := ov) (R := R) (Q := D i) hx.n0 hx.n3 ((hv.canon i).len t hm) (hv.nn i t hm) (hv.deg i t hm) hi).2.2.2.2
    refine List.pairwise_append.2 ⟨flV_ne hx hv hl hD n (by omega), ?_, fun a ha b hb => ?_⟩
    · rw [List.pairwise_map]
      have key : ∀ ts : List Tm, (∀ t ∈ ts, t ∈ v.getD n []) → Canon p o N ts → ts.Pairwise fun a b => (ftN o ov N n a).k ≠ (ftN o ov N n b).k := by
        intro ts
        induction ts with
        | nil => intro _ _; exact List.Pairwise.nil
        | cons t ts ih =>
          intro h hc
          refine List.pairwise_cons.2 ⟨fun u hu e => ?_, ih (fun u hu => h u (by simp [hu])) ⟨fun x hx => hc.len x (by simp [hx]), hc.falls.2, fun x hx => hc.coef x (by simp [hx])⟩⟩
          rw [hk (by omega) (h t (by simp)), hk (by omega) (h u (by simp [hu]))] at e
          have := (key_inj hx.o hx.ov hx.n0 hx.n3 (by omega) (by omega) (hv.exq (by rw [hl]; exact hD) (h t (by simp))) (hv.exq (by rw [hl]; exact hD) (h u (by simp [hu]))) e).2
          exact falls_ne hc.len hc.falls u hu this.symm
      exact key _ (fun t ht => ht) (hv.canon n)
    · obtain ⟨i, t, hi, ht, rfl⟩ := flV_mem ha
      obtain ⟨u, hu, rfl⟩ := List.mem_map.1 hb
      intro e
      rw [hk (by omega) ht, hk (by omega) hu] at e
      have := (key_inj hx.o hx.ov hx.n0 hx.n3 (by omega) (by omega) (hv.exq (by rw [hl]; exact hD) ht) (hv.exq (by rw [hl]; exact hD) hu) e).1
      omega
structure FlR (p o ov : Int) (N R : Nat) (Q : Int) (g : List (List Tm)) (fs : List Ft) : Prop where
  dn : Dn fs
  co : ∀ t ∈ fs, 0 < t.c ∧ t.c < p
  gd : ∀ t ∈ fs, Gd o ov N R Q t
  cn : ∀ k, cnt k fs = cv o ov k g R
  ld : leadF o ov g g.length = (fs.head?).map fun L => (L.pl.toNat, (L.c, exs N L))
theorem flr_of {p o ov : Int} {N R : Nat} (hx : RCx p o ov N R) {v : List (List Tm)} (hv : Vok p o N (fun _ => 200) v) (hl : v.length = R) {fs : List Ft} (hp : fs.Perm (flV o ov N v R)) (hf : FallK fs) : FlR p o ov N R 200 v fs := by
  have hR := hx.r
  have hD : ∀ i, i < R → (fun _ : Nat => (200 : Int)) i ≤ 16000 := fun _ _ => by simp
  have hne : fs.Pairwise fun a b => a.k ≠ b.k := (hp.symm.pairwise_iff (fun {a b} h => h.symm)).1 (flV_ne hx hv hl hD R (Nat.le_refl _))
  have hmem : ∀ t ∈ fs, ∃ i u, i < R ∧ u ∈ v.getD i [] ∧ t = ftN o ov N i u := fun t ht => flV_mem (hp.mem_iff.1 ht)
  have hok : ∀ {i : Nat} {u : Tm}, i < R → u ∈ v.getD i [] → Gd o ov N R 200 (ftN o ov N i u) ∧ exs N (ftN o ov N i u) = u.2 ∧ (ftN o ov N i u).c = u.1 ∧ (ftN o ov N i u).pl = i ∧ (ftN o ov N i u).k = keyL o ov i u.2 := fun {i u} hi hm =>
    ftN_ok hx.n0 hx.n3 ((hv.canon i).len u hm) (hv.nn i u hm) (hv.deg i u hm) hi
  have hdn : Dn fs := by
    have := List.Pairwise.and hf hne
    exact this.imp fun {a b} h => by omega
  refine ⟨hdn, fun t ht => ?_, fun t ht => ?_, fun k => ?_, ?_⟩
  · obtain ⟨i, u, hi, hm, rfl⟩ := hmem t ht
    rw [(hok hi hm).2.2.1]
    have := (hv.canon i).coef u hm
    omega
  · obtain ⟨i, u, hi, hm, rfl⟩ := hmem t ht
    exact (hok hi hm).1
  · rw [cnt_perm k hp, flV_cnt hx hv k R (Nat.le_refl _)]
  · have hk := lead_key hx.o hx.ov hx.n0 hx.n3 (by omega) hv (by rw [hl]; exact hD) v.length (Nat.le_refl _)
    cases hld : leadF o ov v v.length with
    | none =>
      have he := hk.1 hld
      cases fs with
      | nil => rfl
      | cons L fs =>
        obtain ⟨i, u, hi, hm, _⟩ := hmem L (by simp)
        rw [he i (by omega)] at hm; simp at hm
    | some q =>
      obtain ⟨j, u⟩ := q
      obtain ⟨hm, hj, _, _⟩ := lead_cv hx hv hl hD hld
      have hin : ftN o ov N j u ∈ fs := hp.mem_iff.2 (mem_flV hj hm)
      cases fs with
      | nil => simp at hin
      | cons L fs =>
        obtain ⟨i, w, hi, hmw, e⟩ := hmem L (by simp)
        have h1 := hdn.le _ hin
        rw [(hok hj hm).2.2.2.2, e, (hok hi hmw).2.2.2.2] at h1
        have h2 := hk.2 j u hld i (by omega) w hmw
        rcases h2 with ⟨rfl, rfl⟩ | h2
        · obtain ⟨_, e1, e2, e3, _⟩ := hok hi hm
          rw [e]
          simp only [List.head?_cons, Option.map_some]
          rw [e1, e2, e3]
          simp
        · omega
abbrev Dvr := Nat × Ft × List Ft
def mkD : Nat → List (List Ft) → List Dvr
  | _, [] => []
  | i, [] :: fss => mkD (i + 1) fss
  | i, (L :: r) :: fss => (i, L, r) :: mkD (i + 1) fss
def fD (t : Ft) (ds : List Dvr) : Option Dvr := ds.find? fun d => intoF d.2.1 t
theorem mkD_snoc : ∀ (fss : List (List Ft)) (i : Nat) (f : List Ft), mkD i (fss ++ [f]) = mkD i fss ++ mkD (i + fss.length) [f]
  | [], i, f => by simp [mkD]
  | [] :: fss, i, f => by
    have := mkD_snoc fss (i + 1) f
    simp only [List.cons_append, mkD, List.length_cons] at this ⊢
    rw [this, show i + 1 + fss.length = i + (fss.length + 1) by omega]
  | (L :: r) :: fss, i, f => by
    have := mkD_snoc fss (i + 1) f
    simp only [List.cons_append, mkD, List.length_cons] at this ⊢
    rw [this, show i + 1 + fss.length = i + (fss.length + 1) by omega]
theorem intoF_lack {o ov : Int} {N R : Nat} {Q Q2 : Int} {L t : Ft} (h0 : 0 < N) (h3 : N ≤ 3) (gL : Gd o ov N R Q L) (gt : Gd o ov N R Q2 t) : intoF L t = (decide (L.pl.toNat = t.pl.toNat) && !lackB (exs N t) (exs N L)) := by
  have hN : N = 1 ∨ N = 2 ∨ N = 3 := by omega
  have a1 := gL.pl0
  have a2 := gt.pl0
  have z1 := gL.z
  have z2 := gt.z
  have hpl : decide (L.pl = t.pl) = decide (L.pl.toNat = t.pl.toNat) := by
    apply decide_eq_decide.2; omega
  unfold intoF intoE
  rw [hpl]
  congr 1
  rw [Bool.eq_iff_iff]
  rcases hN with rfl | rfl | rfl
  · have := gL.n1 (by omega)
    have := gL.n2 (by omega)
    have := gt.n1 (by omega)
    have := gt.n2 (by omega)
    simp [lackB, exs, zipI, negI]; omega
  · have := gL.n2 (by omega)
    have := gt.n2 (by omega)
    simp [lackB, exs, zipI, negI]; omega
  · simp [lackB, exs, zipI, negI]; omega
theorem fD_dvI {p o ov : Int} {N R : Nat} {Q : Int} (h0 : 0 < N) (h3 : N ≤ 3) {t : Ft} (gt : Gd o ov N R Q t) : ∀ (lss : List (List (List Tm))) (fls : List (List Ft)) (n : Nat), lss.length = fls.length → (∀ i, i < lss.length → FlR p o ov N R 200 (lss.getD i []) (fls.getD i [])) →
    match fD t (mkD n fls) with
    | none => dvI o ov lss t.pl.toNat (exs N t) = none
    | some d => ∃ i, d.1 = n + i ∧ dvI o ov lss t.pl.toNat (exs N t) = some i ∧ fls.getD i [] = d.2.1 :: d.2.2
  | [], [], n, _, _ => by simp [mkD, fD, dvI]
  | [], _ :: _, _, h, _ => by simp at h
  | _ :: _, [], _, h, _ => by simp at h
  | g :: lss, f :: fls, n, hl, h => by
    have ih := fD_dvI h0 h3 gt lss fls (n + 1) (by simpa using hl) (fun i hi => by have := h (i + 1) (by simpa using hi); simpa using this)
    have hg : FlR p o ov N R 200 g f := by have := h 0 (by simp); simpa using this
    have hld := hg.ld
    have hdv : ∀ b, isDv o ov t.pl.toNat (exs N t) g = b → dvI o ov (g :: lss) t.pl.toNat (exs N t) = if b then some 0 else (dvI o ov lss t.pl.toNat (exs N t)).map (· + 1) := by
      intro b hb
      unfold dvI
      rw [List.findIdx?_cons, hb]
    cases f with
    | nil =>
      simp only [List.head?_nil, Option.map_none] at hld
      have hb : isDv o ov t.pl.toNat (exs N t) g = false := by unfold isDv; rw [hld]
      simp only [mkD]
      rw [hdv _ hb]
      simp only [Bool.false_eq_true, if_false]
      split <;> rename_i hf <;> rw [hf] at ih
      · simp only at ih; rw [ih]; rfl
      · simp only at ih
        obtain ⟨i, h1, h2, h4⟩ := ih
        exact ⟨i + 1, by omega, by rw [h2]; rfl, by simpa using h4⟩
    | cons L r =>
      simp only [List.head?_cons, Option.map_some] at hld
      have hb : isDv o ov t.pl.toNat (exs N t) g = intoF L t := by
        unfold isDv; rw [hld]
        simp only
        rw [intoF_lack h0 h3 (hg.gd L (by simp)) gt]
      simp only [mkD, fD, List.find?_cons]
      rw [hdv _ hb]
      cases hi : intoF L t with
      | true =>
        simp only [if_true]
        exact ⟨0, by simp, rfl, by simp⟩
      | false =>
        simp only [Bool.false_eq_true, if_false]
        unfold fD at ih
        split <;> rename_i hf <;> rw [hf] at ih
        · simp only at ih; rw [ih]; rfl
        · simp only at ih
          obtain ⟨i, h1, h2, h4⟩ := ih
          exact ⟨i + 1, by omega, by rw [h2]; rfl, by simpa using h4⟩
theorem rep_left {p o ov : Int} {N R : Nat} (hx : RCx p o ov N R) {lss : List (List (List Tm))} {s : DS} (h : DInv p o ov N R lss s) {rows2 : List (List Ft)} {t : Ft} (hg : t.k = keyL o ov t.pl.toNat (exs N t)) (hld : leadF o ov s.v s.v.length = some (t.pl.toNat, (t.c, exs N t))) (hdv : dvI o ov lss t.pl.toNat (exs N t) = none)
    (hc : ∀ k, p ∣ cnt k rows2.flatten + (if k = t.k then t.c else 0) - cv o ov k s.v R) :
    ∃ s2, dstep p o ov lss s = some s2 ∧ Rep p o ov R rows2 s2.v ∧ s2.q = s.q ∧ s2.l = s.l.set t.pl.toNat (s.l.getD t.pl.toNat [] ++ [(t.c, exs N t)]) := by
  obtain ⟨hj, _⟩ := leadF_at hld
  have hst : dstep p o ov lss s = some ⟨sums p o s.v (atPl s.v.length t.pl.toNat [(p - t.c, exs N t)]), s.q, s.l.set t.pl.toNat (s.l.getD t.pl.toNat [] ++ [(t.c, exs N t)])⟩ := by unfold dstep; rw [hld]; simp only [hdv]
  refine ⟨_, hst, fun k => ?_, rfl, rfl⟩
  simp only
  have hal : s.v.length = (atPl s.v.length t.pl.toNat [(p - t.c, exs N t)]).length := by simp [atPl]
  obtain ⟨a, ha⟩ := cv_sums (p := p) (o := o) (ov := ov) (k := k) hal R (by rw [h.vl]; exact Nat.le_refl _)
  have hb := cv_atPl (o := o) (ov := ov) (k := k) (m := s.v.length) (j := t.pl.toNat) (c := p - t.c) (e := exs N t) hj R (by rw [h.vl]; exact Nat.le_refl _)
  obtain ⟨c, hcc⟩ := hc k
  rw [h.vl] at hj
  by_cases e : k = t.k
  · rw [if_pos e] at hcc
    rw [if_pos ⟨hj, by rw [← hg]; exact e.symm⟩] at hb
    exact ⟨c - a - 1, by rw [Int.mul_sub, Int.mul_sub]; omega⟩
  · rw [if_neg e] at hcc
    rw [if_neg fun h4 => e (by rw [hg]; exact h4.2.symm)] at hb
    exact ⟨c - a, by rw [Int.mul_sub]; omega⟩
theorem rep_taken {p o ov : Int} {N R : Nat} (hx : RCx p o ov N R) {lss : List (List (List Tm))} (hl : LOk p o N R lss) {s : DS} (h : DInv p o ov N R lss s) {rows2 rows3 : List (List Ft)} {t L : Ft} {r : List Ft} {i : Nat} {more c2 : Int} (hg : t.k = keyL o ov t.pl.toNat (exs N t)) (hld : leadF o ov s.v s.v.length = some (t.pl.toNat, (t.c, exs N t))) (htc : 0 < t.c ∧ t.c < p) (hdv : dvI o ov lss t.pl.toNat (exs N t) = some i)
    (hfl : FlR p o ov N R 200 (lss.getD i []) (L :: r)) (hmore : more = addK o (zipI (· - ·) (exs N t) (exs N L))) (hc2 : c2 = p - t.c * invI p L.c % p) (bt : Ft) (hbt : bt.c = c2)
    (hc : ∀ k, p ∣ cnt k rows2.flatten + (if k = t.k then t.c else 0) - cv o ov k s.v R) (hadd : ∀ k, p ∣ cnt k rows3.flatten - (cnt k rows2.flatten + cnt k (r.map (mulF p more bt)))) :
    ∃ s2, dstep p o ov lss s = some s2 ∧ Rep p o ov R rows3 s2.v ∧ s2.q = s.q.set i (s.q.getD i [] ++ [(t.c * invI p L.c % p, zipI (· - ·) (exs N t) (exs N L))]) ∧ s2.l = s.l := by
  have hD : ∀ i, i < R → Dg ov i ≤ 16000 := fun i hi => by have := (Dg_bd (ov := ov) hx.r i hi).2; omega
  obtain ⟨htm, hj, _, _⟩ := lead_cv hx h.vok h.vl hD hld
  have htl := (h.vok.canon _).len _ htm
  have hby := by_ok hx hl (t := (t.c, exs N t)) htl ⟨by simp only; omega, htc.2⟩ hdv
  have hldL := hfl.ld
  simp only [List.head?_cons, Option.map_some] at hldL
  have hT : ldT o ov (lss.getD i []) = (L.c, exs N L) := by unfold ldT; rw [hldL]; rfl
  obtain ⟨hil, hgm, _⟩ := dvI_some hdv
  rw [hT] at hby
  have hgl := hl.len _ hgm
  have hgv := hl.ok _ hgm
  have hst : dstep p o ov lss s = some ⟨sums p o s.v (prods p o [(p - (byT p (t.c, exs N t) (L.c, exs N L)).1, (byT p (t.c, exs N t) (L.c, exs N L)).2)] (lss.getD i [])), s.q.set i (s.q.getD i [] ++ [byT p (t.c, exs N t) (L.c, exs N L)]), s.l⟩ := by unfold dstep; rw [hld]; simp only [hdv, hT]
  refine ⟨_, hst, fun k => ?_, rfl, rfl⟩
  simp only
  have hb1 : (byT p (t.c, exs N t) (L.c, exs N L)).1 = t.c * invI p L.c % p := rfl
  have hb2 : (byT p (t.c, exs N t) (L.c, exs N L)).2 = zipI (· - ·) (exs N t) (exs N L) := rfl
  have hal : s.v.length = (prods p o [(p - (byT p (t.c, exs N t) (L.c, exs N L)).1, (byT p (t.c, exs N t) (L.c, exs N L)).2)] (lss.getD i [])).length := by unfold prods; rw [List.length_map, hgl, h.vl]
  obtain ⟨a, ha⟩ := cv_sums (p := p) (o := o) (ov := ov) (k := k) hal R (by rw [h.vl]; exact Nat.le_refl _)
  obtain ⟨b, hb⟩ := cv_prods (p := p) (o := o) (ov := ov) (k := k) (N := N) hx.n3 (c := p - (byT p (t.c, exs N t) (L.c, exs N L)).1) (e := (byT p (t.c, exs N t) (L.c, exs N L)).2) hby.bl (gss := lss.getD i []) (fun m => (hgv.canon m).len) R (by rw [hgl]; exact Nat.le_refl _)
  obtain ⟨c, hcc⟩ := hc k
  obtain ⟨d, hd⟩ := hadd k
  obtain ⟨e, he⟩ := cnt_mul p more k bt r
  have hcn := hfl.cn (k - more)
  obtain ⟨f, hf⟩ := hby.co
  simp only [hb1, hb2] at ha hb hf
  rw [← hmore] at hb
  rw [← hc2] at ha hb hf
  rw [hbt] at he
  simp only [hb1, hb2]
  rw [← hc2]
  rw [← hcn] at hb
  simp only [cnt] at hb
  have hLpl : L.pl.toNat = t.pl.toNat := by
    have := hby.lead
    rw [hldL] at this
    simp only [Option.some.injEq, Prod.mk.injEq] at this
    exact this.1
  have hLk : L.k + more = t.k := by
    have gL := hfl.gd L (by simp)
    have h1 := gL.k
    have h2 := gL.pl0
    rw [← Int.toNat_of_nonneg h2, hLpl] at h1
    have h5 : (exs N L).length = N := (hgv.canon _).len _ hby.mem
    have h6 := key_zip (o := o) (ov := ov) (i := t.pl.toNat) hx.n3 hby.bl h5
    rw [hb2] at h6
    have h7 := hby.add
    rw [hb2] at h7
    simp only at h7
    rw [h7] at h6
    rw [h1, hg, hmore, h6]
  by_cases ek : k = t.k
  · rw [if_pos ek] at hcc
    rw [if_pos (by omega), Int.mul_add] at hb
    exact ⟨d + e + c - a - b - f, by rw [Int.mul_sub, Int.mul_sub, Int.mul_sub, Int.mul_add, Int.mul_add]; omega⟩
  · rw [if_neg ek] at hcc
    rw [if_neg (by omega), Int.mul_add, Int.mul_zero] at hb
    exact ⟨d + e + c - a - b, by rw [Int.mul_sub, Int.mul_sub, Int.mul_add, Int.mul_add]; omega⟩
end Go.Proofs.YtilogbggilchaaaGreat
