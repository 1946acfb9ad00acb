/- The program beside the reference: rows that add up to a vector; the next term is the lead. -/
import Derived.Test.YtkmjmmnnnbjghaaGreatZO
import Derived.Test.YtkmjmmnnnbjghaaGreatM
import Derived.ProofKit
import Derived.OpenShut
import Derived.ShutString
import Derived.ChangeOld
import Derived.Lib.SmallJoins
import Derived.Test.YtkmjmmnnnbjghaaGreatL
import Derived.Test.YtkmjmmnnnbjghaaGreatFB
import Derived.Deep.SlicePairs
import Derived.Test.YtkmjmmnnnbjghaaGreatWA
import Derived.Test.YtkmjmmnnnbjghaaGreatYE
namespace Go.Proofs.YtkmjmmnnnbjghaaGreat
set_option linter.unusedSimpArgs false
set_option linter.unusedVariables false
open Go.RowKit

/-- The exponents of a flat term. -/
def exs (N : Nat) (t : Ft) : List Int := [t.a, t.b, t.d].take N
/-- A flat term as it must be, of a degree of at most Q. -/
structure Gd (o ov : Int) (N R : Nat) (Q : Int) (t : Ft) : Prop where
  k : t.k = keyL o ov t.pl (exs N t)
  a : 0 ≤ t.a
  b : 0 ≤ t.b
  d : 0 ≤ t.d
  deg : t.a + t.b + t.d ≤ Q
  z : t.z = 0
  pl0 : 0 ≤ t.pl
  pl : t.pl < R
  n1 : N ≤ 1 → t.b = 0
  n2 : N ≤ 2 → t.d = 0
theorem Gd.alk {o ov : Int} {N R : Nat} {Q : Int} (x t : Ft) (h : Alk x t) (g : Gd o ov N R Q t) : Gd o ov N R Q x := by
  obtain ⟨h1, h2, h3, h4, h5, h6⟩ := h
  have e : exs N x = exs N t := by unfold exs; rw [h2, h3, h4]
  exact ⟨by rw [h1, e, h6]; exact g.k, by rw [h2]; exact g.a, by rw [h3]; exact g.b, by rw [h4]; exact g.d, by rw [h2, h3, h4]; exact g.deg, by rw [h5]; exact g.z, by rw [h6]; exact g.pl0, by rw [h6]; exact g.pl, fun h => by rw [h3]; exact g.n1 h, fun h => by rw [h4]; exact g.n2 h⟩
theorem Gd.exq {o ov : Int} {N R : Nat} {Q : Int} {t : Ft} (h0 : 0 < N) (h3 : N ≤ 3) (hQ : Q ≤ 16000) (g : Gd o ov N R Q t) : Exq N (exs N t) ∧ sumI (exs N t) = t.a + t.b + t.d := by
  have h1 := g.a
  have h2 := g.b
  have h4 := g.d
  have h5 := g.deg
  have hN : N = 1 ∨ N = 2 ∨ N = 3 := by omega
  rcases hN with rfl | rfl | rfl
  · have := g.n1 (by omega)
    have := g.n2 (by omega)
    refine ⟨⟨by simp [exs], fun x hx => ?_, ?_⟩, ?_⟩
    · simp [exs] at hx; omega
    · simp [exs, sumI]; omega
    · simp [exs, sumI]; omega
  · have := g.n2 (by omega)
    refine ⟨⟨by simp [exs], fun x hx => ?_, ?_⟩, ?_⟩
    · simp [exs] at hx; omega
    · simp [exs, sumI]; omega
    · simp [exs, sumI]; omega
  · refine ⟨⟨by simp [exs], fun x hx => ?_, ?_⟩, ?_⟩
    · simp [exs] at hx; omega
    · simp [exs, sumI]; omega
    · simp [exs, sumI]; omega
theorem dvd_eq {p a b : Int} (h : p ∣ a - b) (ha : 1 ≤ a) (ha2 : a < p) (hb : 1 ≤ b) (hb2 : b < p) : a = b := by
  rcases Int.lt_trichotomy a b with h1 | h1 | h1
  · exfalso
    obtain ⟨k, hk⟩ := h
    exact dvd_small (p := p) (a := b - a) ⟨-k, by rw [Int.mul_neg]; omega⟩ (by omega) (by omega)
  · exact h1
  · exact (dvd_small h (by omega) (by omega)).elim
/-- The rows of a sum add up to a vector. -/
def Rep (p o ov : Int) (R : Nat) (rows : List (List Ft)) (v : List (List Tm)) : Prop := ∀ k, p ∣ cnt k rows.flatten - cv o ov k v R
theorem ls_none {p o ov : Int} {N R : Nat} (hx : RCx p o ov N R) {Q : Int} {rows rows2 : List (List Ft)} {D : Nat → Int} {v : List (List Tm)} (hv : Vok p o N D v) (hl : v.length = R) (hD : ∀ i, i < R → D i ≤ 16000) (hr : Rok p (Gd o ov N R Q) rows) (hrep : Rep p o ov R rows v) (h : Nx p rows none rows2) : leadF o ov v v.length = none := by
  obtain ⟨hp1, hp2⟩ := errP_bd hx.pr
  obtain ⟨_, _, hs⟩ := Nx.spec hp1 (G := Gd o ov N R Q) (fun x t => Gd.alk x t) h hr
  cases hld : leadF o ov v v.length with
  | none => rfl
  | some q =>
    obtain ⟨j, u⟩ := q
    exfalso
    obtain ⟨hm, _, hc, _⟩ := lead_cv hx hv hl hD hld
    obtain ⟨a, ha⟩ := hrep (keyL o ov j u.2)
    obtain ⟨b, hb⟩ := hs (keyL o ov j u.2)
    have hco := (hv.canon j).coef u hm
    exact dvd_small (p := p) (a := u.1) ⟨b - a, by rw [Int.mul_sub]; omega⟩ hco.1 hco.2
theorem ls_some {p o ov : Int} {N R : Nat} (hx : RCx p o ov N R) {Q : Int} (hQ : Q ≤ 16000) {rows rows2 : List (List Ft)} {t : Ft} {D : Nat → Int} {v : List (List Tm)} (hv : Vok p o N D v) (hl : v.length = R) (hD : ∀ i, i < R → D i ≤ 16000) (hr : Rok p (Gd o ov N R Q) rows) (hrep : Rep p o ov R rows v) (h : Nx p rows (some t) rows2) :
    leadF o ov v v.length = some (t.pl.toNat, (t.c, exs N t)) ∧ Rok p (Gd o ov N R Q) rows2 ∧ rows2.length = rows.length ∧ Gd o ov N R Q t ∧ 0 < t.c ∧ t.c < p ∧ ∀ k, p ∣ cnt k rows2.flatten + (if k = t.k then t.c else 0) - cv o ov k v R := by
  obtain ⟨hp1, hp2⟩ := errP_bd hx.pr
  obtain ⟨r1, r2, g, c1, c2, hlt, hs⟩ := Nx.spec hp1 (G := Gd o ov N R Q) (fun x t => Gd.alk x t) h hr
  have hall : ∀ k, p ∣ cnt k rows2.flatten + (if k = t.k then t.c else 0) - cv o ov k v R := fun k => by
    obtain ⟨a, ha⟩ := hrep k
    obtain ⟨b, hb⟩ := hs k
    exact ⟨a - b, by rw [Int.mul_sub]; omega⟩
  have hz : ∀ k, t.k ≤ k → cnt k rows2.flatten = 0 := fun k hk => cnt_far fun u hu => by
    obtain ⟨r, h1, h2⟩ := List.mem_flatten.1 hu
    have := hlt r h1 u h2; omega
  refine ⟨?_, r1, r2, g, c1, c2, hall⟩
  obtain ⟨a, ha⟩ := hall t.k
  rw [hz t.k (Int.le_refl _), if_pos rfl] at ha
  have hR := hx.r
  cases hld : leadF o ov v v.length with
  | none =>
    exfalso
    have he := (lead_key hx.o hx.ov hx.n0 hx.n3 (by omega) hv (by rw [hl]; exact hD) v.length (Nat.le_refl _)).1 hld
    have h0 : cv o ov t.k v R = 0 := cv_zero fun i hi u hu => by rw [he i (by omega)] at hu; simp at hu
    exact dvd_small (p := p) (a := t.c) ⟨a, by omega⟩ (by omega) c2
  | some q =>
    obtain ⟨j, u⟩ := q
    obtain ⟨hm, hj, hc, hc2⟩ := lead_cv hx hv hl hD hld
    have hco := (hv.canon j).coef u hm
    have hk : keyL o ov j u.2 = t.k := by
      rcases Int.lt_trichotomy (keyL o ov j u.2) t.k with h1 | h1 | h1
      · exfalso
        rw [hc2 t.k h1] at ha
        exact dvd_small (p := p) (a := t.c) ⟨a, by omega⟩ (by omega) c2
      · exact h1
      · exfalso
        obtain ⟨b, hb⟩ := hall (keyL o ov j u.2)
        rw [hz _ (by omega), if_neg (by omega), hc] at hb
        exact dvd_small (p := p) (a := u.1) ⟨-b, by rw [Int.mul_neg]; omega⟩ hco.1 hco.2
    have hpl : ((t.pl.toNat : Nat) : Int) = t.pl := Int.toNat_of_nonneg g.pl0
    have hkt := g.k
    rw [← hpl] at hkt
    have hplR : t.pl.toNat < R := by have := g.pl; omega
    have hin := key_inj hx.o hx.ov hx.n0 hx.n3 (by omega) (by omega) (hv.exq (by rw [hl]; exact hD) hm) (g.exq hx.n0 hx.n3 hQ).1 (hk.trans hkt)
    rw [hk] at hc
    rw [hc] at ha
    have hcc : u.1 = t.c := dvd_eq (p := p) ⟨-a, by rw [Int.mul_neg]; omega⟩ hco.1 hco.2 (by omega) c2
    rw [hin.1]
    congr 2
    exact Prod.ext hcc hin.2
/-- A flat vector, times a term. -/
theorem cnt_mul (p more k : Int) (bt : Ft) : ∀ fs : List Ft, p ∣ cnt k (fs.map (mulF p more bt)) - bt.c * cnt (k - more) fs
  | [] => ⟨0, by simp [cnt]⟩
  | t :: fs => by
    obtain ⟨a, ha⟩ := cnt_mul p more k bt fs
    simp only [List.map_cons, cnt, mulF]
    by_cases h : t.k = k - more
    · rw [if_pos (by omega), if_pos h]
      obtain ⟨b, hb⟩ := modDvd p (t.c * bt.c)
      exact ⟨a + b, by rw [Int.mul_add, Int.mul_add]; grind⟩
    · rw [if_neg (by omega), if_neg h]
      exact ⟨a, by rw [Int.mul_add]; omega⟩
/-- The starts of keys at each place. -/
def stL (ov : Int) (R : Nat) : List Int := (List.range R).map fun i : Nat => stK ov (i : Int)
theorem stL_at {ov : Int} {R i : Nat} (h : i < R) : (stL ov R).getD i 0 = stK ov i := by
  simp [stL, List.getD_eq_getElem?_getD, h]
/-- The flat term of a term. -/
def ftN (o ov : Int) (N : Nat) (i : Nat) (t : Tm) : Ft := ftO (stK ov i) (WtN o N N 0) (WtN o N N 1) (WtN o N N 2) i t
theorem ftN_ok {o ov : Int} {N R i : Nat} {t : Tm} {Q : Int} (h0 : 0 < N) (h3 : N ≤ 3) (hl : t.2.length = N) (hn : ∀ x ∈ t.2, 0 ≤ x) (hd : sumI t.2 ≤ Q) (hi : i < R) : Gd o ov N R Q (ftN o ov N i t) ∧ exs N (ftN o ov N i t) = t.2 ∧ (ftN o ov N i t).c = t.1 ∧ (ftN o ov N i t).pl = i ∧ (ftN o ov N i t).k = keyL o ov i t.2 := by
  have hN : N = 1 ∨ N = 2 ∨ N = 3 := by omega
  obtain ⟨c, e⟩ := t
  simp only at hl hn hd
  have key : exs N (ftN o ov N i (c, e)) = e ∧ (ftN o ov N i (c, e)).k = keyL o ov i e := by
    rcases hN with rfl | rfl | rfl
    · obtain ⟨a, rfl⟩ : ∃ a, e = [a] := by
        match e, hl with
        | [a], _ => exact ⟨a, rfl⟩
      refine ⟨by simp [exs, ftN, ftO], ?_⟩
      simp [ftN, ftO, keyL, addK, WtN, WtK]
    · obtain ⟨a, b, rfl⟩ : ∃ a b, e = [a, b] := by
        match e, hl with
        | [a, b], _ => exact ⟨a, b, rfl⟩
      refine ⟨by simp [exs, ftN, ftO], ?_⟩
      simp [ftN, ftO, keyL, addK, WtN, WtK]
    · obtain ⟨a, b, d, rfl⟩ : ∃ a b d, e = [a, b, d] := by
        match e, hl with
        | [a, b, d], _ => exact ⟨a, b, d, rfl⟩
      refine ⟨by simp [exs, ftN, ftO], ?_⟩
      simp [ftN, ftO, keyL, addK, WtN, WtK]
  have hpl : (ftN o ov N i (c, e)).pl = i := rfl
  refine ⟨?_, key.1, rfl, hpl, key.2⟩
  have hg : ∀ m, 0 ≤ e.getD m 0 := fun m => by
    by_cases hm : m < e.length
    · have : e.getD m 0 = e[m] := by simp [List.getD_eq_getElem?_getD, hm]
      rw [this]; exact hn _ (List.getElem_mem hm)
    · rw [List.getD_eq_getElem?_getD, List.getElem?_eq_none (by omega)]; simp
  refine ⟨by rw [key.1, key.2, hpl], hg 0, hg 1, hg 2, ?_, rfl, by rw [hpl]; omega, by rw [hpl]; omega, fun h => ?_, fun h => ?_⟩
  · show e.getD 0 0 + e.getD 1 0 + e.getD 2 0 ≤ Q
    have : e.getD 0 0 + e.getD 1 0 + e.getD 2 0 = sumI e := by
      rcases hN with rfl | rfl | rfl
      · match e, hl with
        | [a], _ => simp [sumI]
      · match e, hl with
        | [a, b], _ => simp [sumI]
      · match e, hl with
        | [a, b, d], _ => simp [sumI]; omega
    omega
  · show e.getD 1 0 = 0
    rw [List.getD_eq_getElem?_getD, List.getElem?_eq_none (by omega)]; rfl
  · show e.getD 2 0 = 0
    rw [List.getD_eq_getElem?_getD, List.getElem?_eq_none (by omega)]; rfl
/-- All terms of a vector, flat. -/
def flV (o ov : Int) (N : Nat) (fss : List (List Tm)) : Nat → List Ft
  | 0 => []
  | i + 1 => flV o ov N fss i ++ (fss.getD i []).map (ftN o ov N i)
theorem allF_flV {o ov : Int} {N R : Nat} {fss : List (List Tm)} : ∀ n, n ≤ R → allF (WtN o N N 0) (WtN o N N 1) (WtN o N N 2) (stL ov R) fss n = flV o ov N fss n
  | 0, _ => rfl
  | n + 1, h => by
    simp only [allF, flV]
    rw [allF_flV n (by omega), stL_at (by omega)]; rfl
theorem flV_mem {o ov : Int} {N : Nat} {fss : List (List Tm)} : ∀ {n : Nat} {x : Ft}, x ∈ flV o ov N fss n → ∃ i t, i < n ∧ t ∈ fss.getD i [] ∧ x = ftN o ov N i t
  | 0, x, h => by simp [flV] at h
  | n + 1, x, h => by
    simp only [flV, List.mem_append, List.mem_map] at h
    rcases h with h | ⟨t, ht, rfl⟩
    · obtain ⟨i, t, h1, h2, h3⟩ := flV_mem h
      exact ⟨i, t, by omega, h2, h3⟩
    · exact ⟨n, t, by omega, ht, rfl⟩
theorem mem_flV {o ov : Int} {N : Nat} {fss : List (List Tm)} : ∀ {n i : Nat} {t : Tm}, i < n → t ∈ fss.getD i [] → ftN o ov N i t ∈ flV o ov N fss n
  | 0, i, t, h, _ => by omega
  | n + 1, i, t, h, ht => by
    simp only [flV, List.mem_append, List.mem_map]
    rcases Nat.lt_succ_iff_lt_or_eq.1 h with h | rfl
    · exact Or.inl (mem_flV h ht)
    · exact Or.inr ⟨t, ht, rfl⟩
theorem flV_cnt {p o ov : Int} {N R : Nat} (hx : RCx p o ov N R) {D : Nat → Int} {v : List (List Tm)} (hv : Vok p o N D v) (k : Int) : ∀ n, n ≤ R → cnt k (flV o ov N v n) = cv o ov k v n
  | 0, _ => rfl
  | n + 1, hn => by
    simp only [flV, cv]
    rw [cnt_append, flV_cnt hx hv k n (by omega)]
    congr 1
    have key : ∀ ts : List Tm, (∀ t ∈ ts, t ∈ v.getD n []) → cnt k (ts.map (ftN o ov N n)) = lin (kd o ov n k) ts := by
      intro ts
      induction ts with
      | nil => intro _; rfl
      | cons t ts ih =>
        intro h
        have hm := h t (by simp)
        obtain ⟨_, _, h1, _, h2⟩ := ftN_ok (o := o) (ov := ov) (R := R) (Q := D n) hx.n0 hx.n3 ((hv.canon n).len t hm) (hv.nn n t hm) (hv.deg n t hm) (show n < R by omega)
        simp only [List.map_cons, cnt, lin]
        rw [ih fun u hu => h u (by simp [hu]), h1, h2]
        unfold kd
        by_cases e : keyL o ov n t.2 = k
        · simp [e]
        · simp [e]
    exact key _ fun t ht => ht
theorem flV_ne {p o ov : Int} {N R : Nat} (hx : RCx p o ov N R) {D : Nat → Int} {v : List (List Tm)} (hv : Vok p o N D v) (hl : v.length = R) (hD : ∀ i, i < R → D i ≤ 16000) : ∀ n, n ≤ R → (flV o ov N v n).Pairwise fun a b => a.k ≠ b.k
  | 0, _ => List.Pairwise.nil
  | n + 1, hn => by
    have hR := hx.r
    simp only [flV]
    have hk : ∀ {i : Nat} {t : Tm}, i < R → t ∈ v.getD i [] → (ftN o ov N i t).k = keyL o ov i t.2 := fun {i t} hi hm =>
      (ftN_ok (o := o) (ov := ov) (R := R) (Q := D i) hx.n0 hx.n3 ((hv.canon i).len t hm) (hv.nn i t hm) (hv.deg i t hm) hi).2.2.2.2
    refine List.pairwise_append.2 ⟨flV_ne hx hv hl hD n (by omega), ?_, fun a ha b hb => ?_⟩
    · rw [List.pairwise_map]
      have key : ∀ ts : List Tm, (∀ t ∈ ts, t ∈ v.getD n []) → Canon p o N ts → ts.Pairwise fun a b => (ftN o ov N n a).k ≠ (ftN o ov N n b).k := by
        intro ts
        induction ts with
        | nil => intro _ _; exact List.Pairwise.nil
        | cons t ts ih =>
          intro h hc
          refine List.pairwise_cons.2 ⟨fun u hu e => ?_, ih (fun u hu => h u (by simp [hu])) ⟨fun x hx => hc.len x (by simp [hx]), hc.falls.2, fun x hx => hc.coef x (by simp [hx])⟩⟩
          rw [hk (by omega) (h t (by simp)), hk (by omega) (h u (by simp [hu]))] at e
          have := (key_inj hx.o hx.ov hx.n0 hx.n3 (by omega) (by omega) (hv.exq (by rw [hl]; exact hD) (h t (by simp))) (hv.exq (by rw [hl]; exact hD) (h u (by simp [hu]))) e).2
          exact falls_ne hc.len hc.falls u hu this.symm
      exact key _ (fun t ht => ht) (hv.canon n)
    · obtain ⟨i, t, hi, ht, rfl⟩ := flV_mem ha
      obtain ⟨u, hu, rfl⟩ := List.mem_map.1 hb
      intro e
      rw [hk (by omega) ht, hk (by omega) hu] at e
      have := (key_inj hx.o hx.ov hx.n0 hx.n3 (by omega) (by omega) (hv.exq (by rw [hl]; exact hD) ht) (hv.exq (by rw [hl]; exact hD) hu) e).1
      omega
/-- A vector, flat: its terms, falling. -/
structure FlR (p o ov : Int) (N R : Nat) (Q : Int) (g : List (List Tm)) (fs : List Ft) : Prop where
  dn : Dn fs
  co : ∀ t ∈ fs, 0 < t.c ∧ t.c < p
  gd : ∀ t ∈ fs, Gd o ov N R Q t
  cn : ∀ k, cnt k fs = cv o ov k g R
  ld : leadF o ov g g.length = (fs.head?).map fun L => (L.pl.toNat, (L.c, exs N L))
theorem flr_of {p o ov : Int} {N R : Nat} (hx : RCx p o ov N R) {v : List (List Tm)} (hv : Vok p o N (fun _ => 200) v) (hl : v.length = R) {fs : List Ft} (hp : fs.Perm (flV o ov N v R)) (hf : FallK fs) : FlR p o ov N R 200 v fs := by
  have hR := hx.r
  have hD : ∀ i, i < R → (fun _ : Nat => (200 : Int)) i ≤ 16000 := fun _ _ => by simp
  have hne : fs.Pairwise fun a b => a.k ≠ b.k := (hp.symm.pairwise_iff (fun {a b} h => h.symm)).1 (flV_ne hx hv hl hD R (Nat.le_refl _))
  have hmem : ∀ t ∈ fs, ∃ i u, i < R ∧ u ∈ v.getD i [] ∧ t = ftN o ov N i u := fun t ht => flV_mem (hp.mem_iff.1 ht)
  have hok : ∀ {i : Nat} {u : Tm}, i < R → u ∈ v.getD i [] → Gd o ov N R 200 (ftN o ov N i u) ∧ exs N (ftN o ov N i u) = u.2 ∧ (ftN o ov N i u).c = u.1 ∧ (ftN o ov N i u).pl = i ∧ (ftN o ov N i u).k = keyL o ov i u.2 := fun {i u} hi hm =>
    ftN_ok hx.n0 hx.n3 ((hv.canon i).len u hm) (hv.nn i u hm) (hv.deg i u hm) hi
  have hdn : Dn fs := by
    have := List.Pairwise.and hf hne
    exact this.imp fun {a b} h => by omega
  refine ⟨hdn, fun t ht => ?_, fun t ht => ?_, fun k => ?_, ?_⟩
  · obtain ⟨i, u, hi, hm, rfl⟩ := hmem t ht
    rw [(hok hi hm).2.2.1]
    have := (hv.canon i).coef u hm
    omega
  · obtain ⟨i, u, hi, hm, rfl⟩ := hmem t ht
    exact (hok hi hm).1
  · rw [cnt_perm k hp, flV_cnt hx hv k R (Nat.le_refl _)]
  · have hk := lead_key hx.o hx.ov hx.n0 hx.n3 (by omega) hv (by rw [hl]; exact hD) v.length (Nat.le_refl _)
    cases hld : leadF o ov v v.length with
    | none =>
      have he := hk.1 hld
      cases fs with
      | nil => rfl
      | cons L fs =>
        obtain ⟨i, u, hi, hm, _⟩ := hmem L (by simp)
        rw [he i (by omega)] at hm; simp at hm
    | some q =>
      obtain ⟨j, u⟩ := q
      obtain ⟨hm, hj, _, _⟩ := lead_cv hx hv hl hD hld
      have hin : ftN o ov N j u ∈ fs := hp.mem_iff.2 (mem_flV hj hm)
      cases fs with
      | nil => simp at hin
      | cons L fs =>
        obtain ⟨i, w, hi, hmw, e⟩ := hmem L (by simp)
        have h1 := hdn.le _ hin
        rw [(hok hj hm).2.2.2.2, e, (hok hi hmw).2.2.2.2] at h1
        have h2 := hk.2 j u hld i (by omega) w hmw
        rcases h2 with ⟨rfl, rfl⟩ | h2
        · obtain ⟨_, e1, e2, e3, _⟩ := hok hi hm
          rw [e]
          simp only [List.head?_cons, Option.map_some]
          rw [e1, e2, e3]
          simp
        · omega
/-- The divisors: which one of the list each is, its lead, the rest of it. -/
abbrev Dvr := Nat × Ft × List Ft
def mkD : Nat → List (List Ft) → List Dvr
  | _, [] => []
  | i, [] :: fss => mkD (i + 1) fss
  | i, (L :: r) :: fss => (i, L, r) :: mkD (i + 1) fss
def fD (t : Ft) (ds : List Dvr) : Option Dvr := ds.find? fun d => intoF d.2.1 t
theorem mkD_snoc : ∀ (fss : List (List Ft)) (i : Nat) (f : List Ft), mkD i (fss ++ [f]) = mkD i fss ++ mkD (i + fss.length) [f]
  | [], i, f => by simp [mkD]
  | [] :: fss, i, f => by
    have := mkD_snoc fss (i + 1) f
    simp only [List.cons_append, mkD, List.length_cons] at this ⊢
    rw [this, show i + 1 + fss.length = i + (fss.length + 1) by omega]
  | (L :: r) :: fss, i, f => by
    have := mkD_snoc fss (i + 1) f
    simp only [List.cons_append, mkD, List.length_cons] at this ⊢
    rw [this, show i + 1 + fss.length = i + (fss.length + 1) by omega]
theorem intoF_lack {o ov : Int} {N R : Nat} {Q Q2 : Int} {L t : Ft} (h0 : 0 < N) (h3 : N ≤ 3) (gL : Gd o ov N R Q L) (gt : Gd o ov N R Q2 t) : intoF L t = (decide (L.pl.toNat = t.pl.toNat) && !lackB (exs N t) (exs N L)) := by
  have hN : N = 1 ∨ N = 2 ∨ N = 3 := by omega
  have a1 := gL.pl0
  have a2 := gt.pl0
  have z1 := gL.z
  have z2 := gt.z
  have hpl : decide (L.pl = t.pl) = decide (L.pl.toNat = t.pl.toNat) := by
    apply decide_eq_decide.2; omega
  unfold intoF intoE
  rw [hpl]
  congr 1
  rw [Bool.eq_iff_iff]
  rcases hN with rfl | rfl | rfl
  · have := gL.n1 (by omega)
    have := gL.n2 (by omega)
    have := gt.n1 (by omega)
    have := gt.n2 (by omega)
    simp [lackB, exs, zipI, negI]; omega
  · have := gL.n2 (by omega)
    have := gt.n2 (by omega)
    simp [lackB, exs, zipI, negI]; omega
  · simp [lackB, exs, zipI, negI]; omega
/-- The first divisor that goes into a term is the reference's. -/
theorem fD_dvI {p o ov : Int} {N R : Nat} {Q : Int} (h0 : 0 < N) (h3 : N ≤ 3) {t : Ft} (gt : Gd o ov N R Q t) : ∀ (lss : List (List (List Tm))) (fls : List (List Ft)) (n : Nat), lss.length = fls.length → (∀ i, i < lss.length → FlR p o ov N R 200 (lss.getD i []) (fls.getD i [])) →
    match fD t (mkD n fls) with
    | none => dvI o ov lss t.pl.toNat (exs N t) = none
    | some d => ∃ i, d.1 = n + i ∧ dvI o ov lss t.pl.toNat (exs N t) = some i ∧ fls.getD i [] = d.2.1 :: d.2.2
  | [], [], n, _, _ => by simp [mkD, fD, dvI]
  | [], _ :: _, _, h, _ => by simp at h
  | _ :: _, [], _, h, _ => by simp at h
  | g :: lss, f :: fls, n, hl, h => by
    have ih := fD_dvI h0 h3 gt lss fls (n + 1) (by simpa using hl) (fun i hi => by have := h (i + 1) (by simpa using hi); simpa using this)
    have hg : FlR p o ov N R 200 g f := by have := h 0 (by simp); simpa using this
    have hld := hg.ld
    have hdv : ∀ b, isDv o ov t.pl.toNat (exs N t) g = b → dvI o ov (g :: lss) t.pl.toNat (exs N t) = if b then some 0 else (dvI o ov lss t.pl.toNat (exs N t)).map (· + 1) := by
      intro b hb
      unfold dvI
      rw [List.findIdx?_cons, hb]
    cases f with
    | nil =>
      simp only [List.head?_nil, Option.map_none] at hld
      have hb : isDv o ov t.pl.toNat (exs N t) g = false := by unfold isDv; rw [hld]
      simp only [mkD]
      rw [hdv _ hb]
      simp only [Bool.false_eq_true, if_false]
      split <;> rename_i hf <;> rw [hf] at ih
      · simp only at ih; rw [ih]; rfl
      · simp only at ih
        obtain ⟨i, h1, h2, h4⟩ := ih
        exact ⟨i + 1, by omega, by rw [h2]; rfl, by simpa using h4⟩
    | cons L r =>
      simp only [List.head?_cons, Option.map_some] at hld
      have hb : isDv o ov t.pl.toNat (exs N t) g = intoF L t := by
        unfold isDv; rw [hld]
        simp only
        rw [intoF_lack h0 h3 (hg.gd L (by simp)) gt]
      simp only [mkD, fD, List.find?_cons]
      rw [hdv _ hb]
      cases hi : intoF L t with
      | true =>
        simp only [if_true]
        exact ⟨0, by simp, rfl, by simp⟩
      | false =>
        simp only [Bool.false_eq_true, if_false]
        unfold fD at ih
        split <;> rename_i hf <;> rw [hf] at ih
        · simp only at ih; rw [ih]; rfl
        · simp only at ih
          obtain ⟨i, h1, h2, h4⟩ := ih
          exact ⟨i + 1, by omega, by rw [h2]; rfl, by simpa using h4⟩
/-- A step, where no divisor goes. -/
theorem rep_left {p o ov : Int} {N R : Nat} (hx : RCx p o ov N R) {lss : List (List (List Tm))} {s : DS} (h : DInv p o ov N R lss s) {rows2 : List (List Ft)} {t : Ft} (hg : t.k = keyL o ov t.pl.toNat (exs N t)) (hld : leadF o ov s.v s.v.length = some (t.pl.toNat, (t.c, exs N t))) (hdv : dvI o ov lss t.pl.toNat (exs N t) = none)
    (hc : ∀ k, p ∣ cnt k rows2.flatten + (if k = t.k then t.c else 0) - cv o ov k s.v R) :
    ∃ s2, dstep p o ov lss s = some s2 ∧ Rep p o ov R rows2 s2.v ∧ s2.q = s.q ∧ s2.l = s.l.set t.pl.toNat (s.l.getD t.pl.toNat [] ++ [(t.c, exs N t)]) := by
  obtain ⟨hj, _⟩ := leadF_at hld
  have hst : dstep p o ov lss s = some ⟨sums p o s.v (atPl s.v.length t.pl.toNat [(p - t.c, exs N t)]), s.q, s.l.set t.pl.toNat (s.l.getD t.pl.toNat [] ++ [(t.c, exs N t)])⟩ := by unfold dstep; rw [hld]; simp only [hdv]
  refine ⟨_, hst, fun k => ?_, rfl, rfl⟩
  simp only
  have hal : s.v.length = (atPl s.v.length t.pl.toNat [(p - t.c, exs N t)]).length := by simp [atPl]
  obtain ⟨a, ha⟩ := cv_sums (p := p) (o := o) (ov := ov) (k := k) hal R (by rw [h.vl]; exact Nat.le_refl _)
  have hb := cv_atPl (o := o) (ov := ov) (k := k) (m := s.v.length) (j := t.pl.toNat) (c := p - t.c) (e := exs N t) hj R (by rw [h.vl]; exact Nat.le_refl _)
  obtain ⟨c, hcc⟩ := hc k
  rw [h.vl] at hj
  by_cases e : k = t.k
  · rw [if_pos e] at hcc
    rw [if_pos ⟨hj, by rw [← hg]; exact e.symm⟩] at hb
    exact ⟨c - a - 1, by rw [Int.mul_sub, Int.mul_sub]; omega⟩
  · rw [if_neg e] at hcc
    rw [if_neg fun h4 => e (by rw [hg]; exact h4.2.symm)] at hb
    exact ⟨c - a, by rw [Int.mul_sub]; omega⟩
/-- A step, where a divisor goes. -/
theorem rep_taken {p o ov : Int} {N R : Nat} (hx : RCx p o ov N R) {lss : List (List (List Tm))} (hl : LOk p o N R lss) {s : DS} (h : DInv p o ov N R lss s) {rows2 rows3 : List (List Ft)} {t L : Ft} {r : List Ft} {i : Nat} {more c2 : Int} (hg : t.k = keyL o ov t.pl.toNat (exs N t)) (hld : leadF o ov s.v s.v.length = some (t.pl.toNat, (t.c, exs N t))) (htc : 0 < t.c ∧ t.c < p) (hdv : dvI o ov lss t.pl.toNat (exs N t) = some i)
    (hfl : FlR p o ov N R 200 (lss.getD i []) (L :: r)) (hmore : more = addK o (zipI (· - ·) (exs N t) (exs N L))) (hc2 : c2 = p - t.c * invI p L.c % p) (bt : Ft) (hbt : bt.c = c2)
    (hc : ∀ k, p ∣ cnt k rows2.flatten + (if k = t.k then t.c else 0) - cv o ov k s.v R) (hadd : ∀ k, p ∣ cnt k rows3.flatten - (cnt k rows2.flatten + cnt k (r.map (mulF p more bt)))) :
    ∃ s2, dstep p o ov lss s = some s2 ∧ Rep p o ov R rows3 s2.v ∧ s2.q = s.q.set i (s.q.getD i [] ++ [(t.c * invI p L.c % p, zipI (· - ·) (exs N t) (exs N L))]) ∧ s2.l = s.l := by
  have hD : ∀ i, i < R → Dg ov i ≤ 16000 := fun i hi => by have := (Dg_bd (ov := ov) hx.r i hi).2; omega
  obtain ⟨htm, hj, _, _⟩ := lead_cv hx h.vok h.vl hD hld
  have htl := (h.vok.canon _).len _ htm
  have hby := by_ok hx hl (t := (t.c, exs N t)) htl ⟨by simp only; omega, htc.2⟩ hdv
  have hldL := hfl.ld
  simp only [List.head?_cons, Option.map_some] at hldL
  have hT : ldT o ov (lss.getD i []) = (L.c, exs N L) := by unfold ldT; rw [hldL]; rfl
  obtain ⟨hil, hgm, _⟩ := dvI_some hdv
  rw [hT] at hby
  have hgl := hl.len _ hgm
  have hgv := hl.ok _ hgm
  have hst : dstep p o ov lss s = some ⟨sums p o s.v (prods p o [(p - (byT p (t.c, exs N t) (L.c, exs N L)).1, (byT p (t.c, exs N t) (L.c, exs N L)).2)] (lss.getD i [])), s.q.set i (s.q.getD i [] ++ [byT p (t.c, exs N t) (L.c, exs N L)]), s.l⟩ := by unfold dstep; rw [hld]; simp only [hdv, hT]
  refine ⟨_, hst, fun k => ?_, rfl, rfl⟩
  simp only
  have hb1 : (byT p (t.c, exs N t) (L.c, exs N L)).1 = t.c * invI p L.c % p := rfl
  have hb2 : (byT p (t.c, exs N t) (L.c, exs N L)).2 = zipI (· - ·) (exs N t) (exs N L) := rfl
  have hal : s.v.length = (prods p o [(p - (byT p (t.c, exs N t) (L.c, exs N L)).1, (byT p (t.c, exs N t) (L.c, exs N L)).2)] (lss.getD i [])).length := by unfold prods; rw [List.length_map, hgl, h.vl]
  obtain ⟨a, ha⟩ := cv_sums (p := p) (o := o) (ov := ov) (k := k) hal R (by rw [h.vl]; exact Nat.le_refl _)
  obtain ⟨b, hb⟩ := cv_prods (p := p) (o := o) (ov := ov) (k := k) (N := N) hx.n3 (c := p - (byT p (t.c, exs N t) (L.c, exs N L)).1) (e := (byT p (t.c, exs N t) (L.c, exs N L)).2) hby.bl (gss := lss.getD i []) (fun m => (hgv.canon m).len) R (by rw [hgl]; exact Nat.le_refl _)
  obtain ⟨c, hcc⟩ := hc k
  obtain ⟨d, hd⟩ := hadd k
  obtain ⟨e, he⟩ := cnt_mul p more k bt r
  have hcn := hfl.cn (k - more)
  obtain ⟨f, hf⟩ := hby.co
  simp only [hb1, hb2] at ha hb hf
  rw [← hmore] at hb
  rw [← hc2] at ha hb hf
  rw [hbt] at he
  simp only [hb1, hb2]
  rw [← hc2]
  rw [← hcn] at hb
  simp only [cnt] at hb
  have hLpl : L.pl.toNat = t.pl.toNat := by
    have := hby.lead
    rw [hldL] at this
    simp only [Option.some.injEq, Prod.mk.injEq] at this
    exact this.1
  have hLk : L.k + more = t.k := by
    have gL := hfl.gd L (by simp)
    have h1 := gL.k
    have h2 := gL.pl0
    rw [← Int.toNat_of_nonneg h2, hLpl] at h1
    have h5 : (exs N L).length = N := (hgv.canon _).len _ hby.mem
    have h6 := key_zip (o := o) (ov := ov) (i := t.pl.toNat) hx.n3 hby.bl h5
    rw [hb2] at h6
    have h7 := hby.add
    rw [hb2] at h7
    simp only at h7
    rw [h7] at h6
    rw [h1, hg, hmore, h6]
  by_cases ek : k = t.k
  · rw [if_pos ek] at hcc
    rw [if_pos (by omega), Int.mul_add] at hb
    exact ⟨d + e + c - a - b - f, by rw [Int.mul_sub, Int.mul_sub, Int.mul_sub, Int.mul_add, Int.mul_add]; omega⟩
  · rw [if_neg ek] at hcc
    rw [if_neg (by omega), Int.mul_add, Int.mul_zero] at hb
    exact ⟨d + e + c - a - b, by rw [Int.mul_sub, Int.mul_sub, Int.mul_add, Int.mul_add]; omega⟩

end Go.Proofs.YtkmjmmnnnbjghaaGreat

/- MonoOrders, the way where all is right. -/
namespace Go.Proofs.YtkmjmmnnnbjghaaGreat
set_option linter.unusedSimpArgs false
set_option linter.unusedVariables false
open Go.RowKit

theorem ordA_ok {p n o v : Int} {xs ys : List Int} (h : errAll p n o v [xs, ys] = 0) : ordA p n o v xs ys = ordS o xs ys := by unfold ordA; rw [if_pos h]

theorem Sl.made (w : World) (n : Nat) (T : TypeId) : Sl (w.alloc (.cells (madeCells #[.int .i64 0] n) T)) (.slice (some ⟨w.heap.size, 0, none⟩) n n) (List.replicate n 0) := by
  refine ⟨some ⟨w.heap.size, 0, none⟩, n, by simp, fun _ => ⟨_, _, rfl, by simp, fun i hi => ?_⟩⟩
  simp at hi
  simp [madeCells, hi, Nat.mod_one]
theorem errM_zero (n : Nat) : errM n (List.replicate n 0) = 0 := by
  refine errM_mk (by simp) (fun x hx => ?_) (by rw [sumI_rep]; omega)
  rw [List.eq_of_mem_replicate hx]; omega

end Go.Proofs.YtkmjmmnnnbjghaaGreat

/- The frame of the rows: what comes in, as slices and rings. -/
namespace Go.Proofs.YtkmjmmnnnbjghaaGreat
set_option linter.unusedSimpArgs false
set_option linter.unusedVariables false
open Go.ChangeShapes Go.WideShapes Go.ChangeAt Go.RowKit Go.Joins

theorem Tryz.own : ownKnob Tryz.prog.godebug = none := by kernel_rfl
theorem Tryz.laidOut : laidOutB Tryz.prog = true := by kernel_rfl
theorem Tryz.cellsInt : Tryz.prog.cellsOf 3 = 1 := by kernel_rfl
theorem Tryz.cellsRing : Tryz.prog.cellsOf 23 = 4 := by kernel_rfl

theorem cell_lt {w : World} {a : Addr} {v : Value} (h : w.cell? a = some v) : a.block < w.heap.size := by
  unfold World.cell? at h
  apply Nat.lt_of_not_le
  intro hn
  rw [Array.getElem?_eq_none hn] at h
  simp at h

/-- A slice of integers that came in. -/
theorem sl_of {H : Type} {enc : TypeId × Value → H} {W : World} {a : Option Addr} {len cap : Nat} {d : DataW H} {p : List MemPlace}
    (h : DataW.Trod enc Tryz.prog W 0 (fun _ => true) true 55 (.slice a len cap) d p) : ∃ xs : List Int, Sl W (.slice a len cap) xs := by
  obtain ⟨fuel, hf⟩ := h
  rcases open_ints Tryz.underlying55 Tryz.underlying3 Tryz.cellsInt hf with ⟨hcs, _⟩ | ⟨x, l, c, zs, hcs, _, hl, hm, hz, _, hcell, hwz⟩
  · simp [Value.cells] at hcs
    obtain ⟨rfl, rfl, rfl⟩ := hcs
    exact ⟨[], none, 0, rfl, fun h => absurd h (by simp)⟩
  · simp [Value.cells] at hcs
    obtain ⟨rfl, rfl, rfl⟩ := hcs
    simp at hz
    have hlen : (zs.take len).length = len := by rw [List.length_take]; omega
    refine ⟨zs.take len, some x, cap, by rw [hlen], fun hp => ?_⟩
    rw [hlen] at hp
    obtain ⟨b, off, spot⟩ := x
    have hc := hcell 0 (by omega)
    have hspot : spot = none := by simpa [Addr.add] using World.cell?_spot hc
    subst hspot
    refine ⟨b, off, rfl, ?_, fun i hi => ?_⟩
    · exact cell_lt hc
    · rw [hlen] at hi
      have := hcell i (by omega)
      have e : (zs.take len).getD i 0 = zs.getD i 0 := by
        simp [List.getD_eq_getElem?_getD, List.getElem?_take, hi]
      rw [e]
      by_cases h0 : i = 0
      · subst h0; simpa [Addr.add] using this
      · simpa [Addr.add, h0] using this

set_option maxRecDepth 100000 in
/-- A ring that came in. -/
theorem ring_of {H : Type} {enc : TypeId × Value → H} {W : World} {b0 : Nat} {v : Value} {d : DataW H} {p : List MemPlace} (hv : Value.okWide Tryz.prog W .any b0 23 v)
    (h : DataW.Trod enc Tryz.prog W 0 (fun _ => true) true 23 v d p) : ∃ a b c e : Int, v = ringV a b c e := by
  obtain ⟨c0, c1, c2, c3, y0, y1, y2, y3, m, rfl, _, _, hy0, hy1, hy2, hy3⟩ := open_agg4 Tryz.underlying23 (by kernel_rfl) Tryz.cellsRing hv h
  obtain ⟨a, e0, _, _⟩ := DataW.trod_int Tryz.underlying3 hy0
  obtain ⟨b, e1, _, _⟩ := DataW.trod_int Tryz.underlying3 hy1
  obtain ⟨c, e2, _, _⟩ := DataW.trod_int Tryz.underlying3 hy2
  obtain ⟨e, e3, _, _⟩ := DataW.trod_int Tryz.underlying3 hy3
  simp at e0 e1 e2 e3
  subst e0 e1 e2 e3
  exact ⟨a, b, c, e, rfl⟩

end Go.Proofs.YtkmjmmnnnbjghaaGreat

/- Polynomials that came in. -/
namespace Go.Proofs.YtkmjmmnnnbjghaaGreat
set_option linter.unusedSimpArgs false
set_option linter.unusedVariables false
open Go.ChangeShapes Go.WideShapes Go.ChangeAt Go.RowKit Go.Joins Go.Deep

theorem Tryz.cellsTerm : Tryz.prog.cellsOf 57 = 2 := by kernel_rfl
theorem Tryz.cellsIntsP : Tryz.prog.cellsOf 55 = 1 := by kernel_rfl

theorem slCell {H : Type} {enc : TypeId × Value → H} {W : World} {fuel : Nat} {v : Value} {x : DataW H × List MemPlace}
    (h : DataW.trod enc Tryz.prog W 0 (fun _ => true) true fuel 55 [v] = some x) : ∃ xs : List Int, Sl W v xs := by
  rcases open_ints Tryz.underlying55 Tryz.underlying3 Tryz.cellsInt h with ⟨hcs, _⟩ | ⟨x, l, c, zs, hcs, _, hl, hm, hz, _, hcell, hwz⟩
  · simp at hcs
    subst hcs
    exact ⟨[], none, 0, rfl, fun h => absurd h (by simp)⟩
  · simp at hcs
    subst hcs
    simp at hz
    have hlen : (zs.take l).length = l := by rw [List.length_take]; omega
    refine ⟨zs.take l, some x, c, by rw [hlen], fun hp => ?_⟩
    rw [hlen] at hp
    obtain ⟨b, off, rfl⟩ := addrAt (hcell 0 (by omega))
    refine ⟨b, off, rfl, cellLt (hcell 0 (by omega)), fun i hi => ?_⟩
    rw [hlen] at hi
    have e : (zs.take l).getD i 0 = zs.getD i 0 := by simp [List.getD_eq_getElem?_getD, List.getElem?_take, hi]
    rw [e]
    exact cellAdd (hcell i (by omega))

theorem plCell {H : Type} {enc : TypeId × Value → H} {W : World} {fuel : Nat} {v : Value} {x : DataW H × List MemPlace}
    (h : DataW.trod enc Tryz.prog W 0 (fun _ => true) true fuel 54 [v] = some x) : ∃ ts : List Tm, Pl W v ts := by
  rcases open_slice_pairs (P := Tryz.prog) Tryz.underlying54 Tryz.underlying57 Tryz.cellsTerm rfl rfl Tryz.cellsInt Tryz.cellsIntsP h with ⟨hcs, _⟩ | ⟨a, len, cap, m, n, V0, V1, D0, D1, P0, P1, hcs, _, hl, hm, hmm, _, hx⟩
  · simp at hcs
    subst hcs
    exact ⟨[], none, 0, rfl, Nat.le_refl _, fun h => absurd h (by simp)⟩
  · simp at hcs
    subst hcs
    simp at hmm
    subst hmm
    obtain ⟨T, hT⟩ := choose_lt (α := Tm) (n := m) (p := fun i t => V0 i = .int .i64 t.1 ∧ Sl W (V1 i) t.2) (fun i hi => by
      obtain ⟨_, _, h0, h1⟩ := hx i hi
      obtain ⟨xs, hs⟩ := slCell h1
      obtain ⟨k, hk, _⟩ := DataW.trod_int Tryz.underlying3 h0
      exact ⟨(k, xs), by simpa using hk, hs⟩)
    refine ⟨(List.range len).map T, some a, m, by simp, by simpa using hl, fun hp => ?_⟩
    simp at hp
    obtain ⟨b, off, rfl⟩ := addrAt (by simpa using (hx 0 (by omega)).1)
    refine ⟨b, off, rfl, cellLt (hx 0 (by omega)).1, fun i hi => ?_⟩
    simp at hi
    have hg : ((List.range len).map T).getD i noT = T i := by simp [List.getD_eq_getElem?_getD, hi]
    rw [hg]
    obtain ⟨h0, h1, _, _⟩ := hx i (by omega)
    obtain ⟨e0, hs⟩ := hT i (by omega)
    rw [e0] at h0
    exact ⟨cellAdd h0, V1 i, cellAdd h1, hs⟩

/-- A polynomial that came in. -/
theorem pl_of {H : Type} {enc : TypeId × Value → H} {W : World} {a : Option Addr} {len cap : Nat} {d : DataW H} {p : List MemPlace}
    (h : DataW.Trod enc Tryz.prog W 0 (fun _ => true) true 54 (.slice a len cap) d p) : ∃ ts : List Tm, Pl W (.slice a len cap) ts := by
  obtain ⟨fuel, hf⟩ := h
  exact plCell (by simpa [Value.cells] using hf)

end Go.Proofs.YtkmjmmnnnbjghaaGreat

/- Vectors, and lists of them, that came in. -/
namespace Go.Proofs.YtkmjmmnnnbjghaaGreat
set_option linter.unusedSimpArgs false
set_option linter.unusedVariables false
open Go.ChangeShapes Go.WideShapes Go.ChangeAt Go.RowKit Go.Joins Go.Deep

theorem Tryz.cellsPolyX : Tryz.prog.cellsOf 54 = 1 := by kernel_rfl
theorem Tryz.cellsVecX : Tryz.prog.cellsOf 25 = 1 := by kernel_rfl

theorem vlCellOf {H : Type} {enc : TypeId × Value → H} {W : World} {fuel : Nat} {t : TypeId} {v : Value} {x : DataW H × List MemPlace} (ht : Tryz.prog.underlying t = some (.slice 54))
    (h : DataW.trod enc Tryz.prog W 0 (fun _ => true) true fuel t [v] = some x) : ∃ fs : List (List Tm), Vl W v fs := by
  rcases open_slice1 ht Tryz.cellsPolyX h with ⟨hcs, _⟩ | ⟨a, len, cap, m, n, V, D, P, hcs, _, hl, hm, hmm, _, hx⟩
  · simp at hcs
    subst hcs
    exact ⟨[], none, 0, rfl, fun h => absurd h (by simp)⟩
  · simp at hcs
    subst hcs
    simp at hmm
    subst hmm
    obtain ⟨T, hT⟩ := choose_lt (α := List Tm) (n := m) (p := fun i f => Pl W (V i) f) (fun i hi => plCell (hx i hi).2)
    refine ⟨(List.range len).map T, some a, m, by simp, fun hp => ?_⟩
    simp at hp
    obtain ⟨b, off, rfl⟩ := addrAt (by simpa using (hx 0 (by omega)).1)
    refine ⟨b, off, rfl, cellLt (hx 0 (by omega)).1, fun i hi => ?_⟩
    simp at hi
    have hg : ((List.range len).map T).getD i [] = T i := by simp [List.getD_eq_getElem?_getD, hi]
    rw [hg]
    exact ⟨V i, cellAdd (hx i (by omega)).1, hT i (by omega)⟩
theorem wlCell {H : Type} {enc : TypeId × Value → H} {W : World} {fuel : Nat} {v : Value} {x : DataW H × List MemPlace}
    (h : DataW.trod enc Tryz.prog W 0 (fun _ => true) true fuel 26 [v] = some x) : ∃ vss : List (List (List Tm)), Wl W v vss := by
  rcases open_slice1 Tryz.underlying26 Tryz.cellsVecX h with ⟨hcs, _⟩ | ⟨a, len, cap, m, n, V, D, P, hcs, _, hl, hm, hmm, _, hx⟩
  · simp at hcs
    subst hcs
    exact ⟨[], none, 0, rfl, fun h => absurd h (by simp)⟩
  · simp at hcs
    subst hcs
    simp at hmm
    subst hmm
    obtain ⟨T, hT⟩ := choose_lt (α := List (List Tm)) (n := m) (p := fun i f => Vl W (V i) f) (fun i hi => vlCellOf Tryz.underlying25 (hx i hi).2)
    refine ⟨(List.range len).map T, some a, m, by simp, fun hp => ?_⟩
    simp at hp
    obtain ⟨b, off, rfl⟩ := addrAt (by simpa using (hx 0 (by omega)).1)
    refine ⟨b, off, rfl, cellLt (hx 0 (by omega)).1, fun i hi => ?_⟩
    simp at hi
    have hg : ((List.range len).map T).getD i [] = T i := by simp [List.getD_eq_getElem?_getD, hi]
    rw [hg]
    exact ⟨V i, cellAdd (hx i (by omega)).1, hT i (by omega)⟩
/-- A list of polynomials that came in. -/
theorem vl_of {H : Type} {enc : TypeId × Value → H} {W : World} {t : TypeId} {a : Option Addr} {len cap : Nat} {d : DataW H} {p : List MemPlace} (ht : Tryz.prog.underlying t = some (.slice 54))
    (h : DataW.Trod enc Tryz.prog W 0 (fun _ => true) true t (.slice a len cap) d p) : ∃ fs : List (List Tm), Vl W (.slice a len cap) fs := by
  obtain ⟨fuel, hf⟩ := h
  exact vlCellOf ht (by simpa [Value.cells] using hf)
/-- A list of vectors that came in. -/
theorem wl_of {H : Type} {enc : TypeId × Value → H} {W : World} {a : Option Addr} {len cap : Nat} {d : DataW H} {p : List MemPlace}
    (h : DataW.Trod enc Tryz.prog W 0 (fun _ => true) true 26 (.slice a len cap) d p) : ∃ vss : List (List (List Tm)), Wl W (.slice a len cap) vss := by
  obtain ⟨fuel, hf⟩ := h
  exact wlCell (by simpa [Value.cells] using hf)

end Go.Proofs.YtkmjmmnnnbjghaaGreat

/- Divisor of the reference. -/
namespace Go.Proofs.YtkmjmmnnnbjghaaGreat
set_option linter.unusedSimpArgs false
set_option linter.unusedVariables false
open Go.RowKit

/-- What Divisor answers. -/
def dsV (o ov : Int) (lss : List (List (List Tm))) (j : Nat) (e : List Int) : Int :=
  match dvI o ov lss j e with
  | none => -1
  | some i => (i : Int)
/-- A term in a box. -/
def TB (w : World) (bb : Nat) (c : Int) (ev : Value) : Prop := w.cell? ⟨bb, 0, none⟩ = some (.int .i64 c) ∧ w.cell? ⟨bb, 1, none⟩ = some ev
theorem TB.below {w w' : World} {bb : Nat} {c : Int} {ev : Value} (h : TB w bb c ev) (hb : Below w.heap.size w w') : TB w' bb c ev := ⟨cell_keep h.1 hb, cell_keep h.2 hb⟩
theorem tb_new (w : World) (c : Int) (ev : Value) : TB (w.alloc (.cells #[.int .i64 c, ev] 57)) w.heap.size c ev := by
  have h : ∀ j u, #[Value.int .i64 c, ev][j]? = some u → (w.alloc (.cells #[.int .i64 c, ev] 57)).cell? ⟨w.heap.size, j, none⟩ = some u := fun j u hu => by
    unfold World.cell?
    rw [show (w.alloc (.cells #[.int .i64 c, ev] 57)).heap[w.heap.size]? = some (.cells #[.int .i64 c, ev] 57 (0, 0)) from heap_alloc_new w _]
    simpa using hu
  exact ⟨h 0 _ rfl, h 1 _ rfl⟩
/-- A box made ahead. -/
def TZ (w : World) (bb : Nat) : Prop := w.ownsRow bb 57 2 (.slice (some ⟨bb, 0, none⟩) 1 1) 1 [.int .i64 0, .slice none 0 0]
theorem tz_new (w : World) : TZ (w.alloc (.cells #[.int .i64 0, .slice none 0 0] 57)) w.heap.size :=
  ⟨by simp, .inr ⟨w.heap.size, 1, _, rfl, Nat.le_refl _, heap_alloc_new w _, Nat.le_refl _, by decide, by simp, by simp⟩⟩
theorem TZ.below {w w' : World} {bb : Nat} (h : TZ w bb) (hb : Below w.heap.size w w') : TZ w' bb := ownBlock_lt h hb
theorem TZ.put {w : World} {bb : Nat} (h : TZ w bb) (c : Int) (ev : Value) : TB ((w.setCell ⟨bb, 0, none⟩ (.int .i64 c)).setCell ⟨bb, 1, none⟩ ev) bb c ev := by
  have s1 := h.stored 0 (.int .i64 c)
  have s2 := s1.1.stored 1 ev
  have x0 := s2.1.cellAt 0 (by simp)
  have x1 := s2.1.cellAt 1 (by simp)
  exact ⟨by simpa using x0, by simpa using x1⟩
theorem dvI_none_of {o ov : Int} {lss : List (List (List Tm))} {j : Nat} {e : List Int} (h : ∀ m, m < lss.length → isDv o ov j e (lss.getD m []) = false) : dsV o ov lss j e = -1 := by
  have : dvI o ov lss j e = none := by
    unfold dvI
    rw [List.findIdx?_eq_none_iff]
    intro g hg
    obtain ⟨m, hm, rfl⟩ := List.getElem_of_mem hg
    have := h m hm
    simpa [List.getD_eq_getElem?_getD, hm] using this
  unfold dsV; rw [this]
theorem dvI_some_of {o ov : Int} {lss : List (List (List Tm))} {j : Nat} {e : List Int} {k : Nat} (hk : k < lss.length) (h : ∀ m, m < k → isDv o ov j e (lss.getD m []) = false) (h2 : isDv o ov j e (lss.getD k []) = true) : dsV o ov lss j e = k := by
  have : dvI o ov lss j e = some k := by
    unfold dvI
    rw [List.findIdx?_eq_some_iff_getElem]
    refine ⟨hk, by simpa [List.getD_eq_getElem?_getD, hk] using h2, fun m hm => ?_⟩
    have := h m hm
    have hml : m < lss.length := by omega
    simpa [List.getD_eq_getElem?_getD, hml] using this
  unfold dsV; rw [this]
theorem isDv_none {o ov : Int} {j : Nat} {e : List Int} {g : List (List Tm)} (h : leadF o ov g g.length = none) : isDv o ov j e g = false := by unfold isDv; rw [h]
theorem isDv_some {o ov : Int} {j : Nat} {e : List Int} {g : List (List Tm)} {k : Nat} {u : Tm} (h : leadF o ov g g.length = some (k, u)) : isDv o ov j e g = (decide (k = j) && !lackB e u.2) := by unfold isDv; rw [h]

set_option maxRecDepth 100000 in
set_option maxHeartbeats 4000000 in
theorem divisor_any (p n o v : Int) (N j : Nat) (lv te : Value) (c : Int) (lss : List (List (List Tm))) (e : List Int) (w : World) (hov : v = 1 ∨ v = 2) (ho : o = 1 ∨ o = 2) (hN0 : 0 < N) (hN : N ≤ 3) (hL : lss.length ≤ 60) (hr : ∀ g ∈ lss, g.length ≤ 1000 ∧ ∀ f ∈ g, Right p o N f) (hl : Wl w lv lss) (he : e.length = N) (ht : Sl w te e) :
    Calls Tryz.prog 34 #[ringV p n o v, lv, .int .i64 (j : Int), .agg #[.int .i64 c, te]] w fun x w' => x = .returned (.int .i64 (dsV o v lss j e)) ∧ Below w.heap.size w w' := by
  have HR := hid hr
  have HY := hid hl
  have HT := hid ht
  have HE := hid he
  have HOV := hid hov
  have HO := hid ho
  obtain ⟨ly, lc, rfl, _⟩ := hl
  obtain ⟨ta, tc, rfl, hta⟩ := ht
  obtain ⟨tb, toff, rfl, _, htc⟩ := hta (by omega)
  obtain ⟨w1, hw1⟩ : ∃ w1, w1 = w.alloc (.cells #[.int .i64 p, .int .i64 n, .int .i64 o, .int .i64 v] 23) := ⟨_, rfl⟩
  obtain ⟨w2, hw2⟩ : ∃ w2, w2 = w1.alloc (.cells #[.int .i64 c, .slice (some ⟨tb, toff, none⟩) e.length tc] 57) := ⟨_, rfl⟩
  have hs1 : w1.heap.size = w.heap.size + 1 := by rw [hw1]; simp
  have HB1 : Hid (Below w.heap.size w w1) := by rw [hw1]; exact belowNew
  have HB12 : Hid (Below w1.heap.size w1 w2) := by rw [hw2]; exact belowNew
  have HB2 : Hid (Below w.heap.size w w2) := HB1.out.trans (HB12.out.mono HB1.out.size)
  have HX2 : Hid (BoxAt w2 w.heap.size p n o v) := by
    have h : BoxAt w1 w.heap.size p n o v := by rw [hw1]; exact BoxAt.new w p n o v _
    exact h.below HB12.out
  have HT2 : Hid (TB w2 (w.heap.size + 1) c (.slice (some ⟨tb, toff, none⟩) e.length tc)) := by
    show TB _ _ _ _
    rw [hw2, ← hs1]; exact tb_new w1 c _
  clear hr ho hov hta he htc hs1
  unfold ringV
  go_enter Tryz.func34, Tryz.ntmps34
  go_wp2_with fail
  rw [← hw1, ← hw2]
  clear hw1 hw2
  go_loopw [9] (fun i wr => ∃ k : Nat, k ≤ lss.length ∧ i = .int .i64 k ∧ (∀ m, m < k → isDv o v j e (lss.getD m []) = false) ∧ Below w2.heap.size w2 wr) (fun i _ => lss.length - (intOf i).toNat)
  case atStart => exact ⟨0, Nat.zero_le _, rfl, fun m hm => by omega, Below.refl _ _⟩
  case round =>
    obtain ⟨k, hk, rfl, hno, hbr⟩ := hrel
    have HNO := hid hno
    have HBR := hid hbr
    clear hno hbr
    by_cases hk2 : k < lss.length
    · obtain ⟨b2, off2, va, vc, rfl, hlt2, d0, hpv⟩ := wl_at HY.out k hk2
      have HRK := hid (HR.out _ (getD_memV lss k hk2))
      have HIT := hid (fun (h : isDv o v j e (lss.getD k []) = true) => dvI_some_of hk2 HNO.out h)
      have HIF : Hid (isDv o v j e (lss.getD k []) = false → ∀ m, m < k + 1 → isDv o v j e (lss.getD m []) = false) := fun h m hm => by
        rcases Nat.lt_or_ge m k with h1 | h1
        · exact HNO.out m h1
        · have : m = k := by omega
          subst this; exact h
      generalize lss.getD k [] = g at d0 hpv HRK HIT HIF
      have HLE : Hid (∀ W, Below w2.heap.size w2 W → Calls Tryz.prog 33 #[ringV p n o v, .slice va g.length vc] W fun e w' => ∃ ea ec, e = .returned (.tuple #[.int .i64 (plc (leadF o v g g.length)), .agg #[.int .i64 (ldC (leadF o v g g.length)), .slice ea (ldE (leadF o v g g.length)).length ec]]) ∧ Sl w2 (.slice ea (ldE (leadF o v g g.length)).length ec) (ldE (leadF o v g g.length)) ∧ Below W.heap.size W w') := fun W hb =>
        leadOf_old w2 p n o v N _ g W hb HOV.out HO.out hN0 hN HRK.out.1 HRK.out.2 (hpv.below HB2.out)
      unfold ringV at HLE
      have HLU : Hid (∀ q u, leadF o v g g.length = some (q, u) → u.2.length = N) := fun q u h => by
        obtain ⟨h1, us, h2⟩ := leadF_at h
        have hr := HRK.out.2 _ (getD_memL g q (by omega))
        rw [h2] at hr
        exact hr.canon.len u (by simp)
      have HDN := hid (fun (h : leadF o v g g.length = none) => isDv_none (j := j) (e := e) h)
      have HDS := hid (fun q u (h : leadF o v g g.length = some (q, u)) => isDv_some (j := j) (e := e) h)
      generalize leadF o v g g.length = L at HLE HLU HDN HDS
      obtain ⟨_, bx0, bx1, bx2, bx3⟩ := HX2.out
      have hd0 := cell_keep d0 HB2.out
      have KEEP : Hid (∀ W, Below w2.heap.size w2 W → (Hid (Below w2.heap.size w2 W) ∧ W.cell? ⟨w.heap.size, 0, none⟩ = some (.int .i64 p) ∧ W.cell? ⟨w.heap.size, 1, none⟩ = some (.int .i64 n) ∧ W.cell? ⟨w.heap.size, 2, none⟩ = some (.int .i64 o) ∧ W.cell? ⟨w.heap.size, 3, none⟩ = some (.int .i64 v) ∧ W.cell? ⟨b2, off2 + k, none⟩ = some (.slice va g.length vc))) :=
        fun W hb => ⟨hb, cell_keep bx0 hb, cell_keep bx1 hb, cell_keep bx2 hb, cell_keep bx3 hb, cell_keep hd0 hb⟩
      have HB0 : Hid (Below w2.heap.size w2 wr.drew) := HBR.out.drew
      have HBA : Hid (Below w2.heap.size w2 (wr.drew.alloc (.cells #[.int .i64 0, .slice none 0 0] 57))) := HBR.out.drew.trans (belowNew.mono HBR.out.size)
      have HBB : Hid (Below w2.heap.size w2 (wr.alloc (.cells #[.int .i64 0, .slice none 0 0] 57)).drew) := (HBR.out.trans (belowNew.mono HBR.out.size)).drew
      have HZA : Hid (TZ (wr.drew.alloc (.cells #[.int .i64 0, .slice none 0 0] 57)) wr.heap.size) := tz_new wr.drew
      have HZB : Hid (TZ (wr.alloc (.cells #[.int .i64 0, .slice none 0 0] 57)).drew wr.heap.size) := (tz_new wr).below (Below.refl _ _).drew
      have LAYB : Hid (∀ w8 (v0 v1 : Value), Below w2.heap.size w2 w8 → Below w2.heap.size w2 ((w8.setCell ⟨wr.heap.size, 0, none⟩ v0).setCell ⟨wr.heap.size, 1, none⟩ v1)) := fun w8 v0 v1 h => (h.setCell HBR.out.size _).setCell HBR.out.size _
      clear bx0 bx1 bx2 bx3 d0 hd0 hpv
      go_upto_region 4 with fail
      go_cut [10, 11] from 18 to 26 (fun s10 s11 wx => ∃ (bb : Nat) (ea : Option Addr) (ec : Nat), s10 = .int .i64 (plc L) ∧ s11 = .pointer (some ⟨bb, 0, none⟩) ∧ Below w2.heap.size w2 wx ∧ TB wx bb (ldC L) (.slice ea (ldE L).length ec) ∧ Sl w2 (.slice ea (ldE L).length ec) (ldE L))
      case first =>
        go_region_held (fun W => Hid (Below w2.heap.size w2 W) ∧ W.cell? ⟨w.heap.size, 0, none⟩ = some (.int .i64 p) ∧ W.cell? ⟨w.heap.size, 1, none⟩ = some (.int .i64 n) ∧ W.cell? ⟨w.heap.size, 2, none⟩ = some (.int .i64 o) ∧ W.cell? ⟨w.heap.size, 3, none⟩ = some (.int .i64 v) ∧ W.cell? ⟨b2, off2 + k, none⟩ = some (.slice va g.length vc))
          (first | with_reducible exact KEEP.out _ HB0.out | with_reducible exact KEEP.out _ HBA.out | with_reducible exact KEEP.out _ HBB.out | with_reducible exact KEEP.out _ HB8.out | with_reducible exact KEEP.out _ (HB8.out.trans (belowNew.mono HB8.out.size)) | with_reducible exact KEEP.out _ (LAYB.out _ _ _ HB8.out))
          (first
            | (go_at_call 33; refine (HLE.out _ HB0.out).mono ?_; rintro e8 w8 ⟨ea, ec, rfl, hsl, hb8⟩; have HB8 := hid (HB0.out.trans (hb8.mono HB0.out.size)); have HSL := hid hsl; clear hb8 hsl)
            | (go_at_call 33; refine (HLE.out _ HBA.out).mono ?_; rintro e8 w8 ⟨ea, ec, rfl, hsl, hb8⟩; have HB8 := hid (HBA.out.trans (hb8.mono HBA.out.size)); have HSL := hid hsl; have HZ8 := hid (HZA.out.below hb8); clear hb8 hsl; have y0 := World.ownsRow.cellAt HZ8.out 0 (by simp); have y1 := World.ownsRow.cellAt HZ8.out 1 (by simp); have z0 := World.ownsRow.frozenAt HZ8.out 0; have z1 := World.ownsRow.frozenAt HZ8.out 1)
            | (go_at_call 33; refine (HLE.out _ HBB.out).mono ?_; rintro e8 w8 ⟨ea, ec, rfl, hsl, hb8⟩; have HB8 := hid (HBB.out.trans (hb8.mono HBB.out.size)); have HSL := hid hsl; have HZ8 := hid (HZB.out.below hb8); clear hb8 hsl; have y0 := World.ownsRow.cellAt HZ8.out 0 (by simp); have y1 := World.ownsRow.cellAt HZ8.out 1 (by simp); have z0 := World.ownsRow.frozenAt HZ8.out 0; have z1 := World.ownsRow.frozenAt HZ8.out 1))
        all_goals
          go_wp2_with fail
          go_meet
          first
            | exact ⟨_, ea, ec, rfl, rfl, HB8.out.trans (belowNew.mono HB8.out.size), tb_new _ _ _, HSL.out⟩
            | exact ⟨_, ea, ec, rfl, rfl, LAYB.out _ _ _ HB8.out, HZ8.out.put _ _, HSL.out⟩
      case rest =>
        obtain ⟨bb, ea, ec, rfl, rfl, hbx, htb, hsl⟩ := hcut
        have HBX := hid hbx
        have HSL := hid hsl
        obtain ⟨q0, q1⟩ := htb
        obtain ⟨t0, t1⟩ := HT2.out.below hbx
        clear hbx hsl
        cases L with
        | none =>
          have HD := hid (HIF.out (HDN.out rfl))
          obtain ⟨mm, hm1⟩ : ∃ mm : Int, plc none = mm := ⟨_, rfl⟩
          have hm0 : mm < 0 := by rw [← hm1]; decide
          have hd : (mm == (j : Int)) = false := by simp; omega
          have hd2 : decide (mm = (j : Int)) = false := by simp; omega
          rw [hm1]
          clear hm1
          go_wp2_with fail
          go_roundw
          case rel => exact ⟨k + 1, by omega, by go_num, HD.out, HBX.out⟩
          case measure => simp [intOf]; omega
        | some q =>
          obtain ⟨q, u⟩ := q
          have HUL := hid (HLU.out q u rfl)
          have HDD := hid (HDS.out q u rfl)
          rw [plc_some]
          by_cases hq : q = j
          · subst hq
            have q1b : wc.cell? ⟨bb, 1, none⟩ = some (.slice ea u.2.length ec) := q1
            have HSU : Hid (Sl wc (.slice ea u.2.length ec) u.2) := Sl.below HSL.out HBX.out
            have HTU : Hid (Sl wc (.slice (some ⟨tb, toff, none⟩) e.length tc) e) := (HT.out.below HB2.out).below HBX.out
            obtain ⟨ea2, ec2, hee, hse⟩ := HSU.out
            simp only [Value.slice.injEq, true_and] at hee
            obtain ⟨rfl, rfl⟩ := hee
            obtain ⟨eb, eoff, rfl, _, hce⟩ := hse (by rw [HUL.out]; exact hN0)
            obtain ⟨ta2, tc2, het, hst⟩ := HTU.out
            obtain ⟨tb2, toff2, htt, _, hct⟩ := hst (by rw [HE.out]; exact hN0)
            subst htt
            simp only [Value.slice.injEq, Option.some.injEq, Addr.mk.injEq, true_and, and_true] at het
            obtain ⟨⟨rfl, rfl⟩, rfl⟩ := het
            have HG := hid (goesInto_any e u.2 tb toff tc eb eoff ec wc (by rw [HE.out]; exact hN) (by rw [HE.out, HUL.out]) hct hce)
            clear hse hce hst hct q1
            have hd : ((q : Int) == (q : Int)) = true := by simp
            have hd2 : decide ((q : Int) = (q : Int)) = true := by simp
            cases hb : lackB e u.2
            · have HD := hid (HIT.out (by rw [HDD.out, hb]; simp))
              rw [hb] at HG
              go_wp2_with (go_at_call 72; refine HG.out.mono ?_; rintro e9 w9 ⟨rfl, n9, rfl⟩)
              go_ret
              exact ⟨by rw [HD.out]; rfl, HB2.out.trans ((below_drewN HBX.out n9).mono HB2.out.size)⟩
            · have HD := hid (HIF.out (by rw [HDD.out, hb]; simp))
              rw [hb] at HG
              go_wp2_with (go_at_call 72; refine HG.out.mono ?_; rintro e9 w9 ⟨rfl, n9, rfl⟩)
              go_roundw
              case rel => exact ⟨k + 1, by omega, by go_num, HD.out, below_drewN HBX.out n9⟩
              case measure => simp [intOf]; omega
          · have HD : Hid (∀ m, m < k + 1 → isDv o v j e (lss.getD m []) = false) := HIF.out (by rw [HDD.out]; simp [hq])
            have hd : ((q : Int) == (j : Int)) = false := by simp; omega
            have hd2 : decide ((q : Int) = (j : Int)) = false := by simp; omega
            go_wp2_with fail
            go_roundw
            case rel => exact ⟨k + 1, by omega, by go_num, HD.out, HBX.out⟩
            case measure => simp [intOf]; omega
    · have e1 : k = lss.length := by omega
      subst e1
      have HF := hid (dvI_none_of HNO.out)
      go_wp2
      go_ret
      exact ⟨by rw [HF.out]; rfl, HB2.out.trans (HBR.out.mono HB2.out.size)⟩

end Go.Proofs.YtkmjmmnnnbjghaaGreat
