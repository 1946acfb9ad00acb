/- PolyRing: what its polynomials tell. -/
import Derived.Test.YtkmjmmnnnbjghaaGreatPQ
import Derived.Test.YtkmjmmnnnbjghaaGreatWA
import Derived.Test.YtkmjmmnnnbjghaaGreatND
import Derived.Test.YtkmjmmnnnbjghaaGreatWU
namespace Go.Proofs.YtkmjmmnnnbjghaaGreat
set_option linter.unusedSimpArgs false
set_option linter.unusedVariables false
open Go.RowKit

theorem addE_zero {E p o : Int} {f g : List Tm} (h : addE E p o f g = 0) : E = 0 ∧ greatB (colL p o (f ++ g)) = false := by
  by_cases h1 : E = 0
  · cases h2 : greatB (colL p o (f ++ g))
    · exact ⟨h1, rfl⟩
    · have := (addE_yes h1 h2).1; omega
  · have := (addE_bad (p := p) (o := o) (f := f) (g := g) h1).1; omega
theorem mulE_zero {E p o : Int} {f g : List Tm} (h : mulE E p o f g = 0) : E = 0 ∧ greatB (colL p o (prodL p f g)) = false := by
  by_cases h1 : E = 0
  · cases h2 : greatB (colL p o (prodL p f g))
    · exact ⟨h1, rfl⟩
    · have := (mulE_yes h1 h2).1; omega
  · have := (mulE_bad (p := p) (o := o) (f := f) (g := g) h1).1; omega
theorem errFrom_mk {p o : Int} {N : Nat} : ∀ (ts : List Tm) (q : Option (List Int)), (∀ t ∈ ts, (1 ≤ t.1 ∧ t.1 < p) ∧ errM N t.2 = 0) → Falls o ts → (∀ e, q = some e → ∀ t ∈ ts, 0 < ordS o e t.2) → errFrom p N o q ts = 0
  | [], _, _, _, _ => by unfold errFrom; rfl
  | t :: ts, q, h, hf, hq => by
    have hu : errFrom p N o q (t :: ts) = if betweenB t.1 1 (p - 1) = false then 3 else if errM N t.2 ≠ 0 then errM N t.2 else if okPrev o q t.2 = false then 4 else errFrom p N o (some t.2) ts := rfl
    obtain ⟨hc, hm⟩ := h t (by simp)
    have h1 : betweenB t.1 1 (p - 1) = true := by simp [betweenB]; omega
    have h2 : okPrev o q t.2 = true := by
      cases q with
      | none => rfl
      | some e => have := hq e rfl t (by simp); simpa [okPrev, moreB] using this
    rw [hu, if_neg (by simp [h1]), if_neg (by simp [hm]), if_neg (by simp [h2])]
    exact errFrom_mk ts (some t.2) (fun u hu => h u (by simp [hu])) hf.2 (fun e he u hu => by simp at he; rw [← he]; exact hf.1 u hu)
theorem errOne_mk {p o : Int} {N : Nat} {ts : List Tm} (h : Right p o N ts) : errOne p N o ts = 0 := by
  unfold errOne
  rw [if_neg (by have := h.len; omega)]
  refine errFrom_mk ts none (fun t ht => ⟨h.canon.coef t ht, errM_mk (by rw [h.canon.len t ht]) (fun x hx => by have := h.bd t ht x hx; omega) (h.deg t ht)⟩) h.canon.falls (fun e he => by simp at he)
theorem great_ok {ts : List Tm} (h : greatB ts = false) : ts.length ≤ 2000 ∧ ∀ x ∈ ts, sumI x.2 ≤ 200 := by
  unfold greatB at h
  simp only [Bool.or_eq_false_iff, decide_eq_false_iff_not] at h
  refine ⟨by omega, fun x hx => ?_⟩
  have := (topF_ge ts (-1)).2 x hx
  omega
theorem right_mk {p o : Int} {N : Nat} {ts : List Tm} (hc : Canon p o N ts) (hb : ∀ t ∈ ts, ∀ x ∈ t.2, 0 ≤ x ∧ x ≤ 40000) (hg : greatB ts = false) : Right p o N ts := by
  obtain ⟨h1, h2⟩ := great_ok hg
  exact ⟨hc, fun t ht x hx => by have h9 := (errM_ok (errM_mk (n := (N : Int)) (by rw [hc.len t ht]) (hb t ht) (h2 t ht))).2.1 x hx; omega, h1, h2⟩
theorem add_right {p o : Int} {N : Nat} {f g : List Tm} (hp : 2 ≤ p) (hf : Right p o N f) (hg : Right p o N g) (h : greatB (colL p o (f ++ g)) = false) : Right p o N (colL p o (f ++ g)) := by
  refine right_mk ((hf.canon.okl.append hg.canon.okl).col hp) (fun t ht x hx => ?_) h
  obtain ⟨y, hy, e⟩ := col_mem ht
  rw [e] at hx
  have := (List.mem_append.1 hy).elim (fun m => hf.bd y m x hx) (fun m => hg.bd y m x hx)
  omega
theorem mul_right {p o : Int} {N : Nat} {f g : List Tm} (hp : 2 ≤ p) (hf : Right p o N f) (hg : Right p o N g) (h : greatB (colL p o (prodL p f g)) = false) : Right p o N (colL p o (prodL p f g)) := by
  refine right_mk ((hf.canon.okl.prod hp hg.canon.okl).col hp) (fun t ht x hx => ?_) h
  obtain ⟨y, hy, e⟩ := col_mem ht
  simp only [Go.Proofs.YtkmjmmnnnbjghaaGreat.prodL, prodT, List.mem_flatMap, List.mem_map] at hy
  obtain ⟨a, ha, b, hb, rfl⟩ := hy
  rw [e] at hx
  exact zip_bd _ _ (hf.bd a ha) (hg.bd b hb) x hx
theorem one_of {p n o v : Int} {f : List Tm} (hr : errR p n o v = 0) (h : Right p o n.toNat f) : errOne p n o f = 0 := by
  obtain ⟨h1, h2, h3, h4, _⟩ := ring_ok hr
  have e : n = (n.toNat : Int) := by omega
  rw [e]
  exact errOne_mk h

/-- What is known once sum and products are there. -/
structure Good (p n o v : Int) (chk : List (List Tm) → Int) (f g : List Tm) : Prop where
  ring : errR p n o v = 0
  pr : 2 ≤ p ∧ p ≤ 101
  n3 : 0 < n.toNat ∧ n.toNat ≤ 3
  rf : Right p o n.toNat f
  rg : Right p o n.toNat g
  rs : Right p o n.toNat (colL p o (f ++ g))
  rm : Right p o n.toNat (colL p o (prodL p f g))
  swap : colL p o (prodL p g f) = colL p o (prodL p f g)
  c1 : addR (chk [f, g]) p o f g = colL p o (f ++ g)
  c2 : mulR (chk [f, g]) p o f g = colL p o (prodL p f g)
  c3 : mulR (chk [g, f]) p o g f = colL p o (prodL p f g)
  kf : chk [f] = 0
  kg : chk [g] = 0
  ks : chk [colL p o (f ++ g)] = 0
  km : chk [colL p o (prodL p f g)] = 0
theorem good_of {p n o v : Int} {chk : List (List Tm) → Int} (HC : Tells p n o v chk) {f g : List Tm} (h1 : addE (chk [f, g]) p o f g = 0) (h2 : mulE (chk [f, g]) p o f g = 0) (h3 : mulE (chk [g, f]) p o g f = 0) : Good p n o v chk f g := by
  obtain ⟨hE, g1⟩ := addE_zero h1
  obtain ⟨_, g2⟩ := mulE_zero h2
  obtain ⟨hE3, g3⟩ := mulE_zero h3
  obtain ⟨hr, hall⟩ := HC.2.1 [f, g] (by simp) hE
  obtain ⟨rf, n0, n3, _, hp, _⟩ := right_of hr (hall f (by simp))
  obtain ⟨rg, _⟩ := right_of hr (hall g (by simp))
  have rs := add_right hp.1 rf rg g1
  have rm := mul_right hp.1 rf rg g2
  have sw : colL p o (prodL p g f) = colL p o (prodL p f g) := mul_swap hp.1 rg.canon.okl rf.canon.okl
  have k : ∀ x, Right p o n.toNat x → chk [x] = 0 := fun x hx => HC.2.2 hr [x] (fun y hy => by simp at hy; rw [hy]; exact one_of hr hx)
  exact ⟨hr, hp, ⟨n0, n3⟩, rf, rg, rs, rm, sw, (addE_no hE g1).2, (mulE_no hE g2).2, by rw [(mulE_no hE3 g3).2, sw], k f rf, k g rg, k _ rs, k _ rm⟩
/-- What is known once the three products are there, too. -/
structure Dist (p n o : Int) (chk : List (List Tm) → Int) (f g h : List Tm) : Prop where
  cx : mulR (chk [colL p o (f ++ g), h]) p o (colL p o (f ++ g)) h = colL p o (prodL p (colL p o (f ++ g)) h)
  cy : mulR (chk [f, h]) p o f h = colL p o (prodL p f h)
  cz : mulR (chk [g, h]) p o g h = colL p o (prodL p g h)
  rx : Right p o n.toNat (colL p o (prodL p (colL p o (f ++ g)) h))
  et : addE (chk [colL p o (prodL p f h), colL p o (prodL p g h)]) p o (colL p o (prodL p f h)) (colL p o (prodL p g h)) = 0
  ct : addR (chk [colL p o (prodL p f h), colL p o (prodL p g h)]) p o (colL p o (prodL p f h)) (colL p o (prodL p g h)) = colL p o (prodL p (colL p o (f ++ g)) h)
theorem dist_of {p n o v : Int} {chk : List (List Tm) → Int} (HC : Tells p n o v chk) {f g h : List Tm} (G : Good p n o v chk f g) (h1 : mulE (chk [colL p o (f ++ g), h]) p o (colL p o (f ++ g)) h = 0) (h2 : mulE (chk [f, h]) p o f h = 0) (h3 : mulE (chk [g, h]) p o g h = 0) : Dist p n o chk f g h := by
  obtain ⟨e1, g1⟩ := mulE_zero h1
  obtain ⟨e2, g2⟩ := mulE_zero h2
  obtain ⟨e3, g3⟩ := mulE_zero h3
  obtain ⟨_, hall⟩ := HC.2.1 [f, h] (by simp) e2
  obtain ⟨rh, _⟩ := right_of G.ring (hall h (by simp))
  have ry := mul_right G.pr.1 G.rf rh g2
  have rz := mul_right G.pr.1 G.rg rh g3
  have e4 : chk [colL p o (prodL p f h), colL p o (prodL p g h)] = 0 := HC.2.2 G.ring _ (fun y hy => by
    rcases List.mem_cons.1 hy with rfl | hy
    · exact one_of G.ring ry
    · simp at hy; rw [hy]; exact one_of G.ring rz)
  have ma := mul_add (o := o) G.pr.1 G.rf.canon.okl G.rg.canon.okl rh.canon.okl
  obtain ⟨t1, t2⟩ := addE_no e4 (by rw [ma]; exact g1)
  exact ⟨(mulE_no e1 g1).2, (mulE_no e2 g2).2, (mulE_no e3 g3).2, mul_right G.pr.1 G.rs rh g1, t1, by rw [t2, ma]⟩
/-- The values, too. -/
theorem vals_of {p n o v : Int} {chk : List (List Tm) → Int} {f g : List Tm} {xs : List Int} (G : Good p n o v chk f g) (h : valE 0 n p xs = 0) :
    ∃ A B : Int, (0 ≤ A ∧ A < p) ∧ (0 ≤ B ∧ B < p) ∧ valR 0 n p xs f = A ∧ valR 0 n p xs g = B ∧ valR 0 n p xs (colL p o (f ++ g)) = (A + B) % p ∧ valR 0 n p xs (colL p o (prodL p f g)) = A * B % p := by
  have hp := G.pr.1
  have hl : (xs.length : Int) = n := by
    unfold valE at h
    rw [if_neg (by simp)] at h
    split at h
    · omega
    · omega
  have e : xs.length = n.toNat := by omega
  have k : ∀ x, valR 0 n p xs x = lin (mval xs) x % p := fun x => by unfold valR; rw [if_pos h]
  refine ⟨lin (mval xs) f % p, lin (mval xs) g % p, ⟨Int.emod_nonneg _ (by omega), Int.emod_lt_of_pos _ (by omega)⟩, ⟨Int.emod_nonneg _ (by omega), Int.emod_lt_of_pos _ (by omega)⟩, k f, k g, by rw [k, value_sum], ?_⟩
  rw [k, value_prod xs f g (fun t ht => ⟨by rw [G.rf.canon.len t ht, e], fun x hx => (G.rf.bd t ht x hx).1⟩) (fun t ht => ⟨by rw [G.rg.canon.len t ht, e], fun x hx => (G.rg.bd t ht x hx).1⟩)]

end Go.Proofs.YtkmjmmnnnbjghaaGreat

/- What hangs together: the mathematics of DivideHangs. -/
namespace Go.Proofs.YtkmjmmnnnbjghaaGreat
set_option linter.unusedSimpArgs false
set_option linter.unusedVariables false
open Go.RowKit

/-- What the quotients make, at a place. -/
def mk (p : Int) (φ : List Int → Int) (lss : List (List (List Tm))) (q : List (List Tm)) (i : Nat) : Nat → Int
  | 0 => 0
  | k + 1 => mk p φ lss q i k + lin φ (prodL p (q.getD k []) ((lss.getD k []).getD i []))
theorem mk_same {p : Int} {φ : List Int → Int} {lss : List (List (List Tm))} {q q2 : List (List Tm)} {i : Nat} : ∀ k, (∀ m, m < k → q2.getD m [] = q.getD m []) → mk p φ lss q2 i k = mk p φ lss q i k
  | 0, _ => rfl
  | k + 1, h => by simp only [mk]; rw [mk_same k (fun m hm => h m (by omega)), h k (by omega)]
theorem prodL_snoc (p : Int) (f g : List Tm) (b : Tm) : prodL p (f ++ [b]) g = prodL p f g ++ prodT p b g := by
  unfold Go.Proofs.YtkmjmmnnnbjghaaGreat.prodL
  rw [List.flatMap_append]
  simp
theorem mk_put {p : Int} {φ : List Int → Int} {lss : List (List (List Tm))} {q : List (List Tm)} {i m : Nat} {b : Tm} (hm : m < q.length) : ∀ k, mk p φ lss (q.set m (q.getD m [] ++ [b])) i k = mk p φ lss q i k + if m < k then lin φ (prodT p b ((lss.getD m []).getD i [])) else 0
  | 0 => by simp [mk]
  | k + 1 => by
    simp only [mk]
    rw [mk_put hm k]
    by_cases e : m = k
    · subst e
      have e1 : (q.set m (q.getD m [] ++ [b])).getD m [] = q.getD m [] ++ [b] := by simp [List.getD_eq_getElem?_getD, hm]
      rw [e1, prodL_snoc, lin_append, if_neg (by omega), if_pos (by omega)]
      omega
    · have e1 : (q.set m (q.getD m [] ++ [b])).getD k [] = q.getD k [] := by simp [List.getD_eq_getElem?_getD, List.getElem?_set_ne e]
      rw [e1]
      by_cases h : m < k
      · rw [if_pos h, if_pos (by omega)]; omega
      · rw [if_neg h, if_neg (by omega)]; omega
theorem lin_sums {p o : Int} {φ : List Int → Int} {v w : List (List Tm)} {i : Nat} (hl : v.length = w.length) (hi : i < v.length) : p ∣ lin φ ((sums p o v w).getD i []) - (lin φ (v.getD i []) + lin φ (w.getD i [])) := by
  rw [sums_at hl hi, ← lin_append]
  exact lin_col p o φ _
theorem lin_neg {p : Int} (φ : List Int → Int) (b : Tm) (g : List Tm) : p ∣ lin φ (prodL p [(p - b.1, b.2)] g) + lin φ (prodT p b g) := by
  have e : prodL p [(p - b.1, b.2)] g = prodT p (p - b.1, b.2) g := by unfold Go.Proofs.YtkmjmmnnnbjghaaGreat.prodL; simp
  rw [e]
  obtain ⟨a, ha⟩ := lin_prodT p φ (p - b.1, b.2) g
  obtain ⟨c, hc⟩ := lin_prodT p φ b g
  simp only at ha
  refine ⟨a + c + lin (fun x => φ (zipI (· + ·) b.2 x)) g, ?_⟩
  rw [Int.sub_mul] at ha
  rw [Int.mul_add, Int.mul_add]
  omega
/-- All the way: what is left to be divided, what the quotients make, and what is left, are what there was. -/
theorem dv_sum {p o ov : Int} {N R : Nat} (hx : RCx p o ov N R) {lss : List (List (List Tm))} (hl : LOk p o N R lss) {a b : DS} (h : Dv p o ov lss a b) (ha : DInv p o ov N R lss a) (φ : List Int → Int) (i : Nat) (hi : i < R) :
    DInv p o ov N R lss b ∧ p ∣ (lin φ (b.v.getD i []) + mk p φ lss b.q i lss.length + lin φ (b.l.getD i [])) - (lin φ (a.v.getD i []) + mk p φ lss a.q i lss.length + lin φ (a.l.getD i [])) := by
  induction h with
  | refl => exact ⟨ha, ⟨0, by omega⟩⟩
  | step h1 h2 ih =>
    rename_i s s2
    obtain ⟨hs, k0, hk0⟩ := ih
    refine ⟨(dinv_step hx hl hs h2).1, ?_⟩
    have hvl := hs.vl
    unfold dstep at h2
    cases hld : leadF o ov s.v s.v.length with
    | none => rw [hld] at h2; simp at h2
    | some q =>
      obtain ⟨j, t⟩ := q
      rw [hld] at h2
      simp only at h2
      cases hdv : dvI o ov lss j t.2 with
      | none =>
        rw [hdv] at h2
        simp only [Option.some.injEq] at h2
        subst h2
        have hj : j < R := by have := (leadF_at hld).1; omega
        obtain ⟨c1, hc1⟩ := lin_sums (p := p) (o := o) (φ := φ) (v := s.v) (w := atPl s.v.length j [(p - t.1, t.2)]) (i := i) (by simp [atPl]) (by omega)
        simp only
        have e1 := atPl_at (n := s.v.length) (j := j) (i := i) (f := [(p - t.1, t.2)]) (by omega)
        rw [e1] at hc1
        by_cases e : j = i
        · subst e
          have e2 : (s.l.set j (s.l.getD j [] ++ [t])).getD j [] = s.l.getD j [] ++ [t] := by simp [List.getD_eq_getElem?_getD, show j < s.l.length by rw [hs.ll]; exact hj]
          rw [e2, lin_append]
          rw [if_pos rfl] at hc1
          have e3 : lin φ [(p - t.1, t.2)] = p * φ t.2 - t.1 * φ t.2 := by simp [lin, Int.sub_mul]
          have e4 : lin φ [t] = t.1 * φ t.2 := by simp [lin]
          rw [e3] at hc1
          rw [e4]
          refine ⟨c1 + k0 + φ t.2, ?_⟩
          rw [Int.mul_add, Int.mul_add]
          omega
        · have e2 : (s.l.set j (s.l.getD j [] ++ [t])).getD i [] = s.l.getD i [] := by simp [List.getD_eq_getElem?_getD, List.getElem?_set_ne e]
          rw [e2]
          rw [if_neg e] at hc1
          have e3 : lin φ ([] : List Tm) = 0 := rfl
          rw [e3] at hc1
          refine ⟨c1 + k0, ?_⟩
          rw [Int.mul_add]
          omega
      | some m =>
        rw [hdv] at h2
        simp only [Option.some.injEq] at h2
        subst h2
        obtain ⟨hml, hgm, _⟩ := dvI_some hdv
        have hgl := hl.len _ hgm
        generalize byT p t (ldT o ov (lss.getD m [])) = b
        have hpl : (prods p o [(p - b.1, b.2)] (lss.getD m [])).length = R := by unfold prods; rw [List.length_map, hgl]
        obtain ⟨c1, hc1⟩ := lin_sums (p := p) (o := o) (φ := φ) (v := s.v) (w := prods p o [(p - b.1, b.2)] (lss.getD m [])) (i := i) (by rw [hpl, hvl]) (by omega)
        have e1 : (prods p o [(p - b.1, b.2)] (lss.getD m [])).getD i [] = colL p o (prodL p [(p - b.1, b.2)] ((lss.getD m []).getD i [])) := by
          unfold prods
          rw [getD_mapL (fun g => colL p o (prodL p [(p - b.1, b.2)] g)) _ _ (by rw [hgl]; exact hi)]
        rw [e1] at hc1
        obtain ⟨c2, hc2⟩ := lin_col p o φ (prodL p [(p - b.1, b.2)] ((lss.getD m []).getD i []))
        obtain ⟨c3, hc3⟩ := lin_neg (p := p) φ b ((lss.getD m []).getD i [])
        simp only
        rw [mk_put (by rw [hs.ql]; exact hml), if_pos hml]
        refine ⟨c1 + c2 + c3 + k0, ?_⟩
        rw [Int.mul_add, Int.mul_add, Int.mul_add]
        omega
/-- What Combine makes of the quotients. -/
theorem comb_lin {p o : Int} {R : Nat} {lss : List (List (List Tm))} {q : List (List Tm)} (hl : ∀ g ∈ lss, g.length = R) (φ : List Int → Int) (i : Nat) (hi : i < R) : ∀ k, k ≤ lss.length → (combO p o R q lss k).length = R ∧ p ∣ lin φ ((combO p o R q lss k).getD i []) - mk p φ lss q i k
  | 0, _ => by
    refine ⟨by simp [combO], 0, ?_⟩
    have e : (combO p o R q lss 0).getD i [] = [] := by simp [combO, List.getD_eq_getElem?_getD, hi]
    rw [e]; simp [lin, mk]
  | k + 1, hk => by
    obtain ⟨h1, a, ha⟩ := comb_lin hl φ i hi k (by omega)
    have hgl := hl _ (getD_memV lss k (by omega))
    have hpl : (prods p o (q.getD k []) (lss.getD k [])).length = R := by unfold prods; rw [List.length_map, hgl]
    refine ⟨by simp only [combO]; rw [sums_len (by rw [h1, hpl])]; exact h1, ?_⟩
    simp only [combO, mk]
    obtain ⟨c1, hc1⟩ := lin_sums (p := p) (o := o) (φ := φ) (v := combO p o R q lss k) (w := prods p o (q.getD k []) (lss.getD k [])) (i := i) (by rw [h1, hpl]) (by omega)
    have e1 : (prods p o (q.getD k []) (lss.getD k [])).getD i [] = colL p o (prodL p (q.getD k []) ((lss.getD k []).getD i [])) := by
      unfold prods
      rw [getD_mapL (fun g => colL p o (prodL p (q.getD k []) g)) _ _ (by rw [hgl]; exact hi)]
    rw [e1] at hc1
    obtain ⟨c2, hc2⟩ := lin_col p o φ (prodL p (q.getD k []) ((lss.getD k []).getD i []))
    refine ⟨a + c1 + c2, ?_⟩
    rw [Int.mul_add, Int.mul_add]
    omega
/-- What is left is normal. -/
theorem dv_nrm {p o ov : Int} {lss : List (List (List Tm))} {a b : DS} (h : Dv p o ov lss a b) (ha : ∀ i, ∀ t ∈ a.l.getD i [], dvI o ov lss i t.2 = none) : ∀ i, ∀ t ∈ b.l.getD i [], dvI o ov lss i t.2 = none := by
  induction h with
  | refl => exact ha
  | step h1 h2 ih =>
    rename_i s s2
    unfold dstep at h2
    cases hld : leadF o ov s.v s.v.length with
    | none => rw [hld] at h2; simp at h2
    | some q =>
      obtain ⟨j, t⟩ := q
      rw [hld] at h2
      simp only at h2
      cases hdv : dvI o ov lss j t.2 with
      | none =>
        rw [hdv] at h2
        simp only [Option.some.injEq] at h2
        subst h2
        intro i x hx
        simp only [getD_set] at hx
        split at hx
        · rename_i e
          rcases List.mem_append.1 hx with hx | hx
          · rw [← e.1]; exact ih j x hx
          · rw [List.mem_singleton] at hx; rw [hx, ← e.1]; exact hdv
        · exact ih i x hx
      | some m =>
        rw [hdv] at h2
        simp only [Option.some.injEq] at h2
        subst h2
        exact ih

end Go.Proofs.YtkmjmmnnnbjghaaGreat

/- What DivideHangs needs of what comes. -/
namespace Go.Proofs.YtkmjmmnnnbjghaaGreat
set_option linter.unusedSimpArgs false
set_option linter.unusedVariables false
open Go.RowKit

theorem firstOne_mk {p n o : Int} : ∀ {fss : List (List Tm)}, (∀ f ∈ fss, errOne p n o f = 0) → firstOne p n o fss = 0
  | [], _ => rfl
  | g :: r, h => by
    simp only [firstOne]
    rw [if_pos (h g (by simp))]
    exact firstOne_mk fun f hf => h f (by simp [hf])
theorem errVecs_one {p n o v : Int} {R : Nat} {w : List (List Tm)} (hR : errR p n o v = 0) (h1 : 1 ≤ R) (h2 : R ≤ 40) (hl : w.length = R) (hw : ∀ f ∈ w, errOne p n o f = 0) : errVecs p n o v (R : Int) [w] = 0 := by
  unfold errVecs
  rw [if_neg (by simpa using hR)]
  unfold errList
  have hb : betweenB (R : Int) 1 40 = true := by simp [betweenB]; omega
  rw [if_neg (by simp [hb]), if_neg (by simp)]
  have hv : errVec p n o (R : Int) w = 0 := by
    unfold errVec
    rw [if_neg (by omega)]
    exact firstOne_mk hw
  simp [firstZ, hv]
theorem errAlike_two {p n o v : Int} {R : Nat} {a b : List (List Tm)} (hR : errR p n o v = 0) (h1 : 1 ≤ R) (h2 : R ≤ 40) (ha : a.length = R) (hb : b.length = R) (wa : ∀ f ∈ a, errOne p n o f = 0) (wb : ∀ f ∈ b, errOne p n o f = 0) : errAlike p n o v [a, b] = 0 := by
  unfold errAlike
  rw [if_neg (by simpa using hR)]
  have k1 : badR a = false := by unfold badR; simp [betweenB]; omega
  have k2 : badR b = false := by unfold badR; simp [betweenB]; omega
  have k3 : unlV a.length a = false := by unfold unlV; simp
  have k4 : unlV a.length b = false := by unfold unlV; simp; omega
  have e : ([a, b].getD 0 []) = a := rfl
  rw [e]
  simp only [List.any_cons, List.any_nil, k1, k2, k3, k4, Bool.or_false, Bool.false_eq_true, if_false]
  simp [firstZ, firstOne_mk wa, firstOne_mk wb]
/-- What comes together. -/
structure HangD (p o v rank : Int) (N : Nat) (u : List (List Tm)) (vss : List (List (List Tm))) (f : DS) : Prop where
  err : errDiv p N o v rank f.l vss = 0
  nrm : nrmB o v vss f.l = true
  add : errComb p N o v rank f.q vss = 0 → visE (errAlike p N o v [combR p N o v rank f.q vss, f.l]) (sums p o (combR p N o v rank f.q vss) f.l) = 0 ∧ visR (errAlike p N o v [combR p N o v rank f.q vss, f.l]) (sums p o (combR p N o v rank f.q vss) f.l) = u
  ok : ∀ g ∈ u, OkP g
  ul : u.length ≤ 1000
theorem lead_none_all {o ov : Int} {v : List (List Tm)} : ∀ k, k ≤ v.length → leadF o ov v k = none → ∀ i, i < k → v.getD i [] = []
  | 0, _, _, i, hi => by omega
  | k + 1, hk, h, i, hi => by
    have e : leadF o ov v (k + 1) = leadStep o ov (leadF o ov v k) k (v.getD k []) := rfl
    rw [e] at h
    cases hf : v.getD k [] with
    | nil =>
      rw [hf] at h
      have h2 : leadF o ov v k = none := by
        cases hl : leadF o ov v k with
        | none => rfl
        | some q => rw [hl] at h; simp [leadStep] at h
      rcases Nat.lt_or_ge i k with h3 | h3
      · exact lead_none_all k (by omega) h2 i h3
      · have : i = k := by omega
        rw [this]; exact hf
    | cons t ts =>
      exfalso
      rw [hf] at h
      cases hl : leadF o ov v k with
      | none => rw [hl] at h; simp [leadStep] at h
      | some q =>
        obtain ⟨j, x⟩ := q
        rw [hl] at h
        simp only [leadStep] at h
        split at h <;> simp at h
theorem hang_of {p o v rank : Int} {N R : Nat} {u : List (List Tm)} {vss : List (List (List Tm))} {f : DS} (he : errDiv p N o v rank u vss = 0) (hR : rank = (R : Int)) (hx : RCx p o v N R) (hlo : LOk p o N R vss) (hrl : ∀ g ∈ vss, ∀ f ∈ g, Right p o N f) (hul : u.length = R) (hur : ∀ f ∈ u, Right p o N f) (hR1 : 1 ≤ R) (hdv : Dv p o v vss ⟨u, List.replicate vss.length [], List.replicate R []⟩ f) (hi : DInv p o v N R vss f) (hend : dstep p o v vss f = none) (hg : f.q.any greatB = false ∧ f.l.any greatB = false) : HangD p o v rank N u vss f := by
  obtain ⟨hp1, hp2⟩ := errP_bd hx.pr
  have hR40 := hx.r
  have hvs : errVecs p N o v rank vss = 0 := by
    unfold errDiv at he
    by_cases h : errVecs p N o v rank vss = 0
    · exact h
    · rw [if_pos h] at he; exact absurd he h
  have hRr : errR p N o v = 0 := (errVecs_ok hvs).1
  have hlr : ∀ g ∈ f.l, Right p o N g := fun g hgm => by
    obtain ⟨c1, c2, _⟩ := vok_bd hx hi.lok hi.ll g hgm
    exact right_mk c1 (fun t ht x hx => by have := c2 t ht x hx; omega) (by have := List.any_eq_false.1 hg.2 g hgm; simpa using this)
  have hqr : ∀ g ∈ f.q, Right p o N g := fun g hgm => by
    have hgb : greatB g = false := by have := List.any_eq_false.1 hg.1 g hgm; simpa using this
    obtain ⟨i, hil, rfl⟩ := List.getElem_of_mem hgm
    have e : f.q.getD i [] = f.q[i] := by simp [List.getD_eq_getElem?_getD, hil]
    obtain ⟨c1, c2, c3⟩ := hi.qok i
    rw [e] at c1 c2 c3
    exact right_mk c1 (fun t ht x hx => by have h1 := c2 t ht; have h2 := le_sumI h1 x hx; have h3 := c3 t ht; exact ⟨h1 x hx, by omega⟩) hgb
  have hokU : ∀ g ∈ u, OkP g := fun g hgm => by
    have hr := hur g hgm
    have h0 := hx.n0
    have h3 := hx.n3
    have hl2 := hr.len
    exact ⟨by omega, fun t ht => ⟨by rw [hr.canon.len t ht]; omega, by rw [hr.canon.len t ht]; omega, fun x hx => by have := hr.bd t ht x hx; omega⟩⟩
  refine ⟨?_, ?_, fun hc => ?_, hokU, by omega⟩
  · unfold errDiv
    rw [if_neg (by simpa using hvs), hR]
    exact errVecs_one hRr hR1 hR40 hi.ll fun g hgm => errOne_mk (hlr g hgm)
  · refine nrm_true fun i _ t ht => ?_
    refine dv_nrm hdv (fun i t ht => ?_) i t ht
    have e : (List.replicate R ([] : List Tm)).getD i [] = [] := by
      rw [List.getD_eq_getElem?_getD]
      by_cases h : i < R <;> simp [h]
    simp only at ht
    rw [e] at ht; simp at ht
  · have hcR : combR p N o v rank f.q vss = combO p o R f.q vss vss.length := by unfold combR; rw [if_pos hc, hR]; simp
    have hA : AllR p o N R f.q vss := ⟨hqr, fun g hgm => ⟨hlo.len g hgm, hrl g hgm⟩, hi.ql⟩
    have hcg : (combO p o R f.q vss vss.length).any greatB = false := by
      cases hb : (combO p o R f.q vss vss.length).any greatB with
      | false => rfl
      | true =>
        exfalso
        unfold errComb at hc
        rw [if_neg (by simpa using hvs), if_neg (by rw [hi.ql]; simp)] at hc
        split at hc
        · rename_i h; exact h hc
        · rw [if_pos (Or.inr (by rw [hR]; simpa using hb))] at hc
          omega
    have hcl : (combO p o R f.q vss vss.length).length = R := (combO_at hp1 hA (k := 0) (by omega) vss.length (Nat.le_refl _)).1
    have hcr : ∀ g ∈ combO p o R f.q vss vss.length, Right p o N g := fun g hgm => by
      have hgb : greatB g = false := by have := List.any_eq_false.1 hcg g hgm; simpa using this
      obtain ⟨k, hkl, rfl⟩ := List.getElem_of_mem hgm
      have hk : k < R := by omega
      have e1 := (combO_at hp1 hA hk vss.length (Nat.le_refl _)).2
      have e : (combO p o R f.q vss vss.length).getD k [] = (combO p o R f.q vss vss.length)[k] := by simp [List.getD_eq_getElem?_getD, hkl]
      have hok := hA.okl hp1 (m := vss.length) (Nat.le_refl _) hk
      rw [e] at e1
      rw [e1] at hgb ⊢
      refine right_mk (hok.col hp1) (fun t ht x hx2 => ?_) hgb
      obtain ⟨y, hy, ey⟩ := col_mem ht
      obtain ⟨h, hh, hyh⟩ := List.mem_flatten.1 hy
      obtain ⟨i, hi2, rfl⟩ := prKs_mem hh
      rw [ey] at hx2
      have := (hA.pr hp1 hi2 hk).2 y hyh x hx2
      omega
    have hsum : sums p o (combO p o R f.q vss vss.length) f.l = u := by
      have hl1 : (combO p o R f.q vss vss.length).length = f.l.length := by rw [hcl, hi.ll]
      have hsl : (sums p o (combO p o R f.q vss vss.length) f.l).length = u.length := by rw [sums_len hl1, hcl, hul]
      apply List.ext_getElem hsl
      intro i h1 h2
      have hiR : i < R := by omega
      have e1 : (sums p o (combO p o R f.q vss vss.length) f.l)[i] = colL p o ((combO p o R f.q vss vss.length).getD i [] ++ f.l.getD i []) := by
        rw [← sums_at hl1 (by omega)]; rw [List.getD_eq_getElem?_getD, List.getElem?_eq_getElem h1]; rfl
      have e2 : u[i] = u.getD i [] := by simp [List.getD_eq_getElem?_getD, h2]
      rw [e1, e2]
      have hcO : Okl p N ((combO p o R f.q vss vss.length).getD i [] ++ f.l.getD i []) := ((hcr _ (getD_memL _ i (by omega))).canon.okl).append ((hlr _ (getD_memL _ i (by rw [hi.ll]; exact hiR))).canon.okl)
      refine (col_of_canon hp1 hcO.len hcO.coef (hur _ (getD_memL u i h2)).canon fun φ => ?_).symm
      obtain ⟨_, k1, hk1⟩ := dv_sum hx hlo hdv (dinv_start hx.ov hul hur) φ i hiR
      obtain ⟨_, k2, hk2⟩ := comb_lin (p := p) (o := o) (q := f.q) hlo.len φ i hiR vss.length (Nat.le_refl _)
      have e3 : f.v.getD i [] = [] := lead_none_all f.v.length (Nat.le_refl _) (dstep_lead hend) i (by rw [hi.vl]; exact hiR)
      have e4 : (List.replicate R ([] : List Tm)).getD i [] = [] := by simp [List.getD_eq_getElem?_getD, hiR]
      have e5 : ∀ k, mk p φ vss (List.replicate vss.length []) i k = 0 := fun k => by
        induction k with
        | zero => rfl
        | succ k ih =>
          simp only [mk]
          rw [ih]
          have e6 : (List.replicate vss.length ([] : List Tm)).getD k [] = [] := by
            rw [List.getD_eq_getElem?_getD]
            by_cases h : k < vss.length <;> simp [h]
          rw [e6]; rfl
      simp only at hk1
      rw [e3, e4, e5] at hk1
      have e7 : lin φ ([] : List Tm) = 0 := rfl
      rw [e7] at hk1
      rw [lin_append]
      refine ⟨-k1 - k2, ?_⟩
      rw [Int.mul_sub, Int.mul_neg]
      omega
    have hal : errAlike p N o v [combO p o R f.q vss vss.length, f.l] = 0 := errAlike_two hRr hR1 hR40 hcl hi.ll (fun g hgm => errOne_mk (hcr g hgm)) (fun g hgm => errOne_mk (hlr g hgm))
    have hug : u.any greatB = false := by
      rw [List.any_eq_false]
      intro g hgm
      have hr := hur g hgm
      rw [great_small hr.deg]
      have := hr.len
      simp; omega
    rw [hcR, hal, hsum]
    have hv0 : visE 0 u = 0 := by unfold visE; simp [hug]
    exact ⟨hv0, by unfold visR; rw [if_pos hv0]⟩

end Go.Proofs.YtkmjmmnnnbjghaaGreat

/- DivideHangs in its ways. -/
namespace Go.Proofs.YtkmjmmnnnbjghaaGreat
set_option linter.unusedSimpArgs false
set_option linter.unusedVariables false
open Go.RowKit

set_option maxRecDepth 100000 in
set_option maxHeartbeats 4000000 in
/-- Where Divide tells an error. -/
theorem divideHangs_bad (p n o v rank E : Int) (x lv : Value) (u : List (List Tm)) (vss : List (List (List Tm))) (w w1 : World) (hu : Vl w x u) (hl : Wl w lv vss) (hw1 : w1 = w.alloc (.cells #[.int .i64 p, .int .i64 n, .int .i64 o, .int .i64 v] 23)) (he : E ≠ 0)
    (hd : ∀ W, Below w1.heap.size w1 W → Calls Tryz.prog 5 #[ringV p n o v, .int .i64 rank, x, lv] W fun e w' => e = .returned (.tuple #[.slice none 0 0, .slice none 0 0, .int .i64 E]) ∧ Below W.heap.size W w') :
    Calls Tryz.prog 4 #[ringV p n o v, .int .i64 rank, x, lv] w fun e w' => e = .returned (.bool true) ∧ Below w.heap.size w w' := by
  have HB1 : Hid (Below w.heap.size w w1) := by rw [hw1]; exact belowNew
  have HX1 : Hid (BoxAt w1 w.heap.size p n o v) := by rw [hw1]; exact BoxAt.new w p n o v _
  have HDV := hid hd
  have HBG := hid (fun W => divideBegun_any W)
  have HVB := hid (fun W => vectorBegun_any W)
  obtain ⟨_, r0, r1, r2, r3⟩ := HX1.out
  obtain ⟨xa, xc, rfl, _⟩ := hu
  obtain ⟨la, lc, rfl, _⟩ := hl
  have hE : (E == 0) = false := by simpa using he
  have hE2 : (E != 0) = true := by simpa using he
  unfold ringV at HDV ⊢
  clear hd
  go_enter Tryz.func4, Tryz.ntmps4
  go_upto_region 1 with fail
  rw [← hw1]
  clear hw1
  go_wp2_with (first
    | (go_at_call 11; refine (HBG.out _).mono ?_; rintro e wa ⟨rfl, hba⟩; have HBA := hid hba; have ra0 := cell_keep r0 hba; have ra1 := cell_keep r1 hba; have ra2 := cell_keep r2 hba; have ra3 := cell_keep r3 hba; clear hba)
    | (go_at_call 13; refine (HVB.out _).mono ?_; rintro e wb ⟨rfl, hbb⟩; have HB0 := hid (HBA.out.trans (hbb.mono HBA.out.size)); have s0 := cell_keep ra0 hbb; have s1 := cell_keep ra1 hbb; have s2 := cell_keep ra2 hbb; have s3 := cell_keep ra3 hbb; clear hbb)
    | (go_at_call 5; refine (HDV.out _ HB0.out).mono ?_; rintro e w2 ⟨rfl, hb2⟩; have HB2 := hid (HB0.out.trans (hb2.mono HB0.out.size)); clear hb2))
  go_ret
  exact ⟨rfl, HB1.out.trans (HB2.out.mono HB1.out.size)⟩

set_option maxRecDepth 100000 in
set_option maxHeartbeats 4000000 in
/-- Where it does not. -/
theorem divideHangs_ok (p o v rank : Int) (N R : Nat) (x lv : Value) (u : List (List Tm)) (vss : List (List (List Tm))) (f : DS) (w w1 : World) (hu : Vl w x u) (hl : Wl w lv vss) (hw1 : w1 = w.alloc (.cells #[.int .i64 p, .int .i64 N, .int .i64 o, .int .i64 v] 23)) (hf : FinD p o v rank N R x lv u vss w1 f) (hh : HangD p o v rank N u vss f) (hg : f.q.any greatB = false ∧ f.l.any greatB = false) :
    Calls Tryz.prog 4 #[ringV p N o v, .int .i64 rank, x, lv] w fun e w' => e = .returned (.bool true) ∧ Below w.heap.size w w' := by
  have HB1 : Hid (Below w.heap.size w w1) := by rw [hw1]; exact belowNew
  have HX1 : Hid (BoxAt w1 w.heap.size p N o v) := by rw [hw1]; exact BoxAt.new w p N o v _
  have HU1 := hid (hu.below HB1.out)
  have HL1 := hid (hl.below HB1.out)
  have HDV := hid (hf.small hg.1 hg.2)
  have HBG := hid (fun W => divideBegun_any W)
  have HVB := hid (fun W => vectorBegun_any W)
  have HH := hid hh
  obtain ⟨_, r0, r1, r2, r3⟩ := HX1.out
  obtain ⟨xa, xc, rfl, _⟩ := hu
  obtain ⟨la, lc, rfl, _⟩ := hl
  unfold ringV at HDV ⊢
  clear hf hh hg
  go_enter Tryz.func4, Tryz.ntmps4
  go_upto_region 1 with fail
  rw [← hw1]
  clear hw1
  go_upto_region 6 with (first
    | (go_at_call 11; refine (HBG.out _).mono ?_; rintro e wa ⟨rfl, hba⟩; have HBA := hid hba; have ra0 := cell_keep r0 hba; have ra1 := cell_keep r1 hba; have ra2 := cell_keep r2 hba; have ra3 := cell_keep r3 hba; clear hba)
    | (go_at_call 13; refine (HVB.out _).mono ?_; rintro e wb ⟨rfl, hbb⟩; have HB0 := hid (HBA.out.trans (hbb.mono HBA.out.size)); have s0 := cell_keep ra0 hbb; have s1 := cell_keep ra1 hbb; have s2 := cell_keep ra2 hbb; have s3 := cell_keep ra3 hbb; clear hbb)
    | (go_at_call 5; refine (HDV.out _ HB0.out).mono ?_; rintro e w2 ⟨qa, qc, ya, yc, rfl, hq2, hx2, hb2⟩; have HQ2 := hid hq2; have HX2 := hid hx2; have HB2 := hid (HB0.out.trans (hb2.mono HB0.out.size)); have q0 := cell_keep s0 hb2; have q1 := cell_keep s1 hb2; have q2 := cell_keep s2 hb2; have q3 := cell_keep s3 hb2; clear hq2 hx2 hb2))
  have HN : Hid (Calls Tryz.prog 6 #[ringV p N o v, .int .i64 rank, .slice ya f.l.length yc, .slice la vss.length lc] w2 fun e w' => e = .returned (.tuple #[.bool true, .int .i64 0]) ∧ Below w2.heap.size w2 w') := by
    have h := normal_ok p o v rank N _ _ f.l vss w2 HX2.out (HL1.out.below HB2.out) HH.out.err
    rw [HH.out.nrm] at h; exact h
  unfold ringV at HN
  go_upto_region 9 with (go_at_call 6; refine HN.out.mono ?_; rintro e w3 ⟨rfl, hb3⟩; have HB23 := hid hb3; have HB3 := hid (HB2.out.trans (hb3.mono HB2.out.size)); have t0 := cell_keep q0 hb3; have t1 := cell_keep q1 hb3; have t2 := cell_keep q2 hb3; have t3 := cell_keep q3 hb3; clear hb3)
  have HC := hid (vecCombine_any p N o v rank _ _ f.q vss w3 (HQ2.out.below HB23.out) (HL1.out.below HB3.out))
  have HADD := hid HH.out.add
  generalize hE : errComb p N o v rank f.q vss = E at HC HADD
  have HEE := hid hE
  clear hE
  generalize combR p N o v rank f.q vss = cb at HC HADD
  unfold ringV at HC
  by_cases hz : E = 0
  · subst hz
    obtain ⟨a1, a2⟩ := HADD.out rfl
    have HA := hid (And.intro a1 a2)
    clear a1 a2
    go_upto_region 12 with (go_at_call 14; refine HC.out.mono ?_; rintro e w4 ⟨cu, rfl, hcu, hb4⟩; have HCU := hid hcu; have HB34 := hid hb4; have HB4 := hid (HB3.out.trans (hb4.mono HB3.out.size)); have m0 := cell_keep t0 hb4; have m1 := cell_keep t1 hb4; have m2 := cell_keep t2 hb4; have m3 := cell_keep t3 hb4; obtain ⟨ca, cc, rfl, _⟩ := hcu; clear hb4)
    have HAD : Hid (Calls Tryz.prog 15 #[ringV p N o v, .slice ca cb.length cc, .slice ya f.l.length yc] w4 fun e w' => ∃ da dc, e = .returned (.tuple #[.slice da u.length dc, .int .i64 0]) ∧ Vl w' (.slice da u.length dc) u ∧ Below w4.heap.size w4 w') := by
      refine (vecAdd_any p N o v _ _ cb f.l w4 HCU.out ((HX2.out.below HB23.out).below HB34.out)).mono ?_
      rw [HA.out.1, HA.out.2]
      rintro e w' ⟨z, rfl, hz, hb⟩
      have hz2 := hz
      obtain ⟨da, dc, rfl, _⟩ := hz
      exact ⟨da, dc, rfl, hz2, hb⟩
    unfold ringV at HAD
    go_wp2_with (first
      | (go_at_call 15; refine HAD.out.mono ?_; rintro e w5 ⟨da, dc, rfl, hd5, hb5⟩; have HD5 := hid hd5; have HB5 := hid (HB4.out.trans (hb5.mono HB4.out.size)); clear hd5 hb5)
      | (go_at_call 12; refine (sameVector_any _ _ u w5 HH.out.ul HH.out.ok HD5.out (HU1.out.below HB5.out)).mono ?_; rintro e w6 ⟨rfl, hb6⟩; have HB6 := hid (HB5.out.trans (hb6.mono HB5.out.size)); clear hb6))
    go_ret
    exact ⟨rfl, HB1.out.trans (HB6.out.mono HB1.out.size)⟩
  · have hE1 : (E == 0) = false := by simpa using hz
    have hE2 : (E != 0) = true := by simpa using hz
    go_wp2_with (go_at_call 14; refine HC.out.mono ?_; rintro e w4 ⟨cu, rfl, hcu, hb4⟩; have HB4 := hid (HB3.out.trans (hb4.mono HB3.out.size)); clear hcu hb4)
    go_ret
    exact ⟨rfl, HB1.out.trans (HB4.out.mono HB1.out.size)⟩

theorem divideHangs_any (p n o v rank : Int) (x lv : Value) (u : List (List Tm)) (vss : List (List (List Tm))) (w : World) (hu : Vl w x u) (hl : Wl w lv vss) :
    Calls Tryz.prog 4 #[ringV p n o v, .int .i64 rank, x, lv] w fun e w' => e = .returned (.bool true) ∧ Below w.heap.size w w' := by
  by_cases he : errDiv p n o v rank u vss = 0
  · have hn : 0 < n := by
      have h1 : errVecs p n o v rank vss = 0 := by
        unfold errDiv at he
        by_cases h : errVecs p n o v rank vss = 0
        · exact h
        · rw [if_pos h] at he; exact absurd he h
      have := (ring_ok (errVecs_ok h1).1).2.1
      omega
    obtain ⟨N, rfl⟩ : ∃ N : Nat, n = N := ⟨n.toNat, by omega⟩
    obtain ⟨w1, hw1⟩ : ∃ w1, w1 = w.alloc (.cells #[.int .i64 p, .int .i64 N, .int .i64 o, .int .i64 v] 23) := ⟨_, rfl⟩
    have hb : Below w.heap.size w w1 := by rw [hw1]; exact belowNew
    obtain ⟨R, f, hR, hx, hlo, hrl, hul, hur, hR1, hdv, hi, hend, _, hf⟩ := fin_all (hu.below hb) (hl.below hb) he
    cases h1 : f.q.any greatB with
    | true => exact divideHangs_bad p N o v rank 2 x lv u vss w w1 hu hl hw1 (by decide) (hf.great (by rw [h1]; rfl))
    | false =>
      cases h2 : f.l.any greatB with
      | true => exact divideHangs_bad p N o v rank 2 x lv u vss w w1 hu hl hw1 (by decide) (hf.great (by rw [h1, h2]; rfl))
      | false => exact divideHangs_ok p o v rank N R x lv u vss f w w1 hu hl hw1 hf (hang_of he hR hx hlo hrl hul hur hR1 hdv hi hend ⟨h1, h2⟩) ⟨h1, h2⟩
  · obtain ⟨w1, hw1⟩ : ∃ w1, w1 = w.alloc (.cells #[.int .i64 p, .int .i64 n, .int .i64 o, .int .i64 v] 23) := ⟨_, rfl⟩
    have hb : Below w.heap.size w w1 := by rw [hw1]; exact belowNew
    exact divideHangs_bad p n o v rank _ x lv u vss w w1 hu hl hw1 he fun W hW => divide_err p n o v rank x lv u vss W ((hu.below hb).below hW) ((hl.below hb).below hW) he

end Go.Proofs.YtkmjmmnnnbjghaaGreat
