/- PolyRing: what its polynomials tell. -/
import Derived.Test.YtilogbggilchaaaDoorPX
import Derived.Test.YtilogbggilchaaaDoorPM
namespace Go.Proofs.YtilogbggilchaaaDoor
set_option linter.unusedSimpArgs false
set_option linter.unusedVariables false
open Go.RowKit
theorem addE_zero {E p o : Int} {f g : List Tm} (h : addE E p o f g = 0) : E = 0 ∧ greatB (colL p o (f ++ g)) = false := by
  by_cases h1 : E = 0
  · cases h2 : greatB (colL p o (f ++ g))
    · exact ⟨h1, rfl⟩
    · have := (addE_yes h1 h2).1; omega
  · have := (addE_bad (p := p) (o := o) (f := f) (g := g) h1).1; omega
theorem mulE_zero {E p o : Int} {f g : List Tm} (h : mulE E p o f g = 0) : E = 0 ∧ greatB (colL p o (prodL p f g)) = false := by
  by_cases h1 : E = 0
  · cases h2 : greatB (colL p o (prodL p f g))
    · exact ⟨h1, rfl⟩
    · have := (mulE_yes h1 h2).1; omega
  · have := (mulE_bad (p := p) (o := o) (f := f) (g := g) h1).1; omega
theorem errFrom_mk {p o : Int} {N : Nat} : ∀ (ts : List Tm) (q : Option (List Int)), (∀ t ∈ ts, (1 ≤ t.1 ∧ t.1 < p) ∧ errM N t.2 = 0) → Falls o ts → (∀ e, q = some e → ∀ t ∈ ts, 0 < ordS o e t.2) → errFrom p N o q ts = 0
  | [], _, _, _, _ => by unfold errFrom; rfl
  | t :: ts, q, h, hf, hq => by
    have hu : errFrom p N o q (t :: ts) = if betweenB t.1 1 (p - 1) = false then 3 else if errM N t.2 ≠ 0 then errM N t.2 else if okPrev o q t.2 = false then 4 else errFrom p N o (some t.2) ts := rfl
    obtain ⟨hc, hm⟩ := h t (by simp)
    have h1 : betweenB t.1 1 (p - 1) = true := by simp [betweenB]; omega
    have h2 : okPrev o q t.2 = true := by
      cases q with
      | none => rfl
      | some e => have := hq e rfl t (by simp); simpa [okPrev, moreB] using this
    rw [hu, if_neg (by simp [h1]), if_neg (by simp [hm]), if_neg (by simp [h2])]
    exact errFrom_mk ts (some t.2) (fun u hu => h u (by simp [hu])) hf.2 (fun e he u hu => by simp at he; rw [← he]; exact hf.1 u hu)
theorem errOne_mk {p o : Int} {N : Nat} {ts : List Tm} (h : Right p o N ts) : errOne p N o ts = 0 := by
  unfold errOne
  rw [if_neg (by have := h.len; omega)]
  refine errFrom_mk ts none (fun t ht => ⟨h.canon.coef t ht, errM_mk (by rw [h.canon.len t ht]) (fun x hx => by have := h.bd t ht x hx; omega) (h.deg t ht)⟩) h.canon.falls (fun e he => by simp at he)
theorem great_ok {ts : List Tm} (h : greatB ts = false) : ts.length ≤ 2000 ∧ ∀ x ∈ ts, sumI x.2 ≤ 200 := by
  unfold greatB at h
  simp only [Bool.or_eq_false_iff, decide_eq_false_iff_not] at h
  refine ⟨by omega, fun x hx => ?_⟩
  have := (topF_ge ts (-1)).2 x hx
  omega
theorem right_mk {p o : Int} {N : Nat} {ts : List Tm} (hc : Canon p o N ts) (hb : ∀ t ∈ ts, ∀ x ∈ t.2, 0 ≤ x ∧ x ≤ 400) (hg : greatB ts = false) : Right p o N ts := by
  obtain ⟨h1, h2⟩ := great_ok hg
  exact ⟨hc, fun t ht x hx => by have h9 := (errM_ok (errM_mk (n := (N : Int)) (by rw [hc.len t ht]) (hb t ht) (h2 t ht))).2.1 x hx; omega, h1, h2⟩
theorem add_right {p o : Int} {N : Nat} {f g : List Tm} (hp : 2 ≤ p) (hf : Right p o N f) (hg : Right p o N g) (h : greatB (colL p o (f ++ g)) = false) : Right p o N (colL p o (f ++ g)) := by
  refine right_mk ((hf.canon.okl.append hg.canon.okl).col hp) (fun t ht x hx => ?_) h
  obtain ⟨y, hy, e⟩ := col_mem ht
  rw [e] at hx
  have := (List.mem_append.1 hy).elim (fun m => hf.bd y m x hx) (fun m => hg.bd y m x hx)
  omega
theorem mul_right {p o : Int} {N : Nat} {f g : List Tm} (hp : 2 ≤ p) (hf : Right p o N f) (hg : Right p o N g) (h : greatB (colL p o (prodL p f g)) = false) : Right p o N (colL p o (prodL p f g)) := by
  refine right_mk ((hf.canon.okl.prod hp hg.canon.okl).col hp) (fun t ht x hx => ?_) h
  obtain ⟨y, hy, e⟩ := col_mem ht
  simp only [Go.Proofs.YtilogbggilchaaaDoor.prodL, prodT, List.mem_flatMap, List.mem_map] at hy
  obtain ⟨a, ha, b, hb, rfl⟩ := hy
  rw [e] at hx
  exact zip_bd _ _ (hf.bd a ha) (hg.bd b hb) x hx
theorem one_of {p n o v : Int} {f : List Tm} (hr : errR p n o v = 0) (h : Right p o n.toNat f) : errOne p n o f = 0 := by
  obtain ⟨h1, h2, h3, h4, _⟩ := ring_ok hr
  have e : n = (n.toNat : Int) := by omega
  rw [e]
  exact errOne_mk h

structure Good (p n o v : Int) (chk : List (List Tm) → Int) (f g : List Tm) : Prop where
  ring : errR p n o v = 0
  pr : 2 ≤ p ∧ p ≤ 101
  n3 : 0 < n.toNat ∧ n.toNat ≤ 3
  rf : Right p o n.toNat f
  rg : Right p o n.toNat g
  rs : Right p o n.toNat (colL p o (f ++ g))
  rm : Right p o n.toNat (colL p o (prodL p f g))
  swap : colL p o (prodL p g f) = colL p o (prodL p f g)
  c1 : addR (chk [f, g]) p o f g = colL p o (f ++ g)
  c2 : mulR (chk [f, g]) p o f g = colL p o (prodL p f g)
  c3 : mulR (chk [g, f]) p o g f = colL p o (prodL p f g)
  kf : chk [f] = 0
  kg : chk [g] = 0
  ks : chk [colL p o (f ++ g)] = 0
  km : chk [colL p o (prodL p f g)] = 0
theorem good_of {p n o v : Int} {chk : List (List Tm) → Int} (HC : Tells p n o v chk) {f g : List Tm} (h1 : addE (chk [f, g]) p o f g = 0) (h2 : mulE (chk [f, g]) p o f g = 0) (h3 : mulE (chk [g, f]) p o g f = 0) : Good p n o v chk f g := by
  obtain ⟨hE, g1⟩ := addE_zero h1
  obtain ⟨_, g2⟩ := mulE_zero h2
  obtain ⟨hE3, g3⟩ := mulE_zero h3
  obtain ⟨hr, hall⟩ := HC.2.1 [f, g] (by simp) hE
  obtain ⟨rf, n0, n3, _, hp, _⟩ := right_of hr (hall f (by simp))
  obtain ⟨rg, _⟩ := right_of hr (hall g (by simp))
  have rs := add_right hp.1 rf rg g1
  have rm := mul_right hp.1 rf rg g2
  have sw : colL p o (prodL p g f) = colL p o (prodL p f g) := mul_swap hp.1 rg.canon.okl rf.canon.okl
  have k : ∀ x, Right p o n.toNat x → chk [x] = 0 := fun x hx => HC.2.2 hr [x] (fun y hy => by simp at hy; rw [hy]; exact one_of hr hx)
  exact ⟨hr, hp, ⟨n0, n3⟩, rf, rg, rs, rm, sw, (addE_no hE g1).2, (mulE_no hE g2).2, by rw [(mulE_no hE3 g3).2, sw], k f rf, k g rg, k _ rs, k _ rm⟩
structure Dist (p n o : Int) (chk : List (List Tm) → Int) (f g h : List Tm) : Prop where
  cx : mulR (chk [colL p o (f ++ g), h]) p o (colL p o (f ++ g)) h = colL p o (prodL p (colL p o (f ++ g)) h)
  cy : mulR (chk [f, h]) p o f h = colL p o (prodL p f h)
  cz : mulR (chk [g, h]) p o g h = colL p o (prodL p g h)
  rx : Right p o n.toNat (colL p o (prodL p (colL p o (f ++ g)) h))
  et : addE (chk [colL p o (prodL p f h), colL p o (prodL p g h)]) p o (colL p o (prodL p f h)) (colL p o (prodL p g h)) = 0
  ct : addR (chk [colL p o (prodL p f h), colL p o (prodL p g h)]) p o (colL p o (prodL p f h)) (colL p o (prodL p g h)) = colL p o (prodL p (colL p o (f ++ g)) h)
theorem dist_of {p n o v : Int} {chk : List (List Tm) → Int} (HC : Tells p n o v chk) {f g h : List Tm} (G : Good p n o v chk f g) (h1 : mulE (chk [colL p o (f ++ g), h]) p o (colL p o (f ++ g)) h = 0) (h2 : mulE (chk [f, h]) p o f h = 0) (h3 : mulE (chk [g, h]) p o g h = 0) : Dist p n o chk f g h := by
  obtain ⟨e1, g1⟩ := mulE_zero h1
  obtain ⟨e2, g2⟩ := mulE_zero h2
  obtain ⟨e3, g3⟩ := mulE_zero h3
  obtain ⟨_, hall⟩ := HC.2.1 [f, h] (by simp) e2
  obtain ⟨rh, _⟩ := right_of G.ring (hall h (by simp))
  have ry := mul_right G.pr.1 G.rf rh g2
  have rz := mul_right G.pr.1 G.rg rh g3
  have e4 : chk [colL p o (prodL p f h), colL p o (prodL p g h)] = 0 := HC.2.2 G.ring _ (fun y hy => by
    rcases List.mem_cons.1 hy with rfl | hy
    · exact one_of G.ring ry
    · simp at hy; rw [hy]; exact one_of G.ring rz)
  have ma := mul_add (o := o) G.pr.1 G.rf.canon.okl G.rg.canon.okl rh.canon.okl
  obtain ⟨t1, t2⟩ := addE_no e4 (by rw [ma]; exact g1)
  exact ⟨(mulE_no e1 g1).2, (mulE_no e2 g2).2, (mulE_no e3 g3).2, mul_right G.pr.1 G.rs rh g1, t1, by rw [t2, ma]⟩
theorem vals_of {p n o v : Int} {chk : List (List Tm) → Int} {f g : List Tm} {xs : List Int} (G : Good p n o v chk f g) (h : valE 0 n p xs = 0) :
    ∃ A B : Int, (0 ≤ A ∧ A < p) ∧ (0 ≤ B ∧ B < p) ∧ valR 0 n p xs f = A ∧ valR 0 n p xs g = B ∧ valR 0 n p xs (colL p o (f ++ g)) = (A + B) % p ∧ valR 0 n p xs (colL p o (prodL p f g)) = A * B % p := by
  have hp := G.pr.1
  have hl : (xs.length : Int) = n := by
    unfold valE at h
    rw [if_neg (by simp)] at h
    split at h
    · omega
    · omega
  have e : xs.length = n.toNat := by omega
  have k : ∀ x, valR 0 n p xs x = lin (mval xs) x % p := fun x => by unfold valR; rw [if_pos h]
  refine ⟨lin (mval xs) f % p, lin (mval xs) g % p, ⟨Int.emod_nonneg _ (by omega), Int.emod_lt_of_pos _ (by omega)⟩, ⟨Int.emod_nonneg _ (by omega), Int.emod_lt_of_pos _ (by omega)⟩, k f, k g, by rw [k, value_sum], ?_⟩
  rw [k, value_prod xs f g (fun t ht => ⟨by rw [G.rf.canon.len t ht, e], fun x hx => (G.rf.bd t ht x hx).1⟩) (fun t ht => ⟨by rw [G.rg.canon.len t ht, e], fun x hx => (G.rg.bd t ht x hx).1⟩)]
end Go.Proofs.YtilogbggilchaaaDoor
