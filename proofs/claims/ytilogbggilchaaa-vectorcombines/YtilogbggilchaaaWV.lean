/- Combine of the program: the mathematics, vector.each with its closure, combinePlace. Printed by genWV.py. -/
import Derived.Test.YtilogbggilchaaaWU
import Derived.Test.YtilogbggilchaaaWH
import Derived.Test.YtilogbggilchaaaPK
namespace Go.Proofs.Ytilogbggilchaaa
set_option linter.unusedSimpArgs false
set_option linter.unusedVariables false
open Go.RowKit
theorem many_great {p o : Int} {N : Nat} (he : errP p = 0) {c f : List Tm} (hc : Right p o N c) (hf : Right p o N f) : manyC p o c f = greatB (colL p o (prodL p c f)) := by
  unfold manyC
  cases c with
  | nil => simp
  | cons t c =>
    cases f with
    | nil => simp
    | cons u f =>
      cases hg : greatB (colL p o (prodL p (t :: c) (u :: f)))
      · rw [great_prod he hc.canon hf.canon] at hg
        have h2 := of_decide_eq_false (Bool.or_eq_false_iff.1 hg).1
        have b1 := sumI_bd t.2 (fun x hx => by have := hc.bd t (by simp) x hx; omega)
        have b2 := sumI_bd u.2 (fun x hx => by have := hf.bd u (by simp) x hx; omega)
        have a1 : topF (-1) (t :: c) ≤ sumI t.2 := topF_le _ _ (right_head hc.canon) (by omega)
        have a2 : topF (-1) (u :: f) ≤ sumI u.2 := topF_le _ _ (right_head hf.canon) (by omega)
        have h3 : ¬ 200 < topF (-1) (t :: c) + topF (-1) (u :: f) := by omega
        rw [decide_eq_false h3, Bool.and_false, Bool.false_or]
      · rw [Bool.or_true]
def prK (p o : Int) (cs : List (List Tm)) (vss : List (List (List Tm))) (k i : Nat) : List Tm := colL p o (prodL p (cs.getD i []) ((vss.getD i []).getD k []))
def prKs (p o : Int) (cs : List (List Tm)) (vss : List (List (List Tm))) (k m : Nat) : List (List Tm) := (List.range m).map (prK p o cs vss k)
structure AllR (p o : Int) (N R : Nat) (cs : List (List Tm)) (vss : List (List (List Tm))) : Prop where
  c : ∀ c ∈ cs, Right p o N c
  v : ∀ u ∈ vss, u.length = R ∧ ∀ f ∈ u, Right p o N f
  l : cs.length = vss.length
theorem AllR.at {p o : Int} {N R : Nat} {cs : List (List Tm)} {vss : List (List (List Tm))} (h : AllR p o N R cs vss) {k i : Nat} (hi : i < vss.length) (hk : k < R) : Right p o N (cs.getD i []) ∧ Right p o N ((vss.getD i []).getD k []) := by
  have h1 := h.v _ (getD_memV vss i hi)
  exact ⟨h.c _ (getD_memL cs i (by rw [h.l]; exact hi)), h1.2 _ (getD_memL _ k (by rw [h1.1]; exact hk))⟩
theorem AllR.pr {p o : Int} {N R : Nat} {cs : List (List Tm)} {vss : List (List (List Tm))} (hp : 2 ≤ p) (h : AllR p o N R cs vss) {k i : Nat} (hi : i < vss.length) (hk : k < R) : Canon p o N (prK p o cs vss k i) ∧ Bd (prK p o cs vss k i) := by
  obtain ⟨h1, h2⟩ := h.at hi hk
  refine ⟨Okl.col hp (Okl.prod hp h1.canon.okl h2.canon.okl), fun t ht x hx => ?_⟩
  obtain ⟨y, hy, ey⟩ := col_mem ht
  rw [ey] at hx
  exact (prodL_tok hp h1.canon.len h2.canon.len h1.bd h2.bd y hy).2.1 x hx
theorem okl_flat {p : Int} {n : Nat} : ∀ {fss : List (List Tm)}, (∀ f ∈ fss, Okl p n f) → Okl p n fss.flatten
  | [], _ => ⟨fun t ht => by simp at ht, fun t ht => by simp at ht⟩
  | f :: r, h => by rw [List.flatten_cons]; exact (h f (by simp)).append (okl_flat (fun g hg => h g (by simp [hg])))
theorem prKs_succ (p o : Int) (cs : List (List Tm)) (vss : List (List (List Tm))) (k m : Nat) : prKs p o cs vss k (m + 1) = prKs p o cs vss k m ++ [prK p o cs vss k m] := range_snoc _ _
theorem prKs_mem {p o : Int} {cs : List (List Tm)} {vss : List (List (List Tm))} {k m : Nat} {f : List Tm} (h : f ∈ prKs p o cs vss k m) : ∃ i, i < m ∧ f = prK p o cs vss k i := by
  obtain ⟨i, hi, e⟩ := List.mem_map.1 h
  exact ⟨i, List.mem_range.1 hi, e.symm⟩
theorem AllR.okl {p o : Int} {N R : Nat} {cs : List (List Tm)} {vss : List (List (List Tm))} (hp : 2 ≤ p) (h : AllR p o N R cs vss) {k m : Nat} (hm : m ≤ vss.length) (hk : k < R) : Okl p N (prKs p o cs vss k m).flatten :=
  okl_flat (fun f hf => by obtain ⟨i, hi, rfl⟩ := prKs_mem hf; exact (h.pr hp (by omega) hk).1.okl)
theorem combO_at {p o : Int} {N R : Nat} {cs : List (List Tm)} {vss : List (List (List Tm))} (hp : 2 ≤ p) (h : AllR p o N R cs vss) {k : Nat} (hk : k < R) : ∀ m, m ≤ vss.length → (combO p o R cs vss m).length = R ∧ (combO p o R cs vss m).getD k [] = colL p o (prKs p o cs vss k m).flatten
  | 0, _ => ⟨by simp [combO], by simp [combO, prKs, List.getD_eq_getElem?_getD, hk]; rfl⟩
  | m + 1, hm => by
    obtain ⟨h1, h2⟩ := combO_at hp h hk m (by omega)
    have hv := h.v _ (getD_memV vss m (by omega))
    have hpl : (prods p o (cs.getD m []) (vss.getD m [])).length = R := by unfold prods; rw [List.length_map]; exact hv.1
    refine ⟨by simp only [combO]; rw [sums_len (by rw [h1, hpl])]; exact h1, ?_⟩
    simp only [combO]
    rw [sums_at (by rw [h1, hpl]) (by rw [h1]; exact hk), h2]
    have e : (prods p o (cs.getD m []) (vss.getD m [])).getD k [] = prK p o cs vss k m := by
      unfold prods prK
      exact getD_mapL _ _ k (by rw [hv.1]; exact hk)
    rw [e, prKs_succ, List.flatten_append]
    have e2 : [prK p o cs vss k m].flatten = prK p o cs vss k m := by simp
    rw [e2]
    have o1 := h.okl hp (k := k) (m := m) (by omega) hk
    have o2 := (h.pr hp (i := m) (by omega) hk).1.okl
    exact Same.col hp ((Okl.col (o := o) hp o1).okl.append o2) (o1.append o2) (Same.append (same_col p o _) (Same.refl p _))
def cmE (p o : Int) (cs : List (List Tm)) (vss : List (List (List Tm))) (m k : Nat) : Int := if (prKs p o cs vss k m).any greatB = true ∨ 2000 < (colL p o (prKs p o cs vss k m).flatten).length then 2 else 0
def cmR (p o : Int) (cs : List (List Tm)) (vss : List (List (List Tm))) (m k : Nat) : List Tm := if cmE p o cs vss m k = 0 then colL p o (prKs p o cs vss k m).flatten else []
theorem cm_great {p o : Int} {cs : List (List Tm)} {vss : List (List (List Tm))} {m k i : Nat} (hi : i < m) (h : greatB (prK p o cs vss k i) = true) : cmE p o cs vss m k = 2 ∧ cmR p o cs vss m k = [] := by
  have e : cmE p o cs vss m k = 2 := by
    have hany : (prKs p o cs vss k m).any greatB = true := List.any_eq_true.2 ⟨prK p o cs vss k i, List.mem_map.2 ⟨i, List.mem_range.2 hi, rfl⟩, h⟩
    unfold cmE
    rw [if_pos (Or.inl hany)]
  exact ⟨e, by unfold cmR; rw [e]; rfl⟩
theorem cm_none {p o : Int} {cs : List (List Tm)} {vss : List (List (List Tm))} {m k : Nat} (h : ∀ i, i < m → greatB (prK p o cs vss k i) = false) : (prKs p o cs vss k m).any greatB = false := by
  rw [List.any_eq_false]
  intro f hf
  obtain ⟨i, hi, rfl⟩ := prKs_mem hf
  rw [h i hi]; simp
theorem cm_long {p o : Int} {cs : List (List Tm)} {vss : List (List (List Tm))} {m k : Nat} (h : 2000 < (colL p o (prKs p o cs vss k m).flatten).length) : cmE p o cs vss m k = 2 ∧ cmR p o cs vss m k = [] := by
  have e : cmE p o cs vss m k = 2 := by unfold cmE; rw [if_pos (Or.inr h)]
  exact ⟨e, by unfold cmR; rw [e]; rfl⟩
theorem cm_ok {p o : Int} {cs : List (List Tm)} {vss : List (List (List Tm))} {m k : Nat} (h : ∀ i, i < m → greatB (prK p o cs vss k i) = false) (h2 : ¬ 2000 < (colL p o (prKs p o cs vss k m).flatten).length) : cmE p o cs vss m k = 0 ∧ cmR p o cs vss m k = colL p o (prKs p o cs vss k m).flatten := by
  have e : cmE p o cs vss m k = 0 := by unfold cmE; rw [if_neg (by rw [cm_none h]; rintro (h | h); cases h; exact h2 h)]
  exact ⟨e, by unfold cmR; rw [e]; rfl⟩
theorem great_deg {ts : List Tm} (h : greatB ts = false) : ∀ x ∈ ts, sumI x.2 ≤ 200 := fun x hx => by
  by_cases h2 : 200 < sumI x.2
  · rw [great_large hx h2] at h; cases h
  · omega
theorem cm_sum {p o : Int} {cs : List (List Tm)} {vss : List (List (List Tm))} {m k : Nat} (h : ∀ i, i < m → greatB (prK p o cs vss k i) = false) : greatB (colL p o (prKs p o cs vss k m).flatten) = decide (2000 < (colL p o (prKs p o cs vss k m).flatten).length) := by
  refine great_small (fun x hx => ?_)
  obtain ⟨y, hy, ey⟩ := col_mem hx
  obtain ⟨f, hf, hyf⟩ := List.mem_flatten.1 hy
  obtain ⟨i, hi, rfl⟩ := prKs_mem hf
  rw [ey]
  exact great_deg (h i hi) y hyf
theorem firstN_two {E : Nat → Int} {m : Nat} (h : ∀ k, k < m → E k = 0 ∨ E k = 2) : (firstN E m 0 = 0 ∧ ∀ k, k < m → E k = 0) ∨ (firstN E m 0 = 2 ∧ ∃ k, k < m ∧ E k = 2) := by
  by_cases hz : ∀ k, k < m → E k = 0
  · exact Or.inl ⟨firstN_all hz, hz⟩
  · refine Or.inr ?_
    have hex : ∀ d, d ≤ m → (∀ k, k < d → E k = 0) ∨ ∃ k, k < d ∧ E k ≠ 0 ∧ ∀ j, j < k → E j = 0 := by
      intro d
      induction d with
      | zero => intro _; exact Or.inl (fun k hk => by omega)
      | succ d ih =>
        intro hd
        rcases ih (by omega) with h1 | ⟨k, h1, h2, h3⟩
        · by_cases h4 : E d = 0
          · exact Or.inl (fun k hk => by
              by_cases h5 : k < d
              · exact h1 k h5
              · rw [show k = d by omega]; exact h4)
          · exact Or.inr ⟨d, by omega, h4, h1⟩
        · exact Or.inr ⟨k, by omega, h2, h3⟩
    rcases hex m (Nat.le_refl _) with h1 | ⟨k, h1, h2, h3⟩
    · exact absurd h1 hz
    · have h4 : E k = 2 := (h k h1).resolve_left h2
      exact ⟨by rw [firstN_hit h1 h3 h2, h4], k, h1, h4⟩
theorem cm_two (p o : Int) (cs : List (List Tm)) (vss : List (List (List Tm))) (m k : Nat) : cmE p o cs vss m k = 0 ∨ cmE p o cs vss m k = 2 := by
  unfold cmE; split
  · exact Or.inr rfl
  · exact Or.inl rfl
open Classical in
theorem comb_all {p n o v : Int} {N R : Nat} {cs : List (List Tm)} {vss : List (List (List Tm))} (he : errP p = 0) (hp : 2 ≤ p) (h : AllR p o N R cs vss) (hv0 : errVecs p n o v (R : Int) vss = 0) (hp0 : errPolys p n o v cs = 0) :
    firstN (cmE p o cs vss vss.length) R 0 = errComb p n o v (R : Int) cs vss ∧ eachR (cmE p o cs vss vss.length) (cmR p o cs vss vss.length) R = if errComb p n o v (R : Int) cs vss = 0 then combO p o R cs vss vss.length else [] := by
  have hmany : ∀ i, i < vss.length → ∀ k, k < R → manyC p o (cs.getD i []) ((vss.getD i []).getD k []) = greatB (prK p o cs vss k i) := fun i hi k hk => many_great he (h.at hi hk).1 (h.at hi hk).2
  have hdef : errComb p n o v (R : Int) cs vss = if (∃ i, i < vss.length ∧ ∃ k : Nat, (k : Int) < (R : Int) ∧ manyC p o (cs.getD i []) ((vss.getD i []).getD k []) = true) ∨ (combO p o R cs vss vss.length).any greatB = true then 2 else 0 := by
    unfold errComb
    rw [if_neg (by rw [hv0]; simp), if_neg (by rw [h.l]; simp), if_neg (by rw [hp0]; simp)]
    by_cases hC : (∃ i, i < vss.length ∧ ∃ k : Nat, (k : Int) < (R : Int) ∧ manyC p o (cs.getD i []) ((vss.getD i []).getD k []) = true) ∨ (combO p o R cs vss vss.length).any greatB = true
    · rw [if_pos hC]; exact if_pos (by rw [Int.toNat_natCast]; exact hC)
    · rw [if_neg hC]; exact if_neg (by rw [Int.toNat_natCast]; exact hC)
  rcases firstN_two (E := cmE p o cs vss vss.length) (m := R) (fun k _ => cm_two p o cs vss vss.length k) with ⟨h1, h2⟩ | ⟨h1, k, hk, h2⟩
  · have hg : ∀ k, k < R → ∀ i, i < vss.length → greatB (prK p o cs vss k i) = false := fun k hk i hi => by
      cases hgk : greatB (prK p o cs vss k i)
      · rfl
      · have := (cm_great hi hgk).1
        rw [h2 k hk] at this
        exact absurd this (by decide)
    have hn : ∀ k, k < R → ¬ 2000 < (colL p o (prKs p o cs vss k vss.length).flatten).length := fun k hk h3 => by
      have := (cm_long h3).1
      rw [h2 k hk] at this
      exact absurd this (by decide)
    have hz : errComb p n o v (R : Int) cs vss = 0 := by
      rw [hdef, if_neg]
      rintro (⟨i, hi, k, hk, h3⟩ | h3)
      · rw [hmany i hi k (by omega), hg k (by omega) i hi] at h3
        cases h3
      · obtain ⟨f, hf, hgf⟩ := List.any_eq_true.1 h3
        obtain ⟨k, hk, rfl⟩ := List.getElem_of_mem hf
        have hkR : k < R := by
          by_cases hR : 0 < R
          · rw [(combO_at hp h hR vss.length (Nat.le_refl _)).1] at hk; exact hk
          · have hR0 : R = 0 := by omega
            subst hR0
            exfalso
            have : (combO p o 0 cs vss vss.length) = [] := by
              have hh : ∀ m, combO p o 0 cs vss m = [] := by
                intro m
                induction m with
                | zero => rfl
                | succ m ih => simp only [combO]; rw [ih]; rfl
              exact hh _
            rw [this] at hk
            simp at hk
        have e := (combO_at hp h hkR vss.length (Nat.le_refl _)).2
        rw [List.getD_eq_getElem?_getD, List.getElem?_eq_getElem hk, Option.getD_some] at e
        rw [e, cm_sum (hg k hkR), decide_eq_false (hn k hkR)] at hgf
        cases hgf
    refine ⟨by rw [h1, hz], ?_⟩
    rw [if_pos hz, eachR_ok h1]
    by_cases hR : 0 < R
    · have hlen := (combO_at hp h hR vss.length (Nat.le_refl _)).1
      refine List.ext_getElem (by rw [List.length_map, List.length_range, hlen]) (fun k hk1 hk2 => ?_)
      rw [List.getElem_map, List.getElem_range]
      have hkR : k < R := by rw [hlen] at hk2; exact hk2
      have e := (combO_at hp h hkR vss.length (Nat.le_refl _)).2
      rw [List.getD_eq_getElem?_getD, List.getElem?_eq_getElem hk2, Option.getD_some] at e
      rw [e, (cm_ok (hg k hkR) (hn k hkR)).2]
    · have hR0 : R = 0 := by omega
      subst hR0
      have hh : ∀ m, combO p o 0 cs vss m = [] := by
        intro m
        induction m with
        | zero => rfl
        | succ m ih => simp only [combO]; rw [ih]; rfl
      rw [hh]; rfl
  · have hz : errComb p n o v (R : Int) cs vss = 2 := by
      rw [hdef, if_pos]
      by_cases hg : ∀ i, i < vss.length → greatB (prK p o cs vss k i) = false
      · refine Or.inr ?_
        have e := (combO_at hp h hk vss.length (Nat.le_refl _))
        refine List.any_eq_true.2 ⟨_, getD_memL _ k (by rw [e.1]; exact hk), ?_⟩
        rw [e.2, cm_sum hg]
        by_cases h3 : 2000 < (colL p o (prKs p o cs vss k vss.length).flatten).length
        · exact decide_eq_true h3
        · rw [(cm_ok hg h3).1] at h2
          exact absurd h2 (by decide)
      · refine Or.inl ?_
        obtain ⟨i, h3⟩ := Classical.not_forall.1 hg
        obtain ⟨hi, h4⟩ := Classical.not_imp.1 h3
        refine ⟨i, hi, k, by omega, ?_⟩
        rw [hmany i hi k hk]
        simpa using h4
    refine ⟨by rw [h1, hz], ?_⟩
    rw [hz, if_neg (by decide), eachR_bad (by rw [h1]; decide)]

set_option maxRecDepth 100000 in
set_option maxHeartbeats 2000000 in
theorem eachC_any (rb cb lb : Nat) (x : Value) (fss : List (List Tm)) (E : Nat → Int) (R : Nat → List Tm) (w : World) (hm : fss.length ≤ 1000) (pf : Vl w x fss)
    (H : ∀ i w' fa fc, i < fss.length → Below w.heap.size w w' → Pl w' (.slice fa (fss.getD i []).length fc) (fss.getD i []) → Calls Try.prog 46 #[.int .i64 i, .slice fa (fss.getD i []).length fc, .pointer (some ⟨rb, 0, none⟩), .pointer (some ⟨cb, 0, none⟩), .pointer (some ⟨lb, 0, none⟩)] w' fun e w'' => ∃ u, e = .returned (.tuple #[u, .int .i64 (E i)]) ∧ Pl w'' u (R i) ∧ Below w'.heap.size w' w'') :
    Calls Try.prog 24 #[x, .func (.func 46) #[] #[.pointer (some ⟨rb, 0, none⟩), .pointer (some ⟨cb, 0, none⟩), .pointer (some ⟨lb, 0, none⟩)]] w fun e w' => ∃ u, e = .returned (.tuple #[u, .int .i64 (firstN E fss.length 0)]) ∧ Vl w' u (eachR E R fss.length) ∧ Below w.heap.size w w' := by
  have HX := hid pf
  have HH := hid H
  obtain ⟨ax, cx, rfl, _⟩ := pf
  obtain ⟨i0, hi, hz0, hz1, hz2⟩ := info_parts Try.infoPolyW
  clear H
  go_enter Try.func24, Try.ntmps24
  go_wp2_with (at_make; refine wpList_make_full _ rfl _ _ 27 rfl w.heap.size 25 i0 _ 1 Try.underlying27 hi hz0 hz1 .i64 .i64 _ _ fss.length rfl rfl rfl rfl (by rw [hz2]; omega) (by unfold maxLen; omega) (Nat.le_refl _) ?_; intro w1 hown hgrow; have HV0 := hid (VHalf.made hown hgrow); clear hown hgrow)
  clear hi hz0 hz1 hz2
  go_loopw [16] (fun i wr => ∃ (k : Nat) (us : List Value), k ≤ fss.length ∧ i = .int .i64 k ∧ us.length = k ∧ (∀ j, j < k → E j = 0) ∧ VHalf w wr w.heap.size fss.length us ((List.range k).map R)) (fun i _ => fss.length - (intOf i).toNat)
  case atStart => exact ⟨0, [], Nat.zero_le _, rfl, rfl, fun j hj => by omega, HV0.out⟩
  case round =>
    clear HV0
    obtain ⟨k, us, hk, rfl, hul, hz, hv⟩ := hrel
    have HZ := hid hz
    have HV := hid hv
    have HUL := hid hul
    clear hz hv hul
    by_cases hk2 : k < fss.length
    · obtain ⟨b, off, fa, fc, rfl, hlt, c0, hpf⟩ := vl_at HX.out k hk2
      have d0 := cell_keep c0 HV.out.below
      have HC := hid (HH.out k wr fa fc hk2 HV.out.below (hpf.below HV.out.below))
      have HHIT := hid (fun h => firstN_hit (E := E) hk2 HZ.out h)
      generalize fss.getD k [] = f at c0 d0 hpf HC
      clear c0 hpf
      cases he : (E k != 0)
      · have HE0 : Hid (E k = 0) := by simpa [Hid] using he
        go_wp2_with (go_at_call 46; refine HC.out.mono ?_; rintro e w2 ⟨u, rfl, hu, hb2⟩; have HV2 := hid (HV.out.next hb2); have HU := hid hu; obtain ⟨ua, uc, rfl, _, _⟩ := hu; obtain ⟨ov, x0, x1⟩ := HV2.out.cells (by have := HUL.out; omega); rw [HUL.out] at x0 x1; clear hb2)
        go_roundw
        case rel =>
          refine ⟨k + 1, us ++ [.slice ua (R k).length uc], by omega, by go_num, by rw [len_snoc, HUL.out], fun j hj => ?_, ?_⟩
          · rcases Nat.lt_or_ge j k with h | h
            · exact HZ.out j h
            · rw [show j = k by omega]; exact HE0.out
          · rw [range_snoc]
            have h := HV2.out.put (by have := HUL.out; omega) _ _ HU.out
            rw [HUL.out] at h
            exact h
        case measure => simp [intOf]; omega
      · have HF : Hid (firstN E fss.length 0 = E k) := HHIT.out (by simpa using he)
        have HNE : Hid (E k ≠ 0) := by simpa [Hid] using he
        go_wp2_with (go_at_call 46; refine HC.out.mono ?_; rintro e w2 ⟨u, rfl, hu, hb2⟩; have HV2 := hid (HV.out.next hb2); obtain ⟨ua, uc, rfl, _, _⟩ := hu; clear hb2)
        go_ret2
        refine ⟨.slice none 0 0, by rw [HF.out]; rfl, ?_, HV2.out.below⟩
        rw [eachR_bad (by rw [HF.out]; exact HNE.out)]
        exact ⟨none, 0, rfl, fun h => by simp at h⟩
    · have e : k = fss.length := by omega
      subst e
      have HF : Hid (firstN E fss.length 0 = 0) := firstN_all HZ.out
      have HD := hid (HV.out.done HUL.out)
      go_wp2
      go_ret2
      refine ⟨.slice (some ⟨w.heap.size, 0, none⟩) fss.length fss.length, by rw [HF.out]; rfl, ?_, HV.out.below⟩
      rw [eachR_ok HF.out]
      exact HD.out
end Go.Proofs.Ytilogbggilchaaa
