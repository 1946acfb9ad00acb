/- Plain mathematics: what the elimination keeps. -/
import Derived.Test.YtkmjmmnnnbjghaaFS
namespace Go.Proofs.Ytkmjmmnnnbjghaa
set_option linter.unusedSimpArgs false
set_option linter.unusedVariables false

theorem dvd_mod (p x : Int) : p ∣ x % p - x := ⟨-(x / p), by rw [Int.emod_def]; grind⟩

/-- Row f of a list. -/
def Vf (fs : List (Nat × List Int)) (k j : Nat) : Int := (fs.getD k (0, [])).2.getD j 0
def Uf (rows : List (List Int)) (k j : Nat) : Int := (rows.getD k []).getD j 0
def StairL : List (Nat × List Int) → Prop
  | [] => True
  | f :: fs => f.2.getD f.1 0 = 1 ∧ (∀ g ∈ fs, g.2.getD f.1 0 = 0) ∧ StairL fs
theorem stairL_snoc : ∀ (fs : List (Nat × List Int)) (g : Nat × List Int), StairL fs → (∀ f ∈ fs, g.2.getD f.1 0 = 0) → g.2.getD g.1 0 = 1 → StairL (fs ++ [g])
  | [], g, _, _, h => ⟨h, by simp, trivial⟩
  | f :: fs, g, ⟨h1, h2, h3⟩, h4, h5 => ⟨h1, fun x hx0 => by
      have hx : x ∈ fs ++ [g] := hx0
      rw [List.mem_append, List.mem_singleton] at hx
      rcases hx with hx | rfl
      · exact h2 x hx
      · exact h4 f (by simp), stairL_snoc fs g h3 (fun y hy => h4 y (by simp [hy])) h5⟩
theorem stairL_one : ∀ (fs : List (Nat × List Int)) (l : Nat), StairL fs → l < fs.length → Vf fs l (fs.getD l (0, [])).1 = 1
  | [], l, _, h => by simp at h
  | f :: fs, 0, ⟨h1, _, _⟩, _ => by simpa [Vf] using h1
  | f :: fs, l + 1, ⟨_, _, h3⟩, h => by have := stairL_one fs l h3 (by simpa using h); simpa [Vf] using this
theorem stairL_zero : ∀ (fs : List (Nat × List Int)) (l l' : Nat), StairL fs → l < l' → l' < fs.length → Vf fs l' (fs.getD l (0, [])).1 = 0
  | [], l, l', _, _, h => by simp at h
  | f :: fs, l, 0, _, h, _ => by omega
  | f :: fs, 0, l' + 1, ⟨_, h2, _⟩, _, h => by
    have hl : l' < fs.length := by simpa using h
    have := h2 fs[l'] (List.getElem_mem hl)
    simpa [Vf, List.getD_eq_getElem?_getD, hl] using this
  | f :: fs, l + 1, l' + 1, ⟨_, _, h3⟩, h, h' => by have := stairL_zero fs l l' h3 (by omega) (by simpa using h'); simpa [Vf] using this

theorem clr_at {p : Int} {n : Nat} {xs : List Int} {f : Nat × List Int} (hx : RowOk p n xs) (hf : RowOk p n f.2) (j : Nat) (hj : j < n) :
    (clr p xs f).getD j 0 = if xs.getD f.1 0 = 0 then xs.getD j 0 else (xs.getD j 0 + (p - xs.getD f.1 0) * f.2.getD j 0) % p := by
  unfold clr
  split
  · rfl
  · rw [zipI_at _ _ _ (by rw [hx.1, hf.1]) j (by rw [hx.1]; exact hj)]; rfl
theorem clr_rel {p : Int} {n : Nat} {xs : List Int} {f : Nat × List Int} (hx : RowOk p n xs) (hf : RowOk p n f.2) : ∃ t : Int, ∀ j, j < n → p ∣ (clr p xs f).getD j 0 - (xs.getD j 0 + t * f.2.getD j 0) := by
  by_cases h : xs.getD f.1 0 = 0
  · refine ⟨0, fun j hj => ?_⟩
    rw [clr_at hx hf j hj, if_pos h]; exact ⟨0, by simp⟩
  · refine ⟨p - xs.getD f.1 0, fun j hj => ?_⟩
    rw [clr_at hx hf j hj, if_neg h]
    exact dvd_mod _ _
theorem sumN_left (n : Nat) (f : Nat → Int) : sumN (n + 1) f = f 0 + sumN n (fun k => f (k + 1)) := by
  rw [sumN_skip n 0 (by omega)]
  have : sumN n (fun k => f (sk 0 k)) = sumN n (fun k => f (k + 1)) := sumN_congr (fun k _ => by simp [sk])
  rw [this]; omega
theorem redL_rel {p : Int} {n : Nat} (hp : 2 ≤ p) : ∀ (fs : List (Nat × List Int)) (xs : List Int), RowOk p n xs → (∀ f ∈ fs, RowOk p n f.2) →
    ∃ t : Nat → Int, ∀ j, j < n → p ∣ (redL p xs fs).getD j 0 - (xs.getD j 0 + sumN fs.length (fun l => t l * Vf fs l j))
  | [], xs, _, _ => ⟨fun _ => 0, fun j _ => by simp [redL, sumN]⟩
  | f :: fs, xs, hx, hf => by
    have hff := hf f (by simp)
    obtain ⟨t, ht⟩ := redL_rel hp fs (clr p xs f) (clr_ok hp hx hff) (fun g hg => hf g (by simp [hg]))
    obtain ⟨t0, ht0⟩ := clr_rel hx hff
    refine ⟨fun l => if l = 0 then t0 else t (l - 1), fun j hj => ?_⟩
    have e : sumN (f :: fs).length (fun l => (if l = 0 then t0 else t (l - 1)) * Vf (f :: fs) l j) = t0 * f.2.getD j 0 + sumN fs.length (fun l => t l * Vf fs l j) := by
      rw [List.length_cons, sumN_left]
      have e2 : sumN fs.length (fun k => (if k + 1 = 0 then t0 else t (k + 1 - 1)) * Vf (f :: fs) (k + 1) j) = sumN fs.length (fun l => t l * Vf fs l j) :=
        sumN_congr (fun k _ => by simp [Vf])
      rw [e2]; simp [Vf]
    rw [e]
    have h1 := Int.dvd_add (ht j hj) (ht0 j hj)
    have e3 : (redL p xs (f :: fs)).getD j 0 = (redL p (clr p xs f) fs).getD j 0 := rfl
    rw [e3]
    have e4 : ((redL p (clr p xs f) fs).getD j 0 - ((clr p xs f).getD j 0 + sumN fs.length (fun l => t l * Vf fs l j))) + ((clr p xs f).getD j 0 - (xs.getD j 0 + t0 * f.2.getD j 0))
        = (redL p (clr p xs f) fs).getD j 0 - (xs.getD j 0 + (t0 * f.2.getD j 0 + sumN fs.length (fun l => t l * Vf fs l j))) := by omega
    rw [e4] at h1; exact h1
theorem redL_keep {p : Int} {n : Nat} (hp : 2 ≤ p) (c : Nat) (hc : c < n) : ∀ (fs : List (Nat × List Int)) (xs : List Int), RowOk p n xs → (∀ f ∈ fs, RowOk p n f.2) → xs.getD c 0 = 0 → (∀ g ∈ fs, g.2.getD c 0 = 0) → (redL p xs fs).getD c 0 = 0
  | [], xs, _, _, h, _ => h
  | f :: fs, xs, hx, hf, h, hg => by
    have hff := hf f (by simp)
    refine redL_keep hp c hc fs (clr p xs f) (clr_ok hp hx hff) (fun g hg => hf g (by simp [hg])) ?_ (fun g h => hg g (by simp [h]))
    rw [clr_at hx hff c hc, h, hg f (by simp)]
    split <;> simp
theorem redL_zero {p : Int} {n : Nat} (hp : 2 ≤ p) : ∀ (fs : List (Nat × List Int)) (xs : List Int), RowOk p n xs → (∀ f ∈ fs, PivOk p n f) → StairL fs → ∀ f ∈ fs, (redL p xs fs).getD f.1 0 = 0
  | [], _, _, _, _, f, hf => by simp at hf
  | g :: fs, xs, hx, hok, ⟨h1, h2, h3⟩, f, hf => by
    have hgg := hok g (by simp)
    have hcl := clr_ok hp hx hgg.2
    simp only [List.mem_cons] at hf
    rcases hf with rfl | hf
    · refine redL_keep hp f.1 hgg.1 fs (clr p xs f) hcl (fun x h => (hok x (by simp [h])).2) ?_ h2
      rw [clr_at hx hgg.2 f.1 hgg.1, h1]
      split
      · assumption
      · have e : xs.getD f.1 0 + (p - xs.getD f.1 0) * 1 = p := by omega
        rw [e]; simp
    · exact redL_zero hp fs (clr p xs g) hcl (fun x h => hok x (by simp [h])) h3 f hf

structure Inv (p : Int) (n : Nat) (done : List (List Int)) (fs : List (Nat × List Int)) : Prop where
  piv : ∀ f ∈ fs, PivOk p n f
  stair : StairL fs
  made : ∀ f ∈ fs, Sp p n done.length (Uf done) (fun j => f.2.getD j 0)
  makes : ∀ r ∈ done, Sp p n fs.length (Vf fs) (fun j => r.getD j 0)

theorem nz_all {xs : List Int} (h : nz xs = xs.length) (j : Nat) (hj : j < xs.length) : xs.getD j 0 = 0 := nz_before xs j (by omega)

theorem inv_step {p n : Nat} {done : List (List Int)} {fs : List (Nat × List Int)} {row : List Int} (hp : 2 ≤ p) (hp2 : p ≤ 101) (hpr : noDiv p p = true) (hr : RowOk p n row) (h : Inv p n done fs) : Inv p n (done ++ [row]) (stepP p fs row) := by
  have hpi : (2 : Int) ≤ (p : Int) := by omega
  have hrx := redL_ok (p := p) (n := n) hpi fs row hr (fun f hf => (h.piv f hf).2)
  obtain ⟨t, ht⟩ := redL_rel (p := p) (n := n) hpi fs row hr (fun f hf => (h.piv f hf).2)
  have hz := redL_zero (p := p) (n := n) hpi fs row hr h.piv h.stair
  have hnl := nz_le (redL p row fs)
  -- more rows
  have upU : ∀ k, k < done.length → Sp p n (done ++ [row]).length (Uf (done ++ [row])) (Uf done k) := by
    intro k hk
    have e : Uf done k = Uf (done ++ [row]) k := by funext j; simp [Uf, List.getD_eq_getElem?_getD, List.getElem?_append, hk]
    rw [e]; exact Sp.one (by simp; omega)
  have rowU : Sp p n (done ++ [row]).length (Uf (done ++ [row])) (fun j => row.getD j 0) := by
    have e : (fun j => row.getD j 0) = Uf (done ++ [row]) done.length := by funext j; simp [Uf]
    rw [e]; exact Sp.one (by simp)
  have hmade : ∀ f ∈ fs, Sp p n (done ++ [row]).length (Uf (done ++ [row])) (fun j => f.2.getD j 0) := fun f hf => (h.made f hf).more upU
  have hV : ∀ k, k < fs.length → Sp p n (done ++ [row]).length (Uf (done ++ [row])) (Vf fs k) := by
    intro k hk
    have e : Vf fs k = fun j => fs[k].2.getD j 0 := by funext j; simp [Vf, List.getD_eq_getElem?_getD, hk]
    rw [e]; exact hmade _ (List.getElem_mem hk)
  have hsok := stepP_ok (p := p) (n := n) hpi h.piv hr
  unfold stepP at hsok ⊢
  by_cases hc : nz (redL p row fs) = (redL p row fs).length
  · rw [if_pos hc] at hsok ⊢
    refine ⟨h.piv, h.stair, hmade, fun r hrm => ?_⟩
    rw [List.mem_append, List.mem_singleton] at hrm
    rcases hrm with hrm | rfl
    · exact h.makes r hrm
    · refine (Sp.sum fs.length (fun l => - t l) (Vf fs) (fun k hk => Sp.one hk)).congr (fun j hj => ?_)
      have h1 := ht j hj
      rw [nz_all hc j (by rw [hrx.1]; exact hj)] at h1
      have e : sumN fs.length (fun l => - t l * Vf fs l j) = - sumN fs.length (fun l => t l * Vf fs l j) := by
        have e2 : sumN fs.length (fun l => - t l * Vf fs l j) = sumN fs.length (fun l => (-1) * (t l * Vf fs l j)) := sumN_congr (fun l _ => by grind)
        rw [e2, sumN_mul]; omega
      rw [e]
      obtain ⟨u, hu⟩ := h1
      exact ⟨-u, by rw [Int.mul_neg, ← hu]; omega⟩
  · rw [if_neg hc] at hsok ⊢
    have hcn : nz (redL p row fs) < (redL p row fs).length := by omega
    have hx0 := nz_at _ hcn
    have hxm := hrx.2 _ (getD_mem _ _ hcn)
    generalize redL p row fs = r at *
    generalize nz r = c at *
    obtain ⟨an, han⟩ : ∃ an : Nat, r.getD c 0 = an := ⟨(r.getD c 0).toNat, by omega⟩
    rw [han] at hsok ⊢ hx0 hxm
    have hok := invOk_parts (invOk_of (p := p) (a := an) hp hp2 hpr (by omega) (by omega))
    have hinv : invI (p : Int) (an : Int) = (invN p an : Int) := rfl
    rw [hinv] at hsok ⊢
    have hone : (p : Int) ∣ (an : Int) * (invN p an : Int) - 1 := by
      have h1 := hok.2.2.1
      rw [Nat.mod_eq_of_lt (show 1 < p by omega)] at h1
      refine ⟨((an * invN p an / p : Nat) : Int), ?_⟩
      have h2 := Nat.div_add_mod (an * invN p an) p
      rw [h1] at h2
      have h3 : ((an * invN p an : Nat) : Int) = (p : Int) * ((an * invN p an / p : Nat) : Int) + 1 := by
        rw [← Int.natCast_mul, ← Int.natCast_one, ← Int.natCast_add, h2]
      rw [Int.natCast_mul] at h3
      omega
    generalize invN p an = s at *
    have hgj : ∀ j, j < n → (scl p s r).getD j 0 = r.getD j 0 * s % p := fun j hj => by
      simp [scl, List.getD_eq_getElem?_getD, show j < r.length by rw [hrx.1]; exact hj]
    have hcn' : c < n := by rw [← hrx.1]; exact hcn
    refine ⟨hsok, ?_, fun f hf => ?_, fun r' hrm => ?_⟩
    · refine stairL_snoc fs _ h.stair (fun f hf => ?_) ?_
      · show (scl p s r).getD f.1 0 = 0
        rw [hgj f.1 (h.piv f hf).1, hz f hf]; simp
      · show (scl p s r).getD c 0 = 1
        rw [hgj c hcn', han]
        obtain ⟨u, hu⟩ := hone
        have e : (an : Int) * (s : Int) = 1 + (p : Int) * u := by omega
        rw [e, Int.add_mul_emod_self_left]
        exact Int.emod_eq_of_lt (by omega) (by omega)
    · rw [List.mem_append, List.mem_singleton] at hf
      rcases hf with hf | rfl
      · exact hmade f hf
      · refine ((rowU.add (Sp.sum fs.length t (Vf fs) hV)).smul (s : Int)).congr (fun j hj => ?_)
        show (p : Int) ∣ (scl p s r).getD j 0 - (s : Int) * (row.getD j 0 + sumN fs.length (fun k => t k * Vf fs k j))
        rw [hgj j hj]
        have h1 := dvd_mod (p : Int) (r.getD j 0 * s)
        have h2 : (p : Int) ∣ (s : Int) * (r.getD j 0 - (row.getD j 0 + sumN fs.length (fun k => t k * Vf fs k j))) := Int.dvd_trans (ht j hj) ⟨s, by rw [Int.mul_comm]⟩
        have h3 := Int.dvd_add h1 h2
        have e : r.getD j 0 * (s : Int) % (p : Int) - r.getD j 0 * (s : Int) + (s : Int) * (r.getD j 0 - (row.getD j 0 + sumN fs.length (fun k => t k * Vf fs k j))) = r.getD j 0 * (s : Int) % (p : Int) - (s : Int) * (row.getD j 0 + sumN fs.length (fun k => t k * Vf fs k j)) := by grind
        rw [e] at h3; exact h3
    · -- the rows
      have upV : ∀ k, k < fs.length → Sp p n (fs ++ [(c, scl p s r)]).length (Vf (fs ++ [(c, scl p s r)])) (Vf fs k) := by
        intro k hk
        have e : Vf fs k = Vf (fs ++ [(c, scl p s r)]) k := by funext j; simp [Vf, List.getD_eq_getElem?_getD, List.getElem?_append, hk]
        rw [e]; exact Sp.one (by simp; omega)
      rw [List.mem_append, List.mem_singleton] at hrm
      rcases hrm with hrm | rfl
      · exact (h.makes r' hrm).more upV
      · have gV : Sp p n (fs ++ [(c, scl p s r)]).length (Vf (fs ++ [(c, scl p s r)])) (fun j => (scl p s r).getD j 0) := by
          have e : (fun j => (scl p s r).getD j 0) = Vf (fs ++ [(c, scl p s r)]) fs.length := by funext j; simp [Vf]
          rw [e]; exact Sp.one (by simp)
        refine ((gV.smul (an : Int)).add (Sp.sum fs.length (fun l => - t l) (Vf fs) upV)).congr (fun j hj => ?_)
        show (p : Int) ∣ r'.getD j 0 - ((an : Int) * (scl p s r).getD j 0 + sumN fs.length (fun l => - t l * Vf fs l j))
        rw [hgj j hj]
        have e0 : sumN fs.length (fun l => - t l * Vf fs l j) = - sumN fs.length (fun l => t l * Vf fs l j) := by
          have e2 : sumN fs.length (fun l => - t l * Vf fs l j) = sumN fs.length (fun l => (-1) * (t l * Vf fs l j)) := sumN_congr (fun l _ => by grind)
          rw [e2, sumN_mul]; omega
        rw [e0]
        obtain ⟨u1, h1⟩ := ht j hj
        obtain ⟨u2, h2⟩ := dvd_mod (p : Int) (r.getD j 0 * s)
        obtain ⟨u3, h3⟩ := hone
        refine ⟨- u1 - (an : Int) * u2 - u3 * r.getD j 0, ?_⟩
        grind

theorem inv_all_rows {p n : Nat} (hp : 2 ≤ p) (hp2 : p ≤ 101) (hpr : noDiv p p = true) : ∀ (rest done : List (List Int)) (fs : List (Nat × List Int)), (∀ r ∈ rest, RowOk p n r) → Inv p n done fs → Inv p n (done ++ rest) (rest.foldl (stepP p) fs)
  | [], done, fs, _, h => by simpa using h
  | row :: rest, done, fs, hr, h => by
    have h1 := inv_all_rows hp hp2 hpr rest (done ++ [row]) (stepP p fs row) (fun r hm => hr r (by simp [hm])) (inv_step hp hp2 hpr (hr row (by simp)) h)
    simpa using h1
theorem pivs_inv {p n : Nat} {rows : List (List Int)} (hp : 2 ≤ p) (hp2 : p ≤ 101) (hpr : noDiv p p = true) (hr : ∀ r ∈ rows, RowOk p n r) : Inv p n rows (pivs p rows) := by
  have h := inv_all_rows (p := p) (n := n) hp hp2 hpr rows [] [] hr ⟨by simp, trivial, by simp, by simp⟩
  simpa [pivs] using h

theorem prime_dvd {p : Nat} (hp : 2 ≤ p) (hp2 : p ≤ 101) (hpr : noDiv p p = true) (a b : Int) (h : (p : Int) ∣ a * b) : (p : Int) ∣ a ∨ (p : Int) ∣ b := by
  by_cases ha : (p : Int) ∣ a
  · exact Or.inl ha
  · right
    have hm0 : 0 ≤ a % (p : Int) := Int.emod_nonneg _ (by omega)
    have hm1 : a % (p : Int) < p := Int.emod_lt_of_pos _ (by omega)
    have hm2 : a % (p : Int) ≠ 0 := fun e => ha (Int.dvd_of_emod_eq_zero e)
    obtain ⟨an, han⟩ : ∃ an : Nat, a % (p : Int) = an := ⟨(a % (p : Int)).toNat, by omega⟩
    have hok := invOk_parts (invOk_of (p := p) (a := an) hp hp2 hpr (by omega) (by omega))
    have h1 := hok.2.2.1
    rw [Nat.mod_eq_of_lt (show 1 < p by omega)] at h1
    have h2 := Nat.div_add_mod (an * invN p an) p
    rw [h1] at h2
    have h3 : (an : Int) * (invN p an : Int) = (p : Int) * ((an * invN p an / p : Nat) : Int) + 1 := by
      rw [← Int.natCast_mul, ← Int.natCast_mul, ← Int.natCast_one, ← Int.natCast_add, h2]
    obtain ⟨u, hu⟩ := h
    obtain ⟨v, hv⟩ := dvd_mod (p : Int) a
    rw [han] at hv
    generalize ((an * invN p an / p : Nat) : Int) = k at h3
    generalize (invN p an : Int) = s at h3
    refine ⟨s * u + s * v * b - k * b, ?_⟩
    grind

/-- No more columns than rows are independent. -/
theorem rank_le {p m n : Nat} {rows cols : List (List Int)} (hp : 2 ≤ p) (hp2 : p ≤ 101) (hpr : noDiv p p = true) (hr : ∀ r ∈ rows, RowOk p n r) (hc : ∀ r ∈ cols, RowOk p m r)
    (hm : rows.length = m) (hn : cols.length = n) (ht : ∀ i j, i < m → j < n → Uf cols j i = Uf rows i j) : (pivs p cols).length ≤ (pivs p rows).length := by
  have hR := pivs_inv hp hp2 hpr hr
  have hC := pivs_inv hp hp2 hpr hc
  generalize pivs p rows = fs at hR
  generalize pivs p cols = gs at hC
  -- how each row is made
  have hA : ∃ A : Nat → Nat → Int, ∀ i, i < m → ∀ j, j < n → (p : Int) ∣ Uf rows i j - sumN fs.length (fun k => A i k * Vf fs k j) := by
    have hsp : ∀ i, i < m → Sp p n fs.length (Vf fs) (Uf rows i) := by
      intro i hi
      have hi' : i < rows.length := by omega
      have e : Uf rows i = fun j => rows[i].getD j 0 := by funext j; simp [Uf, List.getD_eq_getElem?_getD, hi']
      rw [e]; exact hR.makes _ (List.getElem_mem hi')
    refine ⟨fun i => if h : i < m then Classical.choose (hsp i h) else fun _ => 0, fun i hi j hj => ?_⟩
    simp only [dif_pos hi]
    exact Classical.choose_spec (hsp i hi) j hj
  obtain ⟨A, hA⟩ := hA
  refine stair (p : Int) (prime_dvd hp hp2 hpr) (fun h => by
      have := Int.le_of_dvd (by omega) h; omega) m gs.length fs.length (Vf gs) (fun l => (gs.getD l (0, [])).1) (fun k i => A i k) (fun l hl => ?_) (fun l hl => ?_) (fun l l' h1 h2 => ?_) (fun l hl => ?_)
  · have := (hC.piv gs[l] (List.getElem_mem hl)).1
    simpa [List.getD_eq_getElem?_getD, hl] using this
  · rw [stairL_one gs l hC.stair hl]; exact ⟨0, by simp⟩
  · rw [stairL_zero gs l l' hC.stair h1 h2]; exact ⟨0, by simp⟩
  · have e : Vf gs l = fun i => gs[l].2.getD i 0 := by funext j; simp [Vf, List.getD_eq_getElem?_getD, hl]
    rw [e]
    have hmade := hC.made gs[l] (List.getElem_mem hl)
    rw [hn] at hmade
    refine hmade.more (fun j hj => ?_)
    refine ⟨fun k => Vf fs k j, fun i hi => ?_⟩
    rw [ht i j hi hj]
    have h1 := hA i hi j hj
    have e2 : sumN fs.length (fun k => Vf fs k j * A i k) = sumN fs.length (fun k => A i k * Vf fs k j) := sumN_congr (fun k _ => by rw [Int.mul_comm])
    rw [e2]; exact h1

theorem pivs_le (p : Int) (rows : List (List Int)) : (pivs p rows).length ≤ rows.length := by
  have h : ∀ (rest : List (List Int)) (fs : List (Nat × List Int)), (rest.foldl (stepP p) fs).length ≤ fs.length + rest.length := by
    intro rest
    induction rest with
    | nil => intro fs; simp
    | cons row rest ih =>
      intro fs
      have h1 := ih (stepP p fs row)
      have h2 : (stepP p fs row).length ≤ fs.length + 1 := by unfold stepP; split <;> simp
      simp only [List.foldl_cons, List.length_cons]
      omega
  have := h rows []
  simpa [pivs] using this

end Go.Proofs.Ytkmjmmnnnbjghaa
