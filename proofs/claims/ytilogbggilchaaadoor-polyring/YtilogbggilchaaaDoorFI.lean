/- What was kept, in memory; the pure elimination. -/
import Derived.Test.YtilogbggilchaaaDoorFH
namespace Go.Proofs.YtilogbggilchaaaDoor
set_option linter.unusedSimpArgs false
set_option linter.unusedVariables false
open Go.RowKit
def nz : List Int → Nat
  | [] => 0
  | x :: xs => if x = 0 then nz xs + 1 else 0
theorem nz_le : ∀ xs, nz xs ≤ xs.length
  | [] => Nat.le_refl _
  | x :: xs => by simp only [nz, List.length_cons]; split <;> have := nz_le xs <;> omega
theorem nz_at : ∀ xs : List Int, nz xs < xs.length → xs.getD (nz xs) 0 ≠ 0
  | [], h => by simp [nz] at h
  | x :: xs, h => by
    simp only [nz] at h ⊢
    by_cases hx : x = 0
    · rw [if_pos hx] at h ⊢
      have := nz_at xs (by simpa using h)
      simpa using this
    · rw [if_neg hx]; simpa using hx
theorem nz_before : ∀ (xs : List Int) (k : Nat), k < nz xs → xs.getD k 0 = 0
  | [], k, h => by simp [nz] at h
  | x :: xs, k, h => by
    simp only [nz] at h
    by_cases hx : x = 0
    · rw [if_pos hx] at h
      cases k with
      | zero => simpa using hx
      | succ k => have := nz_before xs k (by omega); simpa using this
    · rw [if_neg hx] at h; omega

def redL (p : Int) (row : List Int) (fs : List (Nat × List Int)) : List Int := fs.foldl (clr p) row
def scl (p s : Int) (xs : List Int) : List Int := xs.map fun x => x * s % p
def stepP (p : Int) (fs : List (Nat × List Int)) (row : List Int) : List (Nat × List Int) :=
  if nz (redL p row fs) = (redL p row fs).length then fs else fs ++ [(nz (redL p row fs), scl p (invI p ((redL p row fs).getD (nz (redL p row fs)) 0)) (redL p row fs))]
def pivs (p : Int) (rows : List (List Int)) : List (Nat × List Int) := rows.foldl (stepP p) []

def RowOk (p : Int) (n : Nat) (xs : List Int) : Prop := xs.length = n ∧ ∀ x ∈ xs, 0 ≤ x ∧ x < p
theorem zip_ok {p t : Int} {n : Nat} {xs ys : List Int} (hp : 2 ≤ p) (hx : RowOk p n xs) (hy : RowOk p n ys) : RowOk p n (zipI (clrF p t) xs ys) := by
  refine ⟨by rw [zipI_len _ _ _ (by rw [hx.1, hy.1]), hx.1], ?_⟩
  have hl : xs.length = ys.length := by rw [hx.1, hy.1]
  clear hx hy
  induction xs generalizing ys with
  | nil => intro x hx; simp [zipI] at hx
  | cons x xs ih => cases ys with
    | nil => simp at hl
    | cons y ys =>
      intro z hz
      simp only [zipI, List.mem_cons] at hz
      rcases hz with rfl | hz
      · exact ⟨Int.emod_nonneg _ (by omega), Int.emod_lt_of_pos _ (by omega)⟩
      · exact ih (by simpa using hl) z hz
theorem clr_ok {p : Int} {n : Nat} {xs : List Int} {f : Nat × List Int} (hp : 2 ≤ p) (hx : RowOk p n xs) (hf : RowOk p n f.2) : RowOk p n (clr p xs f) := by
  unfold clr; split
  · exact hx
  · exact zip_ok hp hx hf
theorem redL_ok {p : Int} {n : Nat} (hp : 2 ≤ p) : ∀ (fs : List (Nat × List Int)) (xs : List Int), RowOk p n xs → (∀ f ∈ fs, RowOk p n f.2) → RowOk p n (redL p xs fs)
  | [], xs, hx, _ => hx
  | f :: fs, xs, hx, hf => redL_ok hp fs (clr p xs f) (clr_ok hp hx (hf f (by simp))) (fun g hg => hf g (by simp [hg]))
theorem scl_ok {p s : Int} {n : Nat} {xs : List Int} (hp : 2 ≤ p) (hx : RowOk p n xs) : RowOk p n (scl p s xs) := by
  refine ⟨by simp [scl, hx.1], fun x h => ?_⟩
  simp only [scl, List.mem_map] at h
  obtain ⟨y, _, rfl⟩ := h
  exact ⟨Int.emod_nonneg _ (by omega), Int.emod_lt_of_pos _ (by omega)⟩
def PivOk (p : Int) (n : Nat) (f : Nat × List Int) : Prop := f.1 < n ∧ RowOk p n f.2
theorem stepP_ok {p : Int} {n : Nat} {fs : List (Nat × List Int)} {row : List Int} (hp : 2 ≤ p) (hf : ∀ f ∈ fs, PivOk p n f) (hr : RowOk p n row) : ∀ f ∈ stepP p fs row, PivOk p n f := by
  have h1 := redL_ok hp fs row hr (fun f h => (hf f h).2)
  have h2 := nz_le (redL p row fs)
  intro f hfm
  unfold stepP at hfm
  by_cases hz : nz (redL p row fs) = (redL p row fs).length
  · rw [if_pos hz] at hfm; exact hf f hfm
  · rw [if_neg hz] at hfm
    rw [List.mem_append] at hfm
    rcases hfm with hfm | hfm
    · exact hf f hfm
    · rw [List.mem_singleton] at hfm
      rw [hfm]
      exact ⟨show nz (redL p row fs) < n by rw [← h1.1]; omega, scl_ok hp h1⟩
theorem redL_take {p : Int} {row : List Int} {fs : List (Nat × List Int)} {k : Nat} (h : k < fs.length) : redL p row (fs.take (k + 1)) = clr p (redL p row (fs.take k)) fs[k] := by
  unfold redL
  rw [List.take_succ_eq_append_getElem h, List.foldl_append]
  rfl

theorem Tryd.infoPiv : (Tryd.prog.info? 109).map (fun i => (i.zero, i.size, i.bytes)) = some (some (.agg #[.int .i64 0, .slice none 0 0]), 2, 32) := by kernel_rfl
abbrev Piv := (Nat × List Int) × Value
def qcells : List Piv → List Value
  | [] => []
  | q :: r => .int .i64 q.1.1 :: q.2 :: qcells r
theorem qcells_at : ∀ (qs : List Piv) (k : Nat) (h : k < qs.length), (qcells qs)[2 * k]? = some (.int .i64 qs[k].1.1) ∧ (qcells qs)[2 * k + 1]? = some qs[k].2
  | [], k, h => by simp at h
  | q :: r, 0, h => by simp [qcells]
  | q :: r, k + 1, h => by
    have := qcells_at r k (by simpa using h)
    have e : 2 * (k + 1) = 2 * k + 1 + 1 := by omega
    rw [e]
    simpa [qcells] using this
theorem qcells_snoc (qs : List Piv) (q : Piv) : qcells (qs ++ [q]) = qcells qs ++ [.int .i64 q.1.1, q.2] := by
  induction qs with
  | nil => rfl
  | cons a r ih => simp [qcells, ih]

structure Found (B : Nat) (w : World) (v : Value) (qs : List Piv) : Prop where
  own : w.ownsRow B 109 2 v qs.length (qcells qs)
  rows : ∀ q ∈ qs, Own w B q.2 q.1.2
theorem ownBlock_lt {w : World} {B : Nat} {T : TypeId} {s : Nat} {v : Value} {n : Nat} {xs : List Value} (h : w.ownsRow B T s v n xs) {w' : World} (hb : Below w.heap.size w w') : w'.ownsRow B T s v n xs := by
  cases ho : v.ownBlock with
  | none => exact h.kept (below_grown (r := none) hb) (Or.inl ho)
  | some k => exact h.kept (below_grown (r := none) hb) (Or.inr (by rw [ho]; simp))
theorem Found.below {B : Nat} {w w' : World} {v : Value} {qs : List Piv} (h : Found B w v qs) (hb : Below w.heap.size w w') : Found B w' v qs :=
  ⟨ownBlock_lt h.own hb, fun q hq => ownBlock_lt (h.rows q hq) hb⟩
theorem own_ne {w : World} {B B' : Nat} {u v : Value} {n m : Nat} {xs ys : List Value} (h : w.ownsRow B 3 1 u n xs) (k : w.ownsRow B' 109 2 v m ys) : u.ownBlock = none ∨ u.ownBlock ≠ v.ownBlock := by
  rcases h.2 with ⟨rfl, _⟩ | ⟨g, c, cur, rfl, _, hg, _⟩
  · left; rfl
  · right
    rcases k.2 with ⟨rfl, _⟩ | ⟨g', c', cur', rfl, _, hg', _⟩
    · simp [Value.ownBlock]
    · simp only [Value.ownBlock, ne_eq, Option.some.injEq]
      intro e
      subst e
      rw [hg] at hg'
      simp at hg'
theorem own_base {w : World} {B B' : Nat} {T : TypeId} {s : Nat} {v : Value} {n : Nat} {xs : List Value} (h : w.ownsRow B T s v n xs) (hb : B' ≤ B) : w.ownsRow B' T s v n xs := by
  refine ⟨h.1, ?_⟩
  rcases h.2 with h1 | ⟨g, c, cur, h1, h2, h3⟩
  · exact .inl h1
  · exact .inr ⟨g, c, cur, h1, Nat.le_trans hb h2, h3⟩
theorem Found.snoc {B : Nat} {w w1 : World} {v v' : Value} {qs : List Piv} {c : Nat} {r : List Int} {u : Value} (h : Found B w v qs) (hu : Own w B u r)
    (hown : w1.ownsRow B 109 2 v' (qs.length + 1) (qcells qs ++ [.int .i64 c, u])) (hg : w.grownBy w1 v.ownBlock) : Found B w1 v' (qs ++ [((c, r), u)]) := by
  refine ⟨by rw [qcells_snoc, List.length_append]; exact hown, fun q hq => ?_⟩
  rw [List.mem_append, List.mem_singleton] at hq
  rcases hq with hq | rfl
  · exact (h.rows q hq).kept hg (own_ne (h.rows q hq) h.own)
  · exact hu.kept hg (own_ne hu h.own)
theorem Found.sl {B : Nat} {w : World} {v : Value} {qs : List Piv} (h : Found B w v qs) : ∃ a c, v = .slice a qs.length c := by
  rcases h.own.2 with ⟨h1, h2⟩ | ⟨g, c, cur, h1, _⟩
  · exact ⟨none, 0, by rw [h1, h2]⟩
  · exact ⟨_, c, h1⟩
theorem Found.at {B : Nat} {w : World} {qs : List Piv} {a : Option Addr} {c : Nat} (h : Found B w (.slice a qs.length c) qs) (k : Nat) (hk : k < qs.length) :
    ∃ g, a = some ⟨g, 0, none⟩ ∧ B ≤ g ∧ g < w.heap.size ∧ w.cell? ⟨g, 2 * k, none⟩ = some (.int .i64 qs[k].1.1) ∧ w.cell? ⟨g, 2 * k + 1, none⟩ = some qs[k].2 := by
  have ho := h.own
  rcases h.own.2 with ⟨h1, h2⟩ | ⟨g, c', cur, h1, hB, hg, _⟩
  · omega
  · simp only [Value.slice.injEq] at h1
    obtain ⟨rfl, _, _⟩ := h1
    obtain ⟨q1, q2⟩ := qcells_at qs k hk
    have hlt := World.ownsRow.lt ho g rfl
    exact ⟨g, rfl, hlt.1, hlt.2, by rw [ho.cellAt _ (by omega)]; exact q1, by rw [ho.cellAt _ (by omega)]; exact q2⟩

set_option maxHeartbeats 400000 in
theorem nzFn_any (x : Int) (w : World) : Calls Tryd.prog 88 #[.int .i64 x] w fun e w' => e = .returned (.bool (x != 0)) ∧ w' = w := by
  go_enter Tryd.func88, Tryd.ntmps88
  go_wp2
  go_ret
  exact ⟨rfl, rfl⟩

set_option maxHeartbeats 400000 in
theorem indexNz_any (xs : List Int) (b off cap : Nat) (w : World) (hm : xs.length ≤ 400) (hc : IntsAt w b off xs) :
    Calls Tryd.prog 64 #[.slice (some ⟨b, off, none⟩) xs.length cap, .func (.func 88) #[] #[]] w fun e w' =>
      e = .returned (.int .i64 (if nz xs = xs.length then -1 else nz xs)) ∧ w' = w := by
  have HC := hid hc
  have hle := nz_le xs
  have NB := hid (nz_before xs)
  have NA := hid (nz_at xs)
  clear hc
  have HG : Hid (∀ r : Int, r = (if nz xs = xs.length then -1 else (nz xs : Int)) → Ending.returned (.int .i64 r) = .returned (.int .i64 (if nz xs = xs.length then -1 else (nz xs : Int)))) := fun r h => by rw [h]
  generalize hR : (if nz xs = xs.length then -1 else (nz xs : Int)) = R at HG
  have HR := hid hR
  clear hR
  go_enter Tryd.func64, Tryd.ntmps64
  go_wp2
  go_loop [8] (fun i => ∃ k : Nat, k ≤ nz xs ∧ i = .int .i64 k) (fun i => xs.length + 1 - (intOf i).toNat)
  case atStart => exact ⟨0, Nat.zero_le _, rfl⟩
  case round =>
    obtain ⟨k, hk, rfl⟩ := hrel
    by_cases hlt : k < xs.length
    · have hcell := HC.out k hlt
      by_cases he : k = nz xs
      · have hne : xs.getD k 0 ≠ 0 := by rw [he]; exact NA.out (by omega)
        have HF : Hid (R = (k : Int)) := by
          have := HR.out
          rw [if_neg (by omega)] at this
          unfold Hid; rw [← this, he]
        generalize xs.getD k 0 = y at hcell hne
        have hy : (y != 0) = true := by simpa using hne
        clear hne he
        go_wp2_with (go_at_call 88; refine (nzFn_any _ _).mono ?_; rintro e w' ⟨rfl, rfl⟩)
        go_ret
        exact ⟨ret_int HF.out.symm, rfl⟩
      · have hy0 : xs.getD k 0 = 0 := NB.out k (by omega)
        rw [hy0] at hcell
        clear hy0
        go_wp2_with (go_at_call 88; refine (nzFn_any _ _).mono ?_; rintro e w' ⟨rfl, rfl⟩)
        go_round
        case rel => exact ⟨k + 1, by omega, by go_num⟩
        case measure => simp [intOf]; omega
    · have HF : Hid (R = -1) := by
        have := HR.out
        rw [if_pos (by omega)] at this
        exact this.symm
      go_wp2
      go_ret
      exact ⟨ret_int HF.out.symm, rfl⟩
end Go.Proofs.YtilogbggilchaaaDoor
