/- What was kept, in memory; the pure elimination. -/
import Derived.Test.YtkmjmmnnnbjghaaPC
import Derived.Test.YtkmjmmnnnbjghaaI
namespace Go.Proofs.Ytkmjmmnnnbjghaa
set_option linter.unusedSimpArgs false
set_option linter.unusedVariables false
open Go.RowKit

/-- Where the first number stands that is not 0; the length: there is none. -/
def nz : List Int → Nat
  | [] => 0
  | x :: xs => if x = 0 then nz xs + 1 else 0
theorem nz_le : ∀ xs, nz xs ≤ xs.length
  | [] => Nat.le_refl _
  | x :: xs => by simp only [nz, List.length_cons]; split <;> have := nz_le xs <;> omega
theorem nz_at : ∀ xs : List Int, nz xs < xs.length → xs.getD (nz xs) 0 ≠ 0
  | [], h => by simp [nz] at h
  | x :: xs, h => by
    simp only [nz] at h ⊢
    by_cases hx : x = 0
    · rw [if_pos hx] at h ⊢
      have := nz_at xs (by simpa using h)
      simpa using this
    · rw [if_neg hx]; simpa using hx
theorem nz_before : ∀ (xs : List Int) (k : Nat), k < nz xs → xs.getD k 0 = 0
  | [], k, h => by simp [nz] at h
  | x :: xs, k, h => by
    simp only [nz] at h
    by_cases hx : x = 0
    · rw [if_pos hx] at h
      cases k with
      | zero => simpa using hx
      | succ k => have := nz_before xs k (by omega); simpa using this
    · rw [if_neg hx] at h; omega

def redL (p : Int) (row : List Int) (fs : List (Nat × List Int)) : List Int := fs.foldl (clr p) row
def scl (p s : Int) (xs : List Int) : List Int := xs.map fun x => x * s % p
def stepP (p : Int) (fs : List (Nat × List Int)) (row : List Int) : List (Nat × List Int) :=
  if nz (redL p row fs) = (redL p row fs).length then fs else fs ++ [(nz (redL p row fs), scl p (invI p ((redL p row fs).getD (nz (redL p row fs)) 0)) (redL p row fs))]
def pivs (p : Int) (rows : List (List Int)) : List (Nat × List Int) := rows.foldl (stepP p) []

/-- A row of n numbers modulo p. -/
def RowOk (p : Int) (n : Nat) (xs : List Int) : Prop := xs.length = n ∧ ∀ x ∈ xs, 0 ≤ x ∧ x < p
theorem zip_ok {p t : Int} {n : Nat} {xs ys : List Int} (hp : 2 ≤ p) (hx : RowOk p n xs) (hy : RowOk p n ys) : RowOk p n (zipI (clrF p t) xs ys) := by
  refine ⟨by rw [zipI_len _ _ _ (by rw [hx.1, hy.1]), hx.1], ?_⟩
  have hl : xs.length = ys.length := by rw [hx.1, hy.1]
  clear hx hy
  induction xs generalizing ys with
  | nil => intro x hx; simp [zipI] at hx
  | cons x xs ih => cases ys with
    | nil => simp at hl
    | cons y ys =>
      intro z hz
      simp only [zipI, List.mem_cons] at hz
      rcases hz with rfl | hz
      · exact ⟨Int.emod_nonneg _ (by omega), Int.emod_lt_of_pos _ (by omega)⟩
      · exact ih (by simpa using hl) z hz
theorem clr_ok {p : Int} {n : Nat} {xs : List Int} {f : Nat × List Int} (hp : 2 ≤ p) (hx : RowOk p n xs) (hf : RowOk p n f.2) : RowOk p n (clr p xs f) := by
  unfold clr; split
  · exact hx
  · exact zip_ok hp hx hf
theorem redL_ok {p : Int} {n : Nat} (hp : 2 ≤ p) : ∀ (fs : List (Nat × List Int)) (xs : List Int), RowOk p n xs → (∀ f ∈ fs, RowOk p n f.2) → RowOk p n (redL p xs fs)
  | [], xs, hx, _ => hx
  | f :: fs, xs, hx, hf => redL_ok hp fs (clr p xs f) (clr_ok hp hx (hf f (by simp))) (fun g hg => hf g (by simp [hg]))
theorem scl_ok {p s : Int} {n : Nat} {xs : List Int} (hp : 2 ≤ p) (hx : RowOk p n xs) : RowOk p n (scl p s xs) := by
  refine ⟨by simp [scl, hx.1], fun x h => ?_⟩
  simp only [scl, List.mem_map] at h
  obtain ⟨y, _, rfl⟩ := h
  exact ⟨Int.emod_nonneg _ (by omega), Int.emod_lt_of_pos _ (by omega)⟩
def PivOk (p : Int) (n : Nat) (f : Nat × List Int) : Prop := f.1 < n ∧ RowOk p n f.2
theorem stepP_ok {p : Int} {n : Nat} {fs : List (Nat × List Int)} {row : List Int} (hp : 2 ≤ p) (hf : ∀ f ∈ fs, PivOk p n f) (hr : RowOk p n row) : ∀ f ∈ stepP p fs row, PivOk p n f := by
  have h1 := redL_ok hp fs row hr (fun f h => (hf f h).2)
  have h2 := nz_le (redL p row fs)
  intro f hfm
  unfold stepP at hfm
  by_cases hz : nz (redL p row fs) = (redL p row fs).length
  · rw [if_pos hz] at hfm; exact hf f hfm
  · rw [if_neg hz] at hfm
    rw [List.mem_append] at hfm
    rcases hfm with hfm | hfm
    · exact hf f hfm
    · rw [List.mem_singleton] at hfm
      rw [hfm]
      exact ⟨show nz (redL p row fs) < n by rw [← h1.1]; omega, scl_ok hp h1⟩
theorem redL_take {p : Int} {row : List Int} {fs : List (Nat × List Int)} {k : Nat} (h : k < fs.length) : redL p row (fs.take (k + 1)) = clr p (redL p row (fs.take k)) fs[k] := by
  unfold redL
  rw [List.take_succ_eq_append_getElem h, List.foldl_append]
  rfl

/-! In memory. -/
theorem Try.infoPiv : (Try.prog.info? 111).map (fun i => (i.zero, i.size, i.bytes)) = some (some (.agg #[.int .i64 0, .slice none 0 0]), 2, 32) := by kernel_rfl
abbrev Piv := (Nat × List Int) × Value
def qcells : List Piv → List Value
  | [] => []
  | q :: r => .int .i64 q.1.1 :: q.2 :: qcells r
theorem qcells_len : ∀ qs, (qcells qs).length = qs.length * 2
  | [] => rfl
  | q :: r => by simp only [qcells, List.length_cons, qcells_len r]; omega
theorem qcells_at : ∀ (qs : List Piv) (k : Nat) (h : k < qs.length), (qcells qs)[2 * k]? = some (.int .i64 qs[k].1.1) ∧ (qcells qs)[2 * k + 1]? = some qs[k].2
  | [], k, h => by simp at h
  | q :: r, 0, h => by simp [qcells]
  | q :: r, k + 1, h => by
    have := qcells_at r k (by simpa using h)
    have e : 2 * (k + 1) = 2 * k + 1 + 1 := by omega
    rw [e]
    simpa [qcells] using this
theorem qcells_snoc (qs : List Piv) (q : Piv) : qcells (qs ++ [q]) = qcells qs ++ [.int .i64 q.1.1, q.2] := by
  induction qs with
  | nil => rfl
  | cons a r ih => simp [qcells, ih]

structure Found (B : Nat) (w : World) (v : Value) (qs : List Piv) : Prop where
  own : w.ownsRow B 111 2 v qs.length (qcells qs)
  rows : ∀ q ∈ qs, Own w B q.2 q.1.2
theorem ownBlock_lt {w : World} {B : Nat} {T : TypeId} {s : Nat} {v : Value} {n : Nat} {xs : List Value} (h : w.ownsRow B T s v n xs) {w' : World} (hb : Below w.heap.size w w') : w'.ownsRow B T s v n xs := by
  cases ho : v.ownBlock with
  | none => exact h.kept (below_grown (r := none) hb) (Or.inl ho)
  | some k => exact h.kept (below_grown (r := none) hb) (Or.inr (by rw [ho]; simp))
theorem Found.below {B : Nat} {w w' : World} {v : Value} {qs : List Piv} (h : Found B w v qs) (hb : Below w.heap.size w w') : Found B w' v qs :=
  ⟨ownBlock_lt h.own hb, fun q hq => ownBlock_lt (h.rows q hq) hb⟩
/-- A row of numbers lies in another block than what holds pivots. -/
theorem own_ne {w : World} {B B' : Nat} {u v : Value} {n m : Nat} {xs ys : List Value} (h : w.ownsRow B 3 1 u n xs) (k : w.ownsRow B' 111 2 v m ys) : u.ownBlock = none ∨ u.ownBlock ≠ v.ownBlock := by
  rcases h.2 with ⟨rfl, _⟩ | ⟨g, c, cur, rfl, _, hg, _⟩
  · left; rfl
  · right
    rcases k.2 with ⟨rfl, _⟩ | ⟨g', c', cur', rfl, _, hg', _⟩
    · simp [Value.ownBlock]
    · simp only [Value.ownBlock, ne_eq, Option.some.injEq]
      intro e
      subst e
      rw [hg] at hg'
      simp at hg'
theorem own_base {w : World} {B B' : Nat} {T : TypeId} {s : Nat} {v : Value} {n : Nat} {xs : List Value} (h : w.ownsRow B T s v n xs) (hb : B' ≤ B) : w.ownsRow B' T s v n xs := by
  refine ⟨h.1, ?_⟩
  rcases h.2 with h1 | ⟨g, c, cur, h1, h2, h3⟩
  · exact .inl h1
  · exact .inr ⟨g, c, cur, h1, Nat.le_trans hb h2, h3⟩
theorem Found.snoc {B : Nat} {w w1 : World} {v v' : Value} {qs : List Piv} {c : Nat} {r : List Int} {u : Value} (h : Found B w v qs) (hu : Own w B u r)
    (hown : w1.ownsRow B 111 2 v' (qs.length + 1) (qcells qs ++ [.int .i64 c, u])) (hg : w.grownBy w1 v.ownBlock) : Found B w1 v' (qs ++ [((c, r), u)]) := by
  refine ⟨by rw [qcells_snoc, List.length_append]; exact hown, fun q hq => ?_⟩
  rw [List.mem_append, List.mem_singleton] at hq
  rcases hq with hq | rfl
  · exact (h.rows q hq).kept hg (own_ne (h.rows q hq) h.own)
  · exact hu.kept hg (own_ne hu h.own)
theorem Found.sl {B : Nat} {w : World} {v : Value} {qs : List Piv} (h : Found B w v qs) : ∃ a c, v = .slice a qs.length c := by
  rcases h.own.2 with ⟨h1, h2⟩ | ⟨g, c, cur, h1, _⟩
  · exact ⟨none, 0, by rw [h1, h2]⟩
  · exact ⟨_, c, h1⟩
theorem Found.at {B : Nat} {w : World} {qs : List Piv} {a : Option Addr} {c : Nat} (h : Found B w (.slice a qs.length c) qs) (k : Nat) (hk : k < qs.length) :
    ∃ g, a = some ⟨g, 0, none⟩ ∧ B ≤ g ∧ g < w.heap.size ∧ w.cell? ⟨g, 2 * k, none⟩ = some (.int .i64 qs[k].1.1) ∧ w.cell? ⟨g, 2 * k + 1, none⟩ = some qs[k].2 := by
  have ho := h.own
  rcases h.own.2 with ⟨h1, h2⟩ | ⟨g, c', cur, h1, hB, hg, _⟩
  · omega
  · simp only [Value.slice.injEq] at h1
    obtain ⟨rfl, _, _⟩ := h1
    obtain ⟨q1, q2⟩ := qcells_at qs k hk
    have hlt := World.ownsRow.lt ho g rfl
    exact ⟨g, rfl, hlt.1, hlt.2, by rw [ho.cellAt _ (by omega)]; exact q1, by rw [ho.cellAt _ (by omega)]; exact q2⟩

set_option maxHeartbeats 400000 in
theorem nzFn_any (x : Int) (w : World) : Calls Try.prog 107 #[.int .i64 x] w fun e w' => e = .returned (.bool (x != 0)) ∧ w' = w := by
  go_enter Try.func107, Try.ntmps107
  go_wp2
  go_ret
  exact ⟨rfl, rfl⟩

set_option maxHeartbeats 400000 in
theorem indexNz_any (xs : List Int) (b off cap : Nat) (w : World) (hm : xs.length ≤ 400) (hc : IntsAt w b off xs) :
    Calls Try.prog 106 #[.slice (some ⟨b, off, none⟩) xs.length cap, .func (.func 107) #[] #[]] w fun e w' =>
      e = .returned (.int .i64 (if nz xs = xs.length then -1 else nz xs)) ∧ w' = w := by
  have HC := hid hc
  have hle := nz_le xs
  have NB := hid (nz_before xs)
  have NA := hid (nz_at xs)
  clear hc
  have HG : Hid (∀ r : Int, r = (if nz xs = xs.length then -1 else (nz xs : Int)) → Ending.returned (.int .i64 r) = .returned (.int .i64 (if nz xs = xs.length then -1 else (nz xs : Int)))) := fun r h => by rw [h]
  generalize hR : (if nz xs = xs.length then -1 else (nz xs : Int)) = R at HG
  have HR := hid hR
  clear hR
  go_enter Try.func106, Try.ntmps106
  go_wp2
  go_loop [8] (fun i => ∃ k : Nat, k ≤ nz xs ∧ i = .int .i64 k) (fun i => xs.length + 1 - (intOf i).toNat)
  case atStart => exact ⟨0, Nat.zero_le _, rfl⟩
  case round =>
    obtain ⟨k, hk, rfl⟩ := hrel
    by_cases hlt : k < xs.length
    · have hcell := HC.out k hlt
      by_cases he : k = nz xs
      · have hne : xs.getD k 0 ≠ 0 := by rw [he]; exact NA.out (by omega)
        have HF : Hid (R = (k : Int)) := by
          have := HR.out
          rw [if_neg (by omega)] at this
          unfold Hid; rw [← this, he]
        generalize xs.getD k 0 = y at hcell hne
        have hy : (y != 0) = true := by simpa using hne
        clear hne he
        go_wp2_with (go_at_call 107; refine (nzFn_any _ _).mono ?_; rintro e w' ⟨rfl, rfl⟩)
        go_ret
        exact ⟨ret_int HF.out.symm, rfl⟩
      · have hy0 : xs.getD k 0 = 0 := NB.out k (by omega)
        rw [hy0] at hcell
        clear hy0
        go_wp2_with (go_at_call 107; refine (nzFn_any _ _).mono ?_; rintro e w' ⟨rfl, rfl⟩)
        go_round
        case rel => exact ⟨k + 1, by omega, by go_num⟩
        case measure => simp [intOf]; omega
    · have HF : Hid (R = -1) := by
        have := HR.out
        rw [if_pos (by omega)] at this
        exact this.symm
      go_wp2
      go_ret
      exact ⟨ret_int HF.out.symm, rfl⟩

end Go.Proofs.Ytkmjmmnnnbjghaa

/- clone, of terms. -/
namespace Go.Proofs.Ytkmjmmnnnbjghaa
set_option linter.unusedSimpArgs false
set_option linter.unusedVariables false
open Go.RowKit

/-- A slice that lies elsewhere. -/
def Apart (g : Nat) (v : Value) : Prop := ∀ b off n c, v = .slice (some ⟨b, off, none⟩) n c → b ≠ g
/-- A row of n terms, the first ones of which are made. -/
structure Half (w : World) (wr : World) (g n : Nat) (us : List TV) : Prop where
  own : ∃ rest, wr.ownsRow w.heap.size 61 2 (.slice (some ⟨g, 0, none⟩) n n) n (flat us ++ rest) ∧ (flat us ++ rest).length = n * 2
  es : Es wr us
  apart : ∀ t ∈ us, Apart g t.2.1
  below : Below w.heap.size w wr
  ge : w.heap.size ≤ g
theorem Half.next {w wr w' : World} {g n : Nat} {us : List TV} (h : Half w wr g n us) (hb : Below wr.heap.size wr w') : Half w w' g n us := by
  obtain ⟨rest, h1, h2⟩ := h.own
  exact ⟨⟨rest, ownBlock_lt h1 hb, h2⟩, h.es.below hb, h.apart, h.below.trans (hb.mono h.below.size), h.ge⟩
theorem Half.lt {w wr : World} {g n : Nat} {us : List TV} (h : Half w wr g n us) : g < wr.heap.size := by
  obtain ⟨rest, h1, _⟩ := h.own
  exact (World.ownsRow.lt h1 g rfl).2
theorem Half.cells {w wr : World} {g n : Nat} {us : List TV} (h : Half w wr g n us) (hk : us.length < n) :
    ∃ a b, wr.cell? ⟨g, us.length * 2, none⟩ = some a ∧ wr.cell? ⟨g, us.length * 2 + 1, none⟩ = some b ∧ wr.frozen? ⟨g, us.length * 2, none⟩ = false ∧ wr.frozen? ⟨g, us.length * 2 + 1, none⟩ = false := by
  obtain ⟨rest, h1, h2⟩ := h.own
  have e1 := h1.cellAt (us.length * 2) (by omega)
  have e2 := h1.cellAt (us.length * 2 + 1) (by omega)
  rw [List.getElem?_eq_getElem (by omega)] at e1 e2
  exact ⟨_, _, e1, e2, h1.frozenAt _, h1.frozenAt _⟩
theorem set_two (l : List Value) (a b : Value) : ∀ r : List Value, 2 ≤ r.length → ((l ++ r).set l.length a).set (l.length + 1) b = l ++ [a, b] ++ r.drop 2
  | [], h => by simp at h
  | [_], h => by simp at h
  | x :: y :: r, _ => by simp [List.set_append_right]
/-- The next term is laid. -/
theorem Half.put {w wr : World} {g n : Nat} {us : List TV} (h : Half w wr g n us) (hk : us.length < n) (t : TV) (hs : Sl wr t.2.1 t.2.2) (ha : Apart g t.2.1) :
    Half w ((wr.setCell ⟨g, us.length * 2, none⟩ (.int .i64 t.1)).setCell ⟨g, us.length * 2 + 1, none⟩ t.2.1) g n (us ++ [t]) := by
  obtain ⟨rest, h1, h2⟩ := h.own
  have s1 := h1.stored (us.length * 2) (.int .i64 t.1)
  have s2 := s1.1.stored (us.length * 2 + 1) t.2.1
  have hg := grown_trans s1.2 s2.2
  rw [List.length_append, flat_len] at h2
  refine ⟨⟨rest.drop 2, ?_, ?_⟩, ?_, ?_, h.below.trans (grown_below hg h.ge h.below.size), h.ge⟩
  · have e := set_two (flat us) (.int .i64 t.1) t.2.1 rest (by omega)
    rw [flat_len] at e
    have := s2.1
    rw [e] at this
    rw [flat_append]
    exact this
  · rw [List.length_append, flat_len, List.length_drop, List.length_append]; simp; omega
  · intro u hu
    rcases List.mem_append.1 hu with hu | hu
    · exact grown_sl hg (h.es u hu) (h.apart u hu)
    · rw [List.mem_singleton] at hu; subst hu
      exact grown_sl hg hs ha
  · intro u hu
    rcases List.mem_append.1 hu with hu | hu
    · exact h.apart u hu
    · rw [List.mem_singleton] at hu; subst hu; exact ha
theorem Half.drawn {w wr : World} {g n : Nat} {us : List TV} (h : Half w wr g n us) : Half w wr.drew g n us := h.next (Below.refl _ _).drew
theorem Half.done {w wr : World} {g n : Nat} {us : List TV} (h : Half w wr g n us) (hn : us.length = n) : Pl wr (.slice (some ⟨g, 0, none⟩) n n) (us.map tm) := by
  obtain ⟨rest, h1, h2⟩ := h.own
  rw [List.length_append, flat_len] at h2
  have e : rest = [] := List.length_eq_zero_iff.1 (by omega)
  rw [e, List.append_nil] at h1
  subst hn
  exact own_pl h1 h.es
theorem Half.made {w w' : World} {n : Nat} {z : Array Value} (h : w'.ownsRow w.heap.size 61 2 (.slice (some ⟨w.heap.size, 0, none⟩) n n) n (madeCells z (n * 2)).toList) (hg : w.grownBy w' none) : Half w w' w.heap.size n [] :=
  ⟨⟨(madeCells z (n * 2)).toList, h, by simp [flat, size_madeCells]⟩, fun t ht => by simp at ht, fun t ht => by simp at ht, ⟨hg.os, hg.tape, hg.output, hg.size, fun k hk => hg.block k hk (by simp)⟩, Nat.le_refl _⟩

theorem take_tm (us : List TV) (k : Nat) (h : k < us.length) : (us.take (k + 1)).map tm = (us.take k).map tm ++ [tm (us.getD k noTV)] := by
  rw [List.take_succ_eq_append_getElem h, List.map_append]
  simp [List.getD_eq_getElem?_getD, h]
theorem own_sl' {w : World} {B : Nat} {T : TypeId} {s : Nat} {v : Value} {n : Nat} {xs : List Value} (h : w.ownsRow B T s v n xs) : ∃ a c, v = .slice a n c := by
  rcases h.2 with ⟨h1, h2⟩ | ⟨g, c, cur, h1, _⟩
  · exact ⟨none, 0, by rw [h1, h2]⟩
  · exact ⟨_, c, h1⟩
theorem ownsRow_slI {w : World} {B : Nat} {v : Value} {zs : List Int} (h : Own w B v zs) : Sl w v zs := by
  obtain ⟨_, h | ⟨g, cap, cur, rfl, hg, hh, hn, hm, hcs, ht⟩⟩ := h
  · obtain ⟨rfl, h0⟩ := h
    refine ⟨none, 0, by rw [h0], fun hp => absurd hp (by omega)⟩
  · refine ⟨_, cap, rfl, fun _ => ⟨g, 0, rfl, ?_, fun i hi => ?_⟩⟩
    · apply Nat.lt_of_not_le; intro hle; rw [Array.getElem?_eq_none hle] at hh; simp at hh
    · have e : cur.toList[i]? = some (.int .i64 (zs.getD i 0)) := by
        have h1 : (cur.toList.take (zs.length * 1))[i]? = (zs.map (Value.int .i64))[i]? := by rw [ht]
        rw [List.getElem?_take, if_pos (by omega), List.getElem?_map] at h1
        rw [h1, List.getD_eq_getElem?_getD, List.getElem?_eq_getElem hi]; rfl
      unfold World.cell?
      simp only [hh, Nat.zero_add]
      simpa using e
theorem own_apart {w : World} {B g : Nat} {v : Value} {zs : List Int} (h : Own w B v zs) (hg : g < B) : Apart g v := by
  intro b off n c e hb
  have hv : v.ownBlock = some b := by rw [e]; rfl
  have := (World.ownsRow.lt h b hv).1
  omega

set_option maxHeartbeats 1000000 in
theorem bareClone_any (v : Value) (ts : List Tm) (w : World) (hm : ts.length ≤ 4000000) (hl : ∀ t ∈ ts, t.2.length ≤ 400) (hs : Pl w v ts) :
    Calls Try.prog 135 #[v] w fun e w' => ∃ u, e = .returned u ∧ Pl w' u ts ∧ Below w.heap.size w w' := by
  obtain ⟨a, cap, us, rfl, _, hus, hes, hcs⟩ := hs.tvs
  have hul : us.length = ts.length := by rw [← hus, List.length_map]
  have HUS := hid hus
  have HES := hid hes
  have HCS := hid hcs
  have HL := hid hl
  have hm' : us.length ≤ 4000000 := by omega
  clear hs hus hes hcs hl hm hul
  obtain ⟨i0, hi, hz0, hz1, hz2⟩ := info_parts Try.infoTerm
  go_enter Try.func135, Try.ntmps135
  go_wp2_with (at_make; refine wpList_make_full _ rfl _ _ 54 rfl w.heap.size 61 i0 _ 2 Try.underlying54 hi hz0 hz1 .i64 .i64 _ _ us.length rfl rfl rfl rfl (by rw [hz2]; omega) (by unfold maxLen; omega) (Nat.le_refl _) ?_; intro w1 hown hgrow; have HH := hid (Half.made hown hgrow); clear hown hgrow)
  clear hi hz0 hz1 hz2
  go_loopw [11] (fun i wr => ∃ k : Nat, k ≤ us.length ∧ i = .int .i64 k ∧ ∃ vs : List TV, vs.length = k ∧ vs.map tm = (us.take k).map tm ∧ Half w wr w.heap.size us.length vs) (fun i _ => us.length - (intOf i).toNat)
  case atStart => exact ⟨0, Nat.zero_le _, rfl, [], rfl, rfl, HH.out⟩
  case round =>
    clear HH
    obtain ⟨k, hk, rfl, vs, hvk, hvt, hh⟩ := hrel
    have HH := hid hh
    clear hh
    by_cases hk2 : k < us.length
    · obtain ⟨b, off, rfl, hlt, hcell⟩ := HCS.out (by omega)
      have hf := flat_at us k hk2
      have c0 := hcell _ _ hf.1
      have c1 := hcell _ _ hf.2
      rw [← HH.out.below.cell (p := ⟨b, off + k * 2, none⟩) hlt] at c0
      rw [← Nat.add_assoc, ← HH.out.below.cell (p := ⟨b, off + k * 2 + 1, none⟩) hlt] at c1
      have HSL := hid (HES.out _ (tv_mem us k hk2))
      have HT := hid (take_tm us k hk2)
      have HLE := hid (HL.out (tm (us.getD k noTV)) (by rw [← HUS.out]; exact List.mem_map_of_mem (tv_mem us k hk2)))
      generalize us.getD k noTV = t at c0 c1 HSL HT HLE
      obtain ⟨tc, tv, te⟩ := t
      obtain ⟨ea, ec, he, _⟩ := HSL.out
      simp only at c0 c1 he
      subst he
      subst hvk
      clear hf hcell
      have H1 := hid (HH.out.next (belowNew (A := .cells #[.int .i64 tc, .slice ea te.length ec] 61)))
      have HB1 := hid (HH.out.below.trans ((belowNew (w := wr) (A := .cells #[.int .i64 tc, .slice ea te.length ec] 61)).mono HH.out.below.size))
      have D0 : Hid ((wr.alloc (.cells #[.int .i64 tc, .slice ea te.length ec] 61)).drew.cell? ⟨wr.heap.size, 0, none⟩ = some (.int .i64 tc)) := by show _ = _; simp [go_sem]
      go_wp2
      go_region_with (go_at_call 81; refine (clone_any _ te _ HLE.out ((HSL.out.below HB1.out).below (Below.refl _ _).drew)).mono ?_; rintro e w9 ⟨u, rfl, hu, hb9⟩; have HH9 := hid (H1.out.drawn.next hb9); have HU := hid (And.intro (ownsRow_slI hu) (own_apart hu (H1.out.drawn.lt))); obtain ⟨x0, x1, y0, y1, z0, z1⟩ := HH9.out.cells hk2; have d0 := D0.out; rw [← hb9.cell (by simp)] at d0; obtain ⟨ua, uc, rfl⟩ := own_sl' hu; clear hb9 hu)
      all_goals
        go_wp2
        go_roundw
        case rel => exact ⟨vs.length + 1, by omega, by go_num, vs ++ [_], by simp, by rw [List.map_append, hvt, HT.out]; rfl, HH9.out.put hk2 (tc, _, te) HU.out.1 HU.out.2⟩
        case measure => simp [intOf]; omega
    · have e : k = us.length := by omega
      subst e
      go_wp2
      go_ret
      refine ⟨_, rfl, ?_, HH.out.below⟩
      have h := HH.out.done hvk
      rw [hvt, List.take_of_length_le (Nat.le_refl _), HUS.out] at h
      exact h

end Go.Proofs.Ytkmjmmnnnbjghaa

/- scale, by a term. -/
namespace Go.Proofs.Ytkmjmmnnnbjghaa
set_option linter.unusedSimpArgs false
set_option linter.unusedVariables false
open Go.RowKit

theorem prodT_take (p : Int) (b : Tm) (us : List TV) (k : Nat) (h : k < us.length) : prodT p b ((us.take (k + 1)).map tm) = prodT p b ((us.take k).map tm) ++ [(b.1 * (us.getD k noTV).1 % p, zipI (· + ·) b.2 (us.getD k noTV).2.2)] := by
  rw [take_tm us k h]; simp [prodT, tm]
theorem Half.down {w w2 wr : World} {g n : Nat} {us : List TV} (h : Half w2 wr g n us) (hb : Below w.heap.size w w2) : Below w.heap.size w wr := hb.trans (h.below.mono hb.size)
theorem mulBd {a b : Int} (h : 0 ≤ a ∧ a ≤ 101 ∧ 0 ≤ b ∧ b ≤ 101) : 0 ≤ a * b ∧ a * b ≤ 10201 := by
  obtain ⟨h1, h2, h3, h4⟩ := h
  refine ⟨Int.mul_nonneg h1 h3, ?_⟩
  have := Int.mul_le_mul h2 h4 h3 (by omega : (0 : Int) ≤ 101)
  omega

theorem scaleStart {w w1 : World} {p n o v bc : Int} {bv : Value} {T1 T2 : TypeId} {m : Nat} {z : Array Value}
    (h : w1.ownsRow (w.heap.size + 1 + 1) 61 2 (.slice (some ⟨((w.alloc (.cells #[.int .i64 p, .int .i64 n, .int .i64 o, .int .i64 v] T1)).alloc (.cells #[.int .i64 bc, bv] T2)).heap.size, 0, none⟩) m m) m (madeCells z (m * 2)).toList)
    (hg : ((w.alloc (.cells #[.int .i64 p, .int .i64 n, .int .i64 o, .int .i64 v] T1)).alloc (.cells #[.int .i64 bc, bv] T2)).grownBy w1 none) :
    ∃ w2, Below w.heap.size w w2 ∧ w2.heap.size = w.heap.size + 1 + 1 ∧ w2.cell? ⟨w.heap.size, 0, none⟩ = some (.int .i64 p) ∧ w2.cell? ⟨w.heap.size + 1, 0, none⟩ = some (.int .i64 bc) ∧ w2.cell? ⟨w.heap.size + 1, 1, none⟩ = some bv ∧ Half w2 w1 (w.heap.size + 1 + 1) m [] := by
  refine ⟨(w.alloc (.cells #[.int .i64 p, .int .i64 n, .int .i64 o, .int .i64 v] T1)).alloc (.cells #[.int .i64 bc, bv] T2), below_two, by simp, by simp [go_sem], by simp [go_sem], by simp [go_sem], ?_⟩
  have e : ((w.alloc (.cells #[.int .i64 p, .int .i64 n, .int .i64 o, .int .i64 v] T1)).alloc (.cells #[.int .i64 bc, bv] T2)).heap.size = w.heap.size + 1 + 1 := by simp
  have k := Half.made (w := (w.alloc (.cells #[.int .i64 p, .int .i64 n, .int .i64 o, .int .i64 v] T1)).alloc (.cells #[.int .i64 bc, bv] T2)) (n := m) (z := z) (by rw [e]; rw [e] at h; exact h) hg
  rw [e] at k
  exact k

set_option maxHeartbeats 2000000 in
theorem bareScale_any (p n o v bc : Int) (bv : Value) (be : List Int) (fv : Value) (ts : List Tm) (w : World) (hp : 2 ≤ p ∧ p ≤ 101) (hbc : 0 ≤ bc ∧ bc < p) (h0 : 0 < be.length) (hbl : be.length ≤ 3)
    (hbe : ∀ x ∈ be, 0 ≤ x ∧ x ≤ 200) (hts : ∀ t ∈ ts, t.2.length = be.length ∧ (∀ x ∈ t.2, 0 ≤ x ∧ x ≤ 200) ∧ 0 ≤ t.1 ∧ t.1 < p) (hm : ts.length ≤ 4000000) (hs : Sl w bv be) (hf : Pl w fv ts) :
    Calls Try.prog 137 #[ringV p n o v, .agg #[.int .i64 bc, bv], fv] w fun e w' => ∃ u, e = .returned u ∧ Pl w' u (prodT p (bc, be) ts) ∧ Below w.heap.size w w' := by
  obtain ⟨a, cap, us, rfl, _, hus, hes, hcs⟩ := hf.tvs
  obtain ⟨ba, bcap, rfl, hbs⟩ := hs
  obtain ⟨bb, boff, rfl, hblt, hbint⟩ := hbs h0
  have hul : us.length = ts.length := by rw [← hus, List.length_map]
  have HUS := hid hus
  have HES := hid hes
  have HCS := hid hcs
  have HBE := hid hbe
  have HBI := hid hbint
  have HTS : Hid (∀ t ∈ us, t.2.2.length = be.length ∧ (∀ x ∈ t.2.2, 0 ≤ x ∧ x ≤ 200) ∧ 0 ≤ t.1 ∧ t.1 < p) := fun t ht => hts (tm t) (by rw [← hus]; exact List.mem_map_of_mem ht)
  have hm' : us.length ≤ 4000000 := by omega
  clear hf hus hes hcs hts hm hul hbs hbe hbint
  obtain ⟨i0, hi, hz0, hz1, hz2⟩ := info_parts Try.infoTerm
  obtain ⟨hp1, hp2⟩ := hp
  obtain ⟨hc1, hc2⟩ := hbc
  go_enter Try.func137, Try.ntmps137
  go_wp2_with (at_make; refine wpList_make_full _ rfl _ _ 54 rfl (w.heap.size + 1 + 1) 61 i0 _ 2 Try.underlying54 hi hz0 hz1 .i64 .i64 _ _ us.length rfl rfl rfl rfl (by rw [hz2]; omega) (by unfold maxLen; omega) (by simp) ?_; intro w1 hown hgrow; have HX := hid (scaleStart hown hgrow); clear hown hgrow)
  clear hi hz0 hz1 hz2
  obtain ⟨w2, hb2, hsz, kp, kc, kv, hh⟩ := HX.out
  have HB2 := hid hb2
  have HK := hid (And.intro hsz (And.intro kp (And.intro kc kv)))
  have HH0 := hid hh
  clear HX hb2 hsz kp kc kv hh
  go_loopw [17] (fun i wr => ∃ k : Nat, k ≤ us.length ∧ i = .int .i64 k ∧ ∃ vs : List TV, vs.length = k ∧ vs.map tm = prodT p (bc, be) ((us.take k).map tm) ∧ Half w2 wr (w.heap.size + 1 + 1) us.length vs) (fun i _ => us.length - (intOf i).toNat)
  case atStart => exact ⟨0, Nat.zero_le _, rfl, [], rfl, rfl, HH0.out⟩
  case round =>
    clear HH0
    obtain ⟨wo, hwo⟩ : ∃ wo : World, wo = wr := ⟨_, rfl⟩
    subst hwo
    obtain ⟨k, hk, rfl, vs, hvk, hvt, hh⟩ := hrel
    have HH := hid hh
    clear hh
    by_cases hk2 : k < us.length
    · obtain ⟨b, off, rfl, hlt, hcell⟩ := HCS.out (by omega)
      have hf := flat_at us k hk2
      have c0 := hcell _ _ hf.1
      have c1 := hcell _ _ hf.2
      have HDN := hid (HH.out.down HB2.out)
      rw [← HDN.out.cell (p := ⟨b, off + k * 2, none⟩) hlt] at c0
      rw [← Nat.add_assoc, ← HDN.out.cell (p := ⟨b, off + k * 2 + 1, none⟩) hlt] at c1
      have HSL := hid (HES.out _ (tv_mem us k hk2))
      have HT := hid (prodT_take p (bc, be) us k hk2)
      have HLE := hid (HTS.out _ (tv_mem us k hk2))
      generalize us.getD k noTV = t at c0 c1 HSL HT HLE
      obtain ⟨tc, tv, te⟩ := t
      obtain ⟨ea, ec, he, hei⟩ := HSL.out
      simp only at c0 c1 he
      subst he
      subst hvk
      have hte : te.length ≤ 3 := by have := HLE.out.1; simp only at this; omega
      have hte0 : 0 < te.length := by have := HLE.out.1; simp only at this; omega
      obtain ⟨eb, eoff, rfl, helt, heint⟩ := hei hte0
      have HEI := hid heint
      clear hf hcell hei heint
      -- the world with the term's own box
      obtain ⟨w3, hw3⟩ : ∃ w3, w3 = wo.alloc (.cells #[.int .i64 tc, .slice (some ⟨eb, eoff, none⟩) te.length ec] 61) := ⟨_, rfl⟩
      have hb3 : Below wo.heap.size wo w3 := by rw [hw3]; exact belowNew
      have hs3 : w3.heap.size = wo.heap.size + 1 := by rw [hw3]; simp
      have q0 : w3.cell? ⟨wo.heap.size, 0, none⟩ = some (.int .i64 tc) := by rw [hw3]; simp [go_sem]
      have q1 : w3.cell? ⟨wo.heap.size, 1, none⟩ = some (.slice (some ⟨eb, eoff, none⟩) te.length ec) := by rw [hw3]; simp [go_sem]
      have hwl : w.heap.size + 1 + 1 < wo.heap.size := HH.out.lt
      have H3 := hid (HH.out.next hb3)
      have HD3 := hid (HDN.out.trans (hb3.mono HDN.out.size))
      have HQ := hid (And.intro q0 q1)
      have HS3 := hid (And.intro hs3 hwl)
      have HB3 := hid hb3
      have HW3 := hid hw3
      clear q0 q1 hs3 hwl hb3 hw3
      have HLZ := hid (zipI_len (· + ·) be te HLE.out.1.symm)
      have hmk := fun (w : World) => run_make_row' (P := Try.prog) 36 3 (.int .i64 0) 8 Try.underlying36 Try.info_int rfl .i64 .i64 te.length (by omega) (by omega) w
      go_wp2
      clear hmk c0 c1
      go_loopw [28] (fun i wx => ∃ j : Nat, j ≤ te.length ∧ i = .int .i64 j ∧ OwnK w3 wx te.length j (zipI (· + ·) be te)) (fun i _ => te.length - (intOf i).toNat)
      case atStart => exact ⟨0, Nat.zero_le _, rfl, by rw [HW3.out]; exact OwnK.start _ _ _⟩
      case round =>
        obtain ⟨j, hj, rfl, hown⟩ := hrel
        have HO := hid hown
        clear hown
        by_cases hj2 : j < te.length
        · have hjb : j < be.length := by have := HLE.out.1; omega
          have HXD := hid (HD3.out.trans (HO.out.1.mono HD3.out.size))
          have x0 := HBI.out j hjb
          have x1 := HEI.out j hj2
          have HZ := hid (zipI_at (· + ·) be te HLE.out.1.symm j hjb)
          have hx := HBE.out _ (getD_mem be j hjb)
          have hy := HLE.out.2.1 _ (getD_mem te j hj2)
          generalize be.getD j 0 = x at x0 HZ hx
          generalize te.getD j 0 = y at x1 HZ hy
          rw [← HXD.out.cell (p := ⟨bb, boff + j, none⟩) hblt] at x0
          rw [← HXD.out.cell (p := ⟨eb, eoff + j, none⟩) helt] at x1
          have b1 := HK.out.2.2.2
          rw [← H3.out.below.cell (p := ⟨w.heap.size + 1, 1, none⟩) (by rw [HK.out.1]; simp), ← HO.out.1.cell (p := ⟨w.heap.size + 1, 1, none⟩) (by have := HS3.out; simp only; omega)] at b1
          have b2 := HQ.out.2
          rw [← HO.out.1.cell (p := ⟨wo.heap.size, 1, none⟩) (by have := HS3.out; simp only; omega)] at b2
          obtain ⟨hsome, hfr⟩ := HO.out.2.2.1 j hj2
          rw [HS3.out.1] at hsome hfr
          obtain ⟨u, hu⟩ := Option.isSome_iff_exists.1 hsome
          obtain ⟨hx1, hx2⟩ := hx
          obtain ⟨hy1, hy2⟩ := hy
          clear hsome
          go_wp2
          go_region
          all_goals
            go_wp2
            go_roundw
            case rel => exact ⟨j + 1, by omega, by go_num, by have h := (HO.out.step hj2 _ HZ.out.symm).drawn; rw [HS3.out.1] at h; exact h⟩
            case measure => simp [intOf]; omega
        · have e : j = te.length := by omega
          subst e
          have HXB := hid (HB3.out.trans (HO.out.1.mono HB3.out.size))
          have HHx := hid (HH.out.next HXB.out)
          have HSx : Hid (Sl wr (.slice (some ⟨wo.heap.size + 1, 0, none⟩) te.length te.length) (zipI (· + ·) be te)) := by
            have h : OwnK w3 wr (zipI (· + ·) be te).length (zipI (· + ·) be te).length (zipI (· + ·) be te) := by rw [HLZ.out, ← HLE.out.1]; exact HO.out
            have h2 := h.sl
            rw [HS3.out.1, HLZ.out, ← HLE.out.1] at h2
            exact h2
          have b0 := HK.out.2.2.1
          rw [← H3.out.below.cell (p := ⟨w.heap.size + 1, 0, none⟩) (by rw [HK.out.1]; simp), ← HO.out.1.cell (p := ⟨w.heap.size + 1, 0, none⟩) (by have := HS3.out; simp only; omega)] at b0
          have r0 := HK.out.2.1
          rw [← H3.out.below.cell (p := ⟨w.heap.size, 0, none⟩) (by rw [HK.out.1]; simp; omega), ← HO.out.1.cell (p := ⟨w.heap.size, 0, none⟩) (by have := HS3.out; simp only; omega)] at r0
          have t0 := HQ.out.1
          rw [← HO.out.1.cell (p := ⟨wo.heap.size, 0, none⟩) (by have := HS3.out; simp only; omega)] at t0
          obtain ⟨x0, x1, y0, y1, z0, z1⟩ := HHx.out.cells hk2
          have hmul := mulBd (a := bc) (b := tc) ⟨by omega, by omega, HLE.out.2.2.1, by have := HLE.out.2.2.2; omega⟩
          obtain ⟨hm1, hm2⟩ := hmul
          have HAP : Hid (Apart (w.heap.size + 1 + 1) (.slice (some ⟨wo.heap.size + 1, 0, none⟩) te.length te.length)) := by
            intro b' off' n' c' e' hb'
            simp only [Value.slice.injEq, Option.some.injEq, Addr.mk.injEq] at e'
            have := HS3.out.2
            omega
          go_wp2
          go_roundw
          case rel => exact ⟨vs.length + 1, by omega, by go_num, vs ++ [_], by simp, by rw [List.map_append, hvt, HT.out]; rfl, HHx.out.put hk2 (bc * tc % p, _, zipI (· + ·) be te) HSx.out HAP.out⟩
          case measure => simp [intOf]; omega
    · have e : k = us.length := by omega
      subst e
      go_wp2
      go_ret
      refine ⟨_, rfl, ?_, HH.out.down HB2.out⟩
      have h := HH.out.done hvk
      rw [hvt, List.take_of_length_le (Nat.le_refl _), HUS.out] at h
      exact h

end Go.Proofs.Ytkmjmmnnnbjghaa

/- pivots. -/
namespace Go.Proofs.Ytkmjmmnnnbjghaa
set_option linter.unusedSimpArgs false
set_option linter.unusedVariables false
open Go.RowKit

theorem own_form {w : World} {B : Nat} {u : Value} {xs : List Int} (h : Own w B u xs) (h0 : 0 < xs.length) : ∃ g c, u = .slice (some ⟨g, 0, none⟩) xs.length c ∧ B ≤ g ∧ g < w.heap.size := by
  rcases h.2 with ⟨_, h2⟩ | ⟨g, c, cur, h1, _⟩
  · omega
  · subst h1
    exact ⟨g, c, rfl, (World.ownsRow.lt h g rfl).1, (World.ownsRow.lt h g rfl).2⟩
theorem own_any_form {w : World} {B : Nat} {u : Value} {xs : List Int} (h : Own w B u xs) : ∃ a c, u = .slice a xs.length c := by
  rcases h.2 with ⟨h1, h2⟩ | ⟨g, c, cur, h1, _⟩
  · exact ⟨none, 0, by rw [h1, h2]⟩
  · exact ⟨_, c, h1⟩
theorem own_ints {w : World} {B g c : Nat} {xs : List Int} (h : Own w B (.slice (some ⟨g, 0, none⟩) xs.length c) xs) : IntsAt w g 0 xs := fun i hi => by rw [Nat.zero_add]; exact own_cell h i hi

theorem clearColumn_n (p : Int) (xs ys : List Int) (N M c B g cap b2 off2 cap2 : Nat) (w : World) (hN : xs.length = N) (hM : ys.length = M) (hp : 2 ≤ p ∧ p ≤ 101) (hm : N ≤ 400) (hxy : N = M) (hcn : c < N)
    (hx : ∀ x ∈ xs, 0 ≤ x ∧ x < p) (hy : ∀ x ∈ ys, 0 ≤ x ∧ x < p) (hown : Own w B (.slice (some ⟨g, 0, none⟩) N cap) xs) (hlt2 : b2 < w.heap.size) (hne : b2 ≠ g) (hc2 : IntsAt w b2 off2 ys) :
    Calls Try.prog 105 #[.int .i64 p, .slice (some ⟨g, 0, none⟩) N cap, .agg #[.int .i64 c, .slice (some ⟨b2, off2, none⟩) M cap2]] w fun e w' =>
      e = .returned (.tuple #[]) ∧ Own w' B (.slice (some ⟨g, 0, none⟩) N cap) (clr p xs (c, ys)) ∧ w.grownBy w' (some g) := by
  subst hN hM
  exact clearColumn_any p xs ys c B g cap b2 off2 cap2 w hp hm hxy hcn hx hy hown hlt2 hne hc2
theorem indexNz_n (xs : List Int) (N b off cap : Nat) (w : World) (hN : xs.length = N) (hm : N ≤ 400) (hc : IntsAt w b off xs) :
    Calls Try.prog 106 #[.slice (some ⟨b, off, none⟩) N cap, .func (.func 107) #[] #[]] w fun e w' =>
      e = .returned (.int .i64 (if nz xs = N then -1 else nz xs)) ∧ w' = w := by
  subst hN
  exact indexNz_any xs b off cap w hm hc
theorem own_cellN {w : World} {B g cap N : Nat} {xs : List Int} (h : Own w B (.slice (some ⟨g, 0, none⟩) N cap) xs) (hN : xs.length = N) (k : Nat) (hk : k < N) : w.cell? ⟨g, k, none⟩ = some (.int .i64 (xs.getD k 0)) := by
  subst hN; exact own_cell h k hk
theorem own_frozen {w : World} {B g cap N : Nat} {xs : List Int} (h : Own w B (.slice (some ⟨g, 0, none⟩) N cap) xs) (hN : xs.length = N) (k : Nat) : w.frozen? ⟨g, k, none⟩ = false := by
  subst hN; exact World.ownsRow.frozenAt h k
theorem own_store {w : World} {B g cap N : Nat} {xs : List Int} (h : Own w B (.slice (some ⟨g, 0, none⟩) N cap) xs) (hN : xs.length = N) (k : Nat) (z : Int) : Own (w.setCell ⟨g, k, none⟩ (.int .i64 z)) B (.slice (some ⟨g, 0, none⟩) N cap) (xs.set k z) := by
  subst hN
  have h1 := (World.ownsRow.stored h k (.int .i64 z)).1
  rw [ints_set] at h1
  unfold Own
  rw [List.length_set]
  exact h1
theorem scl_at (p s : Int) (xs : List Int) (k : Nat) (h : k < xs.length) : (scl p s xs).getD k 0 = xs.getD k 0 * s % p := by
  simp [scl, List.getD_eq_getElem?_getD, h]

theorem two_new (w : World) (a b : Value) (T : TypeId) : ∀ j u, [a, b][j]? = some u → (w.alloc (.cells #[a, b] T)).cell? ((⟨w.heap.size, 0, none⟩ : Addr).add j) = some u := by
  intro j u hj
  rcases j with _ | _ | j
  · simp at hj; subst hj; simp [Addr.add]
  · simp at hj; subst hj; simp [Addr.add]
  · simp at hj
theorem two_cells (c : Int) (a : Option Addr) (n k : Nat) : ∀ u ∈ [Value.int .i64 c, .slice a n k], u.oneCell' = true := by
  intro u hu
  simp at hu
  rcases hu with rfl | rfl <;> rfl

/-- The list that was kept, of the pieces in memory. -/
abbrev fsOf (qs : List Piv) : List (Nat × List Int) := qs.map Prod.fst

theorem fsOf_snoc (qs : List Piv) (q : Piv) : fsOf (qs ++ [q]) = fsOf qs ++ [q.1] := by simp

set_option maxRecDepth 100000 in
set_option maxHeartbeats 2000000 in
theorem pivots_any (p n : Nat) (v : Value) (rows : List (List Int)) (w : World) (hp : 2 ≤ p) (hp2 : p ≤ 101) (hm : rows.length ≤ 400) (hn : n ≤ 400)
    (hrows : ∀ r ∈ rows, RowOk p n r) (hr : Rws w v rows) :
    Calls Try.prog 61 #[.int .i64 p, v] w fun e w' => ∃ a c, e = .returned (.slice a (pivs p rows).length c) ∧ Below w.heap.size w w' := by
  have HR := hid hr
  have HROWS := hid hrows
  obtain ⟨ra, rcap, rfl, _⟩ := hr
  obtain ⟨i0, hi, hz0, hz1, hz2⟩ := info_parts Try.infoPiv
  have HI := hid (And.intro hi (And.intro hz0 (And.intro hz1 hz2)))
  clear hrows hi hz0 hz1 hz2
  go_enter Try.func61, Try.ntmps61
  go_wp2
  go_loopw [5, 16] (fun v i wr => ∃ (k : Nat) (qs : List Piv), k ≤ rows.length ∧ i = .int .i64 k ∧ qs.length ≤ k ∧ Found w.heap.size wr v qs ∧ (∀ f ∈ fsOf qs, PivOk p n f) ∧ fsOf qs = (rows.take k).foldl (stepP p) [] ∧ Below w.heap.size w wr) (fun _ i _ => rows.length - (intOf i).toNat)
  case atStart => exact ⟨0, [], Nat.zero_le _, rfl, Nat.le_refl _, ⟨World.ownsRow_nil _ _ _ _, fun q hq => by simp at hq⟩, fun f hf => by simp at hf, rfl, Below.refl _ _⟩
  case round =>
    obtain ⟨k, qs, hk, rfl, hqk, hfo, hok, hfs, hbr⟩ := hrel
    obtain ⟨wo, hwo⟩ : ∃ wo : World, wo = wr := ⟨_, rfl⟩
    subst hwo
    have HFO := hid hfo
    have HOK := hid hok
    have HFS := hid hfs
    have HBR := hid hbr
    obtain ⟨fa, fc, rfl⟩ := hfo.sl
    clear hfo hok hfs
    by_cases hk2 : k < rows.length
    · obtain ⟨a, cap, he, hrr⟩ := HR.out
      obtain ⟨b, off, ha, hlt, hsl⟩ := hrr (by omega)
      simp only [Value.slice.injEq] at he
      obtain ⟨rfl, _, rfl⟩ := he
      subst ha
      obtain ⟨vv, hcell, hs⟩ := hsl k hk2
      rw [← hbr.cell (p := ⟨b, off + k, none⟩) hlt] at hcell
      have HSL := hid (hs.below hbr)
      have HRW := hid (HROWS.out _ (getR_mem rows k hk2))
      have HST : Hid ((rows.take (k + 1)).foldl (stepP p) [] = stepP p (fsOf qs) (rows.getD k [])) := by
        unfold Hid
        rw [List.take_succ_eq_append_getElem hk2, List.foldl_append, ← HFS.out]
        simp [List.getD_eq_getElem?_getD, hk2]
      clear hrr hsl hs hbr
      generalize rows.getD k [] = row at HSL HRW HST
      obtain ⟨sa, sc, hvv, _⟩ := HSL.out
      subst hvv
      have hlr1 : row.length ≤ 400 := by have := HRW.out.1; omega
      go_wp2_with fail
      refine (clone_any _ row _ hlr1 HSL.out).mono ?_
      rintro e w2 ⟨rest, rfl, hown, hb2⟩
      have HOWN := hid hown
      have HB2 := hid hb2
      by_cases hn0 : row.length = 0
      · have hnn : n = 0 := by have := HRW.out.1; omega
        have hq0 : qs = [] := by
          cases qs with
          | nil => rfl
          | cons q qs => have h1 := (HOK.out q.1 (by simp)).1; omega
        have hrow : row = [] := List.length_eq_zero_iff.1 hn0
        obtain ⟨ra', rc', hrf⟩ := own_any_form hown
        subst hq0 hrow hrf
        have HST2 : Hid ((rows.take (k + 1)).foldl (stepP p) [] = []) := HST.out
        clear hown hb2 hn0 HST hnn
        go_wp2_with fail
        go_loop [24] (fun i => i = .int .i64 0) (fun _ => 0)
        case atStart => rfl
        case round =>
          subst hrel
          go_wp2_with fail
          refine (indexNil_any _ _ _ _).mono ?_
          rintro e w' ⟨rfl, hw'⟩
          subst w'
          go_wp2_with fail
          go_roundw
          case rel => exact ⟨k + 1, [], by omega, by go_num, by simp, HFO.out.below HB2.out, fun f hf => by simp at hf, by rw [HST2.out]; rfl, HBR.out.trans (HB2.out.mono HBR.out.size)⟩
          case measure => simp [intOf]; omega
      · obtain ⟨g, gc, hrest, hgB, hgw⟩ := own_form hown (by omega)
        subst hrest
        clear hown hb2
        go_wp2_with fail
        go_loopw [24] (fun i wx => ∃ j : Nat, j ≤ qs.length ∧ i = .int .i64 j ∧ Own wx wo.heap.size (.slice (some ⟨g, 0, none⟩) row.length gc) (redL p row ((fsOf qs).take j)) ∧ Below wo.heap.size wo wx) (fun i _ => qs.length - (intOf i).toNat)
        case atStart => exact ⟨0, Nat.zero_le _, rfl, HOWN.out, HB2.out⟩
        case round =>
          obtain ⟨j, hj, rfl, ho, hbx⟩ := hrel
          by_cases hj2 : j < qs.length
          · have hfx := HFO.out.below hbx
            obtain ⟨fg, hfa, hfg1, hfg2, hfc1, hfc2⟩ := hfx.at j hj2
            subst hfa
            have hjf : j < (fsOf qs).length := by simpa using hj2
            have HPV := hid (HOK.out (fsOf qs)[j] (List.getElem_mem hjf))
            have HRD := hid (redL_take (p := p) (row := row) hjf)
            have HRX := hid (redL_ok (n := n) (by omega) ((fsOf qs).take j) row HRW.out (fun f hf => (HOK.out f (List.mem_of_mem_take hf)).2))
            have hqr := hfx.rows qs[j] (List.getElem_mem hj2)
            have hqr0 := HFO.out.rows qs[j] (List.getElem_mem hj2)
            have efs : (fsOf qs)[j] = qs[j].1 := by simp
            rw [efs] at HPV HRD
            generalize qs[j] = q at hfc1 hfc2 hqr hqr0 HPV HRD
            obtain ⟨⟨qc, qrow⟩, qv⟩ := q
            have hql : qrow.length = row.length := by have h1 := HPV.out.2.1; have h2 := HRW.out.1; simp only at h1; omega
            obtain ⟨qg, qcap, hqv, hqg1, hqg2⟩ := own_form hqr0 (by simp only; omega)
            simp only at hfc1 hfc2 hqr hqr0 hqv
            subst hqv
            have HQL := hid hql
            have HQR := hid hqr
            have HO := hid ho
            have HBX := hid hbx
            have hqg3 : qg ≠ g := by omega
            have hsx := hbx.size
            have hqc : qc < row.length := by have h1 := HPV.out.1; have h2 := HRW.out.1; simp only at h1; omega
            clear hfx hjf efs hqr hqr0 hql ho hbx
            have e2 : 2 * j = j * 2 := by omega
            rw [e2] at hfc1 hfc2
            clear e2
            go_wp2_with fail
            refine (clearColumn_n p (redL p row ((fsOf qs).take j)) qrow row.length qrow.length qc wo.heap.size g gc qg 0 qcap _ (by rw [HRX.out.1, HRW.out.1]) rfl ⟨by omega, by omega⟩ hlr1 HQL.out.symm hqc HRX.out.2 HPV.out.2.2 ?_ ?_ hqg3 ?_).mono ?_
            · exact own_kept HO.out belowNew
            · simp; omega
            · intro i hi
              rw [belowNew.cell (p := ⟨qg, 0 + i, none⟩) (show qg < wr.heap.size by omega)]
              exact own_ints HQR.out i hi
            rintro e w3 ⟨rfl, ho3, hg3⟩
            have HO3 := hid ho3
            have HB3 := hid (HBX.out.trans (grown_below (grown_trans (below_grown belowNew) hg3) hgB hsx))
            clear ho3 hg3
            go_wp2
            go_roundw
            case rel => exact ⟨j + 1, by omega, by go_num, by rw [HRD.out]; exact HO3.out, HB3.out⟩
            case measure => simp [intOf]; omega
          · have ej : j = qs.length := by omega
            have etk : (fsOf qs).take j = fsOf qs := List.take_of_length_le (by simp; omega)
            rw [etk] at ho
            have HRX := hid (redL_ok (n := n) (by omega) (fsOf qs) row HRW.out (fun f hf => (HOK.out f hf).2))
            have hRN : (redL p row (fsOf qs)).length = row.length := by rw [HRX.out.1, HRW.out.1]
            have HRN := hid hRN
            have HSP : Hid (stepP p (fsOf qs) row = if nz (redL p row (fsOf qs)) = row.length then fsOf qs else fsOf qs ++ [(nz (redL p row (fsOf qs)), scl p (invI p ((redL p row (fsOf qs)).getD (nz (redL p row (fsOf qs))) 0)) (redL p row (fsOf qs)))]) := by
              unfold Hid stepP; rw [hRN]
            have HO := hid ho
            have HBX := hid hbx
            have HSOK := hid (stepP_ok (p := p) (n := n) (by omega) HOK.out HRW.out)
            rw [HSP.out] at HSOK
            rw [HSP.out] at HST
            clear ho hbx etk ej hRN HSP
            have hnzle := nz_le (redL p row (fsOf qs))
            have hnzat := nz_at (redL p row (fsOf qs))
            rw [HRN.out] at hnzle hnzat
            have HNA := hid hnzat
            clear hnzat
            generalize redL p row (fsOf qs) = r at HRX HRN HST HO HSOK hnzle HNA
            go_wp2_with fail
            refine (indexNz_n r row.length g 0 gc _ HRN.out hlr1 ?_).mono ?_
            · intro i hi; rw [Nat.zero_add]; exact own_cellN HO.out HRN.out i (by rw [← HRN.out]; exact hi)
            rintro e w' ⟨rfl, hw'⟩
            subst w'
            by_cases hz : nz r = row.length
            · rw [if_pos hz]
              rw [if_pos hz] at HST HSOK
              clear hz
              go_wp2_with fail
              go_roundw
              case rel => exact ⟨k + 1, qs, by omega, by go_num, by omega, HFO.out.below HBX.out, HSOK.out, by rw [HST.out], HBR.out.trans (HBX.out.mono HBR.out.size)⟩
              case measure => simp [intOf]; omega
            · rw [if_neg hz]
              rw [if_neg hz] at HST HSOK
              have hcN : nz r < row.length := by omega
              have hcell := own_cellN HO.out HRN.out (nz r) hcN
              have hne0 := HNA.out hcN
              have hmem := HRX.out.2 _ (getD_mem r (nz r) (by rw [HRN.out]; exact hcN))
              clear hz
              generalize nz r = c at *
              generalize hx : r.getD c 0 = x at *
              obtain ⟨an, rfl⟩ : ∃ an : Nat, x = an := ⟨x.toNat, by omega⟩
              have ha1 : an < p := by omega
              clear hx
              go_wp2_with fail
              refine (inverse_any p an _ hp hp2 ha1).mono ?_
              rintro e w' ⟨rfl, hw'⟩
              subst w'
              have hsl := pwN_lt p an hp (p - 2)
              have HSV : Hid (invI (p : Int) (an : Int) = (invN p an : Int)) := rfl
              rw [HSV.out] at HST HSOK
              have hsl2 : invN p an < p := hsl
              clear hsl HSV
              generalize invN p an = s at hsl2 HST HSOK
              obtain ⟨wy, hwy⟩ : ∃ wy : World, wy = wr := ⟨_, rfl⟩
              subst hwy
              have HLS : Hid ((scl p s r).length = r.length) := by simp [Hid, scl]
              clear hcell
              go_wp2_with fail
              go_loopw [45] (fun i wx => ∃ m : Nat, m ≤ row.length ∧ i = .int .i64 m ∧ Own wx wo.heap.size (.slice (some ⟨g, 0, none⟩) row.length gc) (mixL (scl p s r) r m) ∧ Below wo.heap.size wo wx) (fun i _ => row.length - (intOf i).toNat)
              case atStart => exact ⟨0, Nat.zero_le _, rfl, by simpa [mixL] using HO.out, HBX.out⟩
              case round =>
                obtain ⟨m, hm1, rfl, hom, hbm⟩ := hrel
                have HOM := hid hom
                have HBM := hid hbm
                have hml := mixL_len (scl p s r) r m HLS.out (by rw [HRN.out]; exact hm1)
                rw [HRN.out] at hml
                have HML := hid hml
                by_cases hm2 : m < row.length
                · have hcell := own_cellN hom hml m hm2
                  have hfr := own_frozen hom hml m
                  have hst := fun z => own_store hom hml m z
                  have hat := mixL_at (scl p s r) r m HLS.out (by rw [HRN.out]; exact hm2)
                  have hset := mixL_set (scl p s r) r m HLS.out (by rw [HRN.out]; exact hm2)
                  rw [scl_at p s r m (by rw [HRN.out]; exact hm2)] at hset
                  rw [hat] at hcell
                  have hrm := HRX.out.2 _ (getD_mem r m (by rw [HRN.out]; exact hm2))
                  have HSS : Hid (∀ z, z = r.getD m 0 * (s : Int) % (p : Int) → Own (wr.setCell ⟨g, m, none⟩ (.int .i64 z)) wo.heap.size (.slice (some ⟨g, 0, none⟩) row.length gc) (mixL (scl p s r) r (m + 1))) := by
                    intro z hz; rw [hz, ← hset]; exact hst _
                  have hmb := mul_bd (a := r.getD m 0) (b := (s : Int)) ⟨by omega, by omega, by omega, by omega⟩
                  obtain ⟨hmb1, hmb2⟩ := hmb
                  clear hst hat hset hom hbm hml
                  generalize r.getD m 0 = y at hcell HSS hmb1 hmb2 hrm
                  go_wp2
                  go_roundw
                  case rel => exact ⟨m + 1, by omega, by go_num, HSS.out _ rfl, HBM.out.setCell hgB _⟩
                  case measure => simp [intOf]; omega
                · have efin : mixL (scl p s r) r m = scl p s r := by
                    unfold mixL
                    rw [List.take_of_length_le (by rw [HLS.out, HRN.out]; omega), List.drop_eq_nil_of_le (by rw [HRN.out]; omega), List.append_nil]
                  rw [efin] at HOM
                  have FND := hid (HFO.out.below HBM.out)
                  have hsz : w.heap.size ≤ wr.heap.size := Nat.le_trans HBR.out.size HBM.out.size
                  clear efin hom hbm hml HML
                  obtain ⟨hi, hz0, hz1, hz2⟩ := HI.out
                  go_wp2_with (at_builtin; refine wpList_append_own _ rfl _ _ 82 rfl w.heap.size 111 i0 (.agg #[.int .i64 0, .slice none 0 0]) 2 32 Try.underlying82 hi hz0 hz1 hz2 rfl (by decide) _ _ _ rfl (FND.out.own.alloc _) ⟨wr.heap.size, 0, none⟩ 1 1 [.int .i64 c, .slice (some ⟨g, 0, none⟩) row.length gc] rfl rfl (two_new _ _ _ _) (two_cells _ _ _ _) (by unfold maxLen; omega) (by omega) (by simp; omega) ?_)
                  intro v' w4 hown' hgrow _
                  have FN2 := hid (Found.snoc (FND.out.below belowNew) (ownBlock_lt (own_base HOM.out (show w.heap.size ≤ wo.heap.size from HBR.out.size)) belowNew) hown' hgrow)
                  have HB4 := hid (show Below w.heap.size w w4 from (HBR.out.trans ((HBM.out.trans (belowNew.mono HBM.out.size)).mono HBR.out.size)).grown hgrow (by simp; omega) (fun k' hk' => (World.ownsRow.lt FND.out.own k' hk').1))
                  obtain ⟨va, vc, hv'⟩ := FN2.out.sl
                  subst hv'
                  clear hown' hgrow hi hz0 hz1 hz2
                  go_wp2_with fail
                  go_roundw
                  case rel => exact ⟨k + 1, qs ++ [((c, scl p s r), .slice (some ⟨g, 0, none⟩) row.length gc)], by omega, by go_num, by simp; omega, FN2.out, by rw [fsOf_snoc]; exact HSOK.out, by rw [fsOf_snoc, HST.out], HB4.out⟩
                  case measure => simp [intOf]; omega
    · have ek : k = rows.length := by omega
      have etk : rows.take k = rows := List.take_of_length_le (by omega)
      rw [etk] at HFS
      have HLN : Hid (qs.length = (pivs p rows).length) := by
        unfold Hid pivs; rw [← HFS.out]; simp
      clear etk ek
      go_wp2
      go_ret
      exact ⟨fa, fc, by rw [← HLN.out]; rfl, HBR.out⟩

end Go.Proofs.Ytkmjmmnnnbjghaa

/- Rank; what must be in any case. -/
namespace Go.Proofs.Ytkmjmmnnnbjghaa
set_option linter.unusedSimpArgs false
set_option linter.unusedVariables false
open Go.RowKit

def rankR (p : Int) (xss : List (List Int)) : Int := if rowsE p xss = 0 then ((pivs p xss).length : Int) else 0

theorem rowsE_ok {p : Int} {xss : List (List Int)} (h : rowsE p xss = 0) : errP p = 0 ∧ xss.length ≤ 400 ∧ (xss.getD 0 []).length ≤ 400 ∧ ∀ r ∈ xss, RowOk p (xss.getD 0 []).length r := by
  unfold rowsE at h
  by_cases h1 : errP p = 0
  · rw [if_pos h1] at h
    unfold rowE at h
    by_cases h2 : 400 < (xss.length : Int) ∨ xss.any longR = true
    · rw [if_pos h2] at h; omega
    · rw [if_neg h2] at h
      cases h3 : xss.any (unlikeR (xss.getD 0 []).length)
      · rw [if_neg (by rw [h3]; exact Bool.false_ne_true)] at h
        cases h4 : xss.any (fun xs => xs.any (outP p))
        · have hl : xss.any longR = false := by
            cases hh : xss.any longR
            · rfl
            · exact absurd (Or.inr hh) h2
          have hlen := longR_ok hl
          refine ⟨h1, by omega, ?_, fun r hr => ⟨?_, ?_⟩⟩
          · cases xss with
            | nil => simp
            | cons x r => simpa using hlen x (by simp)
          · rw [List.any_eq_false] at h3
            have := h3 r hr
            simp only [unlikeR, bne_iff_ne, ne_eq, Decidable.not_not] at this
            omega
          · rw [List.any_eq_false] at h4
            have := h4 r hr
            exact outP_all (by simpa using this)
        · rw [if_pos h4] at h; omega
      · rw [if_pos h3] at h; omega
  · rw [if_neg h1] at h; exact absurd h h1

set_option maxHeartbeats 400000 in
theorem rank_any (p : Int) (v : Value) (xss : List (List Int)) (w : World) (hr : Rws w v xss) :
    Calls Try.prog 18 #[.int .i64 p, v] w fun e w' => e = .returned (.tuple #[.int .i64 (rankR p xss), .int .i64 (rowsE p xss)]) ∧ Below w.heap.size w w' := by
  have HR := hid hr
  obtain ⟨a, cap, rfl, _⟩ := hr
  cases hz : (rowsE p xss != 0)
  · have hz0 : rowsE p xss = 0 := by simpa using hz
    obtain ⟨h1, h2, h3, h4⟩ := rowsE_ok hz0
    obtain ⟨hp1, hp2, _⟩ := errP_ok h1
    have e1 : rankR p xss = ((pivs p xss).length : Int) := by unfold rankR; rw [if_pos hz0]
    rw [e1, hz0]
    have HZ := hid hz0
    have H4 := hid h4
    obtain ⟨pn, rfl⟩ : ∃ n : Nat, p = n := ⟨p.toNat, by omega⟩
    clear e1 hz0 hz h1 h4
    generalize (xss.getD 0 []).length = n at *
    go_enter Try.func18, Try.ntmps18
    go_wp2_with fail
    refine (checkRows_any pn _ xss _ HR.out).mono ?_
    rintro e w1 ⟨rfl, hb1⟩
    rw [HZ.out]
    go_wp2_with fail
    refine (pivots_any pn n _ xss _ (by omega) (by omega) h2 h3 H4.out (HR.out.below hb1)).mono ?_
    rintro e w2 ⟨ua, uc, rfl, hb2⟩
    go_wp2
    go_ret2
    exact ⟨rfl, hb1.trans (hb2.mono hb1.size)⟩
  · have e1 : rankR p xss = 0 := by unfold rankR; rw [if_neg (by simpa using hz)]
    rw [e1]
    clear e1
    go_enter Try.func18, Try.ntmps18
    go_wp2_with fail
    refine (checkRows_any p _ xss _ HR.out).mono ?_
    rintro e w1 ⟨rfl, hb1⟩
    go_wp2
    go_ret2
    exact ⟨rfl, hb1⟩

/-- The rows of the beginning, laid. -/
theorem begun_rows (w : World) (T U : TypeId) : Rws ((((w.alloc (.cells #[.int .i64 1, .int .i64 2] T)).alloc (.cells #[.int .i64 2, .int .i64 4] T)).alloc (.cells #[.int .i64 0, .int .i64 1] T)).alloc
    (.cells #[.slice (some ⟨w.heap.size, 0, none⟩) 2 2, .slice (some ⟨w.heap.size + 1, 0, none⟩) 2 2, .slice (some ⟨w.heap.size + 2, 0, none⟩) 2 2] U)) (.slice (some ⟨w.heap.size + 3, 0, none⟩) 3 3) [[1, 2], [2, 4], [0, 1]] := by
  have s0 := (((Sl.of2 w 1 2 T).below (belowTwo (A := .cells #[.int .i64 2, .int .i64 4] T) (B := .cells #[.int .i64 0, .int .i64 1] T))))
  have s1 := (((Sl.of2 (w.alloc (.cells #[.int .i64 1, .int .i64 2] T)) 2 4 T).below (belowNew (A := .cells #[.int .i64 0, .int .i64 1] T))))
  have s2 := Sl.of2 ((w.alloc (.cells #[.int .i64 1, .int .i64 2] T)).alloc (.cells #[.int .i64 2, .int .i64 4] T)) 0 1 T
  have e1 : (w.alloc (.cells #[.int .i64 1, .int .i64 2] T)).heap.size = w.heap.size + 1 := by simp
  have e2 : ((w.alloc (.cells #[.int .i64 1, .int .i64 2] T)).alloc (.cells #[.int .i64 2, .int .i64 4] T)).heap.size = w.heap.size + 2 := by simp
  rw [e1] at s1
  rw [e2] at s2
  refine ⟨_, _, rfl, fun _ => ⟨_, _, rfl, by simp, fun i hi => ?_⟩⟩
  simp at hi
  rcases i with _ | _ | _ | i
  · exact ⟨_, by simp [go_sem], s0.below belowNew⟩
  · exact ⟨_, by simp [go_sem], s1.below belowNew⟩
  · exact ⟨_, by simp [go_sem], s2.below belowNew⟩
  · omega

set_option maxHeartbeats 1000000 in
theorem fieldBegun_any (w : World) : Calls Try.prog 16 #[] w fun e w' => e = .returned (.bool true) ∧ Below w.heap.size w w' := by
  have T1 := hid (show ivE 7 3 = 0 ∧ ivR 7 3 = 5 by decide +kernel)
  have T2 := hid (show numE 7 [4, 5] = 0 ∧ fopR (· + ·) 7 4 5 = 2 by decide +kernel)
  have T3 := hid (show rowsE 7 [[1, 2], [2, 4], [0, 1]] = 0 ∧ rankR 7 [[1, 2], [2, 4], [0, 1]] = 2 by decide +kernel)
  have T4 := hid (show errP 7 = 0 by decide +kernel)
  go_enter Try.func16, Try.ntmps16
  go_wp2_with fail
  refine (fieldInverse_any 7 3 _).mono ?_
  rintro e w1 ⟨rfl, hb1⟩
  rw [T1.out.1, T1.out.2]
  go_wp2_with fail
  refine (fieldAdd_any 7 4 5 _).mono ?_
  rintro e w2 ⟨rfl, hb2⟩
  rw [T2.out.1, T2.out.2]
  have hbb2 : Below w.heap.size w w2 := hb1.trans (hb2.mono hb1.size)
  clear hb1 hb2
  go_wp2_with fail
  refine (rank_any 7 _ [[1, 2], [2, 4], [0, 1]] _ (begun_rows _ _ _)).mono ?_
  rintro e w3 ⟨rfl, hb3⟩
  rw [T3.out.1, T3.out.2]
  have hbb3 : Below w.heap.size w w3 := hbb2.trans ((belowThree.trans (belowNew.mono (by simp; omega))).trans (hb3.mono (by simp; omega)) |>.mono hbb2.size)
  clear hb3
  go_wp2_with fail
  refine (check_any 7 _).mono ?_
  rintro e w' ⟨rfl, rfl⟩
  rw [T4.out]
  go_wp2
  go_ret
  exact ⟨rfl, hbb3⟩

end Go.Proofs.Ytkmjmmnnnbjghaa
