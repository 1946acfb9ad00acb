/- Clearing a column. -/
import Derived.Test.YtkmjmmnnnbjghaaDoorFD
import Derived.Test.YtkmjmmnnnbjghaaDoorH
import Derived.RegionTactic
namespace Go.Proofs.YtkmjmmnnnbjghaaDoor
set_option linter.unusedSimpArgs false
set_option linter.unusedVariables false
open Go.RowKit

theorem grown_refl (w : World) (r : Option Nat) : w.grownBy w r := ⟨rfl, rfl, rfl, Nat.le_refl _, fun _ _ _ => rfl⟩
theorem grown_trans {a b c : World} {r : Option Nat} (h : a.grownBy b r) (k : b.grownBy c r) : a.grownBy c r :=
  ⟨k.os.trans h.os, k.tape.trans h.tape, k.output.trans h.output, Nat.le_trans h.size k.size, fun i hi hn => (k.block i (Nat.lt_of_lt_of_le hi h.size) hn).trans (h.block i hi hn)⟩
theorem grown_drew {a b : World} {r : Option Nat} (h : a.grownBy b r) : a.grownBy b.drew r := ⟨h.os, h.tape, h.output, h.size, h.block⟩
theorem grown_set (w : World) (g j : Nat) (u : Value) : w.grownBy (w.setCell ⟨g, j, none⟩ u) (some g) :=
  ⟨rfl, rfl, rfl, by simp [World.setCell], fun k _ hn => Below.heap_setCell _ _ _ _ (fun e => hn (by rw [e]))⟩
theorem grown_below {w w' : World} {g B : Nat} (h : w.grownBy w' (some g)) (hB : B ≤ g) (hw : B ≤ w.heap.size) : Below B w w' :=
  ⟨h.os, h.tape, h.output, h.size, fun k hk => h.block k (by omega) (fun e => by simp at e; omega)⟩
theorem below_grown {w w' : World} {r : Option Nat} (h : Below w.heap.size w w') : w.grownBy w' r :=
  ⟨h.os, h.tape, h.output, h.size, fun k hk _ => h.block k hk⟩
theorem grown_sl {w w' : World} {g : Nat} {v : Value} {xs : List Int} (h : w.grownBy w' (some g)) (hs : Sl w v xs) (hne : ∀ b off n c, v = .slice (some ⟨b, off, none⟩) n c → b ≠ g) : Sl w' v xs := by
  obtain ⟨a, cap, rfl, h1⟩ := hs
  refine ⟨a, cap, rfl, fun hp => ?_⟩
  obtain ⟨b, off, rfl, hlt, hc⟩ := h1 hp
  refine ⟨b, off, rfl, Nat.lt_of_lt_of_le hlt h.size, fun i hi => ?_⟩
  exact h.cell (hc i hi) (fun e => hne b off _ _ rfl (by injection e))

def clrF (p t x y : Int) : Int := (x + t * y) % p

set_option maxHeartbeats 400000 in
theorem clearFn_any (p t x y : Int) (tb pb : Nat) (w : World) (hp : 2 ≤ p ∧ p ≤ 101) (ht : 0 ≤ t ∧ t ≤ 101) (hx : 0 ≤ x ∧ x < p) (hy : 0 ≤ y ∧ y < p) (hct : w.cell? ⟨tb, 0, none⟩ = some (.int .i64 t)) (hcp : w.cell? ⟨pb, 0, none⟩ = some (.int .i64 p)) :
    Calls Tryd.prog 99 #[.int .i64 x, .int .i64 y, .pointer (some ⟨tb, 0, none⟩), .pointer (some ⟨pb, 0, none⟩)] w fun e w' => e = .returned (.int .i64 (clrF p t x y)) ∧ w' = w := by
  obtain ⟨h1, h2⟩ := mul_bd (a := t) (b := y) ⟨by omega, by omega, by omega, by omega⟩
  obtain ⟨_, _⟩ := hp
  obtain ⟨_, _⟩ := hx
  unfold clrF
  go_enter Tryd.func99, Tryd.ntmps99
  go_wp2
  go_ret
  exact ⟨rfl, rfl⟩

/-- Some of the new row, and the rest of the old one. -/
def mixL (zs xs : List Int) (k : Nat) : List Int := zs.take k ++ xs.drop k
theorem mixL_len (zs xs : List Int) (k : Nat) (h : zs.length = xs.length) (hk : k ≤ xs.length) : (mixL zs xs k).length = xs.length := by
  simp [mixL]; omega
theorem mixL_at (zs xs : List Int) (k : Nat) (h : zs.length = xs.length) (hk : k < xs.length) : (mixL zs xs k).getD k 0 = xs.getD k 0 := by
  simp only [mixL, List.getD_eq_getElem?_getD]
  rw [List.getElem?_append_right (by simp; omega), List.getElem?_drop]
  congr 2
  simp; omega
theorem mixL_set (zs xs : List Int) (k : Nat) (h : zs.length = xs.length) (hk : k < xs.length) : (mixL zs xs k).set k (zs.getD k 0) = mixL zs xs (k + 1) := by
  simp only [mixL]
  rw [List.drop_eq_getElem_cons hk, List.set_append_right _ _ (by simp; omega)]
  have e : k - (zs.take k).length = 0 := by simp; omega
  rw [e, List.set_cons_zero, List.take_succ_eq_append_getElem (by omega), List.append_assoc]
  simp [List.getD_eq_getElem?_getD, show k < zs.length by omega]
theorem ints_set (xs : List Int) (k : Nat) (z : Int) : (ints xs).set k (.int .i64 z) = ints (xs.set k z) := by simp [List.map_set]

set_option maxHeartbeats 400000 in
theorem fieldEach_any (p t : Int) (xs ys : List Int) (B g cap b2 off2 cap2 tb pb : Nat) (w : World) (hp : 2 ≤ p ∧ p ≤ 101) (ht : 0 ≤ t ∧ t ≤ 101) (hm : xs.length ≤ 400) (hxy : xs.length = ys.length)
    (hx : ∀ x ∈ xs, 0 ≤ x ∧ x < p) (hy : ∀ x ∈ ys, 0 ≤ x ∧ x < p) (hown : Own w B (.slice (some ⟨g, 0, none⟩) xs.length cap) xs) (hlt2 : b2 < w.heap.size) (hne : b2 ≠ g) (hc2 : IntsAt w b2 off2 ys)
    (htb : tb ≠ g) (hpb : pb ≠ g) (hct : w.cell? ⟨tb, 0, none⟩ = some (.int .i64 t)) (hcp : w.cell? ⟨pb, 0, none⟩ = some (.int .i64 p)) :
    Calls Tryd.prog 98 #[.slice (some ⟨g, 0, none⟩) xs.length cap, .slice (some ⟨b2, off2, none⟩) ys.length cap2, .func (.func 99) #[] #[.pointer (some ⟨tb, 0, none⟩), .pointer (some ⟨pb, 0, none⟩)]] w fun e w' =>
      e = .returned (.tuple #[]) ∧ Own w' B (.slice (some ⟨g, 0, none⟩) xs.length cap) (zipI (clrF p t) xs ys) ∧ w.grownBy w' (some g) := by
  have HC2 := hid hc2
  have HX := hid hx
  have HY := hid hy
  have HP := hid (And.intro hp ht)
  have HT := hid (And.intro hct hcp)
  have HLZ := hid (zipI_len (clrF p t) xs ys hxy)
  have HOWN := hid hown
  rw [← hxy]
  have HXY := hid hxy
  clear hc2 hx hy hp ht hct hcp hxy hown
  go_enter Tryd.func98, Tryd.ntmps98
  go_wp2
  go_loopw [9] (fun i wr => ∃ k : Nat, k ≤ xs.length ∧ i = .int .i64 k ∧ wr.ownsRow B 3 1 (.slice (some ⟨g, 0, none⟩) xs.length cap) xs.length (ints (mixL (zipI (clrF p t) xs ys) xs k)) ∧ w.grownBy wr (some g)) (fun i _ => xs.length - (intOf i).toNat)
  case atStart => exact ⟨0, Nat.zero_le _, rfl, by have h1 := HOWN.out; unfold Own at h1; simpa [mixL] using h1, grown_refl _ _⟩
  case round =>
    obtain ⟨k, hk, rfl, ho, hg⟩ := hrel
    have HO := hid ho
    have HG := hid hg
    by_cases hk2 : k < xs.length
    · have hz := zipI_at (clrF p t) xs ys HXY.out k hk2
      have hcell := ho.cellAt k (by omega)
      have hfr := ho.frozenAt k
      have hxk : (ints (mixL (zipI (clrF p t) xs ys) xs k))[k]? = some (.int .i64 (xs.getD k 0)) := by
        have e := mixL_at (zipI (clrF p t) xs ys) xs k HLZ.out hk2
        have hl := mixL_len (zipI (clrF p t) xs ys) xs k HLZ.out hk
        rw [List.getD_eq_getElem?_getD, List.getElem?_eq_getElem (by omega)] at e
        simp only [ints, List.getElem?_map]
        rw [List.getElem?_eq_getElem (by omega)]
        simp at e
        simp [e]
      rw [hxk] at hcell
      have hcell2 := HC2.out k (by rw [← HXY.out]; exact hk2)
      have hc2' := hg.cell hcell2 (fun e => hne (by injection e))
      have hct' := hg.cell HT.out.1 (fun e => htb (by injection e))
      have hcp' := hg.cell HT.out.2 (fun e => hpb (by injection e))
      have HXK := hid (HX.out _ (getD_mem xs k hk2))
      have HYK := hid (HY.out _ (getD_mem ys k (by rw [← HXY.out]; exact hk2)))
      have HSET : Hid (∀ z, z = clrF p t (xs.getD k 0) (ys.getD k 0) → (wr.setCell ⟨g, k, none⟩ (.int .i64 z)).ownsRow B 3 1 (.slice (some ⟨g, 0, none⟩) xs.length cap) xs.length (ints (mixL (zipI (clrF p t) xs ys) xs (k + 1)))) := by
        intro z hzz
        have h1 := (ho.stored k (.int .i64 z)).1
        rw [ints_set, hzz, ← hz, mixL_set _ _ _ HLZ.out hk2] at h1
        rw [hzz, ← hz]
        exact h1
      have HTP := hid (And.intro hct' hcp')
      clear ho hg hxk hz hcell2 hct' hcp'
      generalize xs.getD k 0 = x at hcell HXK HSET
      generalize ys.getD k 0 = y at hc2' HYK HSET
      go_wp2
      go_region_with (go_at_call 99; refine (clearFn_any p t _ _ _ _ _ HP.out.1 HP.out.2 HXK.out HYK.out (by exact HTP.out.1) (by exact HTP.out.2)).mono ?_; rintro e w' ⟨rfl, rfl⟩)
      all_goals
        go_wp2
        go_roundw
        case rel => exact ⟨k + 1, by omega, by go_num, HSET.out _ rfl, grown_drew (grown_trans HG.out (grown_set _ _ _ _))⟩
        case measure => simp [intOf]; omega
    · have e : k = xs.length := by omega
      subst e
      have hfin : mixL (zipI (clrF p t) xs ys) xs xs.length = zipI (clrF p t) xs ys := by
        unfold mixL; rw [List.take_of_length_le (by rw [HLZ.out]; omega)]; simp
      rw [hfin] at HO
      clear ho hg hfin
      go_wp2
      go_end0
      refine ⟨rfl, ?_, HG.out⟩
      have := HO.out
      unfold Own
      rw [HLZ.out]
      exact this

end Go.Proofs.YtkmjmmnnnbjghaaDoor

/- clearColumn; the first number that is not 0. -/
namespace Go.Proofs.YtkmjmmnnnbjghaaDoor
set_option linter.unusedSimpArgs false
set_option linter.unusedVariables false
open Go.RowKit

/-- A row, cleared by another that was kept. -/
def clr (p : Int) (row : List Int) (f : Nat × List Int) : List Int :=
  if row.getD f.1 0 = 0 then row else zipI (clrF p (p - row.getD f.1 0)) row f.2

theorem own_cell {w : World} {B g cap : Nat} {xs : List Int} (h : Own w B (.slice (some ⟨g, 0, none⟩) xs.length cap) xs) (k : Nat) (hk : k < xs.length) : w.cell? ⟨g, k, none⟩ = some (.int .i64 (xs.getD k 0)) := by
  have h1 := World.ownsRow.cellAt h k (by omega)
  rw [h1]
  simp [List.getD_eq_getElem?_getD, hk]
theorem own_lt {w : World} {B g cap : Nat} {xs : List Int} {n : Nat} (h : Own w B (.slice (some ⟨g, 0, none⟩) n cap) xs) : B ≤ g ∧ g < w.heap.size := World.ownsRow.lt h g rfl
theorem own_kept {w w' : World} {B g cap : Nat} {xs : List Int} {n : Nat} (h : Own w B (.slice (some ⟨g, 0, none⟩) n cap) xs) (hb : Below w.heap.size w w') : Own w' B (.slice (some ⟨g, 0, none⟩) n cap) xs :=
  World.ownsRow.kept h (below_grown (r := none) hb) (Or.inr (by simp [Value.ownBlock]))

theorem belowThree {w : World} {A B C : Obj} : Below w.heap.size w (((w.alloc A).alloc B).alloc C) := belowTwo.trans (belowNew.mono (by simp; omega))

set_option maxHeartbeats 1000000 in
theorem clearColumn_any (p : Int) (xs ys : List Int) (c B g cap b2 off2 cap2 : Nat) (w : World) (hp : 2 ≤ p ∧ p ≤ 101) (hm : xs.length ≤ 400) (hxy : xs.length = ys.length) (hcn : c < xs.length)
    (hx : ∀ x ∈ xs, 0 ≤ x ∧ x < p) (hy : ∀ x ∈ ys, 0 ≤ x ∧ x < p) (hown : Own w B (.slice (some ⟨g, 0, none⟩) xs.length cap) xs) (hlt2 : b2 < w.heap.size) (hne : b2 ≠ g) (hc2 : IntsAt w b2 off2 ys) :
    Calls Tryd.prog 87 #[.int .i64 p, .slice (some ⟨g, 0, none⟩) xs.length cap, .agg #[.int .i64 c, .slice (some ⟨b2, off2, none⟩) ys.length cap2]] w fun e w' =>
      e = .returned (.tuple #[]) ∧ Own w' B (.slice (some ⟨g, 0, none⟩) xs.length cap) (clr p xs (c, ys)) ∧ w.grownBy w' (some g) := by
  obtain ⟨hgB, hgw⟩ := own_lt hown
  have hcell := own_cell hown c hcn
  have hcx := hx _ (getD_mem xs c hcn)
  have HX := hid hx
  have HY := hid hy
  have HXY := hid hxy
  have HC2 := hid hc2
  have HOWN := hid hown
  have HCLR : Hid (clr p xs (c, ys) = if xs.getD c 0 = 0 then xs else zipI (clrF p (p - xs.getD c 0)) xs ys) := rfl
  clear hx hy hxy hc2 hown
  generalize xs.getD c 0 = x at hcell hcx HCLR
  have hcn' : (c : Int) < (xs.length : Int) := by omega
  obtain ⟨hp1, hp2⟩ := hp
  obtain ⟨hx1, hx2⟩ := hcx
  cases hz : (x == 0)
  · have hz' : ¬ x = 0 := by simpa using hz
    have e : clr p xs (c, ys) = zipI (clrF p (p - x)) xs ys := by rw [HCLR.out, if_neg hz']
    rw [e]
    clear e HCLR hz'
    go_enter Tryd.func87, Tryd.ntmps87
    go_wp2
    have h3 : ∀ A B C, (((w.alloc A).alloc B).alloc C).cell? ⟨g, c, none⟩ = some (.int .i64 x) := fun A B C => by
      rw [(belowThree (w := w) (A := A) (B := B) (C := C)).cell (p := ⟨g, c, none⟩) hgw]; exact hcell
    go_region
    all_goals
      go_wp2_with fail
      refine (fieldEach_any p (p - x) xs ys B g cap b2 off2 cap2 _ _ _ ⟨hp1, hp2⟩ ⟨by omega, by omega⟩ hm HXY.out HX.out HY.out ?_ ?_ hne ?_ ?_ ?_ ?_ ?_).mono ?_
      · exact own_kept HOWN.out (belowThree.drew)
      · simp; omega
      · intro i hi; show (((w.alloc _).alloc _).alloc _).cell? _ = _; rw [belowThree.cell (p := ⟨b2, off2 + i, none⟩) hlt2]; exact HC2.out i hi
      · omega
      · omega
      · simp [go_sem]
      · simp [go_sem]
      rintro e w1 ⟨rfl, ho, hg⟩
      have HO := hid ho
      have HG := hid (grown_trans (below_grown belowThree.drew) hg)
      clear ho hg
      go_wp2
      go_end0
      exact ⟨rfl, HO.out, HG.out⟩
  · have hz' : x = 0 := by simpa using hz
    have e : clr p xs (c, ys) = xs := by rw [HCLR.out, if_pos hz']
    rw [e]
    clear e HCLR hz'
    go_enter Tryd.func87, Tryd.ntmps87
    go_wp2
    exact bodyPost_ret (v := .tuple #[]) (by simp [results, Tryd.results87, go_sem]) rfl ⟨rfl, own_kept HOWN.out belowTwo, below_grown belowTwo⟩

end Go.Proofs.YtkmjmmnnnbjghaaDoor

/- What was kept, in memory; the pure elimination. -/
namespace Go.Proofs.YtkmjmmnnnbjghaaDoor
set_option linter.unusedSimpArgs false
set_option linter.unusedVariables false
open Go.RowKit

/-- Where the first number stands that is not 0; the length: there is none. -/
def nz : List Int → Nat
  | [] => 0
  | x :: xs => if x = 0 then nz xs + 1 else 0
theorem nz_le : ∀ xs, nz xs ≤ xs.length
  | [] => Nat.le_refl _
  | x :: xs => by simp only [nz, List.length_cons]; split <;> have := nz_le xs <;> omega
theorem nz_at : ∀ xs : List Int, nz xs < xs.length → xs.getD (nz xs) 0 ≠ 0
  | [], h => by simp [nz] at h
  | x :: xs, h => by
    simp only [nz] at h ⊢
    by_cases hx : x = 0
    · rw [if_pos hx] at h ⊢
      have := nz_at xs (by simpa using h)
      simpa using this
    · rw [if_neg hx]; simpa using hx
theorem nz_before : ∀ (xs : List Int) (k : Nat), k < nz xs → xs.getD k 0 = 0
  | [], k, h => by simp [nz] at h
  | x :: xs, k, h => by
    simp only [nz] at h
    by_cases hx : x = 0
    · rw [if_pos hx] at h
      cases k with
      | zero => simpa using hx
      | succ k => have := nz_before xs k (by omega); simpa using this
    · rw [if_neg hx] at h; omega

def redL (p : Int) (row : List Int) (fs : List (Nat × List Int)) : List Int := fs.foldl (clr p) row
def scl (p s : Int) (xs : List Int) : List Int := xs.map fun x => x * s % p
def stepP (p : Int) (fs : List (Nat × List Int)) (row : List Int) : List (Nat × List Int) :=
  if nz (redL p row fs) = (redL p row fs).length then fs else fs ++ [(nz (redL p row fs), scl p (invI p ((redL p row fs).getD (nz (redL p row fs)) 0)) (redL p row fs))]
def pivs (p : Int) (rows : List (List Int)) : List (Nat × List Int) := rows.foldl (stepP p) []

/-- A row of n numbers modulo p. -/
def RowOk (p : Int) (n : Nat) (xs : List Int) : Prop := xs.length = n ∧ ∀ x ∈ xs, 0 ≤ x ∧ x < p
theorem zip_ok {p t : Int} {n : Nat} {xs ys : List Int} (hp : 2 ≤ p) (hx : RowOk p n xs) (hy : RowOk p n ys) : RowOk p n (zipI (clrF p t) xs ys) := by
  refine ⟨by rw [zipI_len _ _ _ (by rw [hx.1, hy.1]), hx.1], ?_⟩
  have hl : xs.length = ys.length := by rw [hx.1, hy.1]
  clear hx hy
  induction xs generalizing ys with
  | nil => intro x hx; simp [zipI] at hx
  | cons x xs ih => cases ys with
    | nil => simp at hl
    | cons y ys =>
      intro z hz
      simp only [zipI, List.mem_cons] at hz
      rcases hz with rfl | hz
      · exact ⟨Int.emod_nonneg _ (by omega), Int.emod_lt_of_pos _ (by omega)⟩
      · exact ih (by simpa using hl) z hz
theorem clr_ok {p : Int} {n : Nat} {xs : List Int} {f : Nat × List Int} (hp : 2 ≤ p) (hx : RowOk p n xs) (hf : RowOk p n f.2) : RowOk p n (clr p xs f) := by
  unfold clr; split
  · exact hx
  · exact zip_ok hp hx hf
theorem redL_ok {p : Int} {n : Nat} (hp : 2 ≤ p) : ∀ (fs : List (Nat × List Int)) (xs : List Int), RowOk p n xs → (∀ f ∈ fs, RowOk p n f.2) → RowOk p n (redL p xs fs)
  | [], xs, hx, _ => hx
  | f :: fs, xs, hx, hf => redL_ok hp fs (clr p xs f) (clr_ok hp hx (hf f (by simp))) (fun g hg => hf g (by simp [hg]))
theorem scl_ok {p s : Int} {n : Nat} {xs : List Int} (hp : 2 ≤ p) (hx : RowOk p n xs) : RowOk p n (scl p s xs) := by
  refine ⟨by simp [scl, hx.1], fun x h => ?_⟩
  simp only [scl, List.mem_map] at h
  obtain ⟨y, _, rfl⟩ := h
  exact ⟨Int.emod_nonneg _ (by omega), Int.emod_lt_of_pos _ (by omega)⟩
def PivOk (p : Int) (n : Nat) (f : Nat × List Int) : Prop := f.1 < n ∧ RowOk p n f.2
theorem stepP_ok {p : Int} {n : Nat} {fs : List (Nat × List Int)} {row : List Int} (hp : 2 ≤ p) (hf : ∀ f ∈ fs, PivOk p n f) (hr : RowOk p n row) : ∀ f ∈ stepP p fs row, PivOk p n f := by
  have h1 := redL_ok hp fs row hr (fun f h => (hf f h).2)
  have h2 := nz_le (redL p row fs)
  intro f hfm
  unfold stepP at hfm
  by_cases hz : nz (redL p row fs) = (redL p row fs).length
  · rw [if_pos hz] at hfm; exact hf f hfm
  · rw [if_neg hz] at hfm
    rw [List.mem_append] at hfm
    rcases hfm with hfm | hfm
    · exact hf f hfm
    · rw [List.mem_singleton] at hfm
      rw [hfm]
      exact ⟨show nz (redL p row fs) < n by rw [← h1.1]; omega, scl_ok hp h1⟩
theorem redL_take {p : Int} {row : List Int} {fs : List (Nat × List Int)} {k : Nat} (h : k < fs.length) : redL p row (fs.take (k + 1)) = clr p (redL p row (fs.take k)) fs[k] := by
  unfold redL
  rw [List.take_succ_eq_append_getElem h, List.foldl_append]
  rfl

/-! In memory. -/
theorem Tryd.infoPiv : (Tryd.prog.info? 109).map (fun i => (i.zero, i.size, i.bytes)) = some (some (.agg #[.int .i64 0, .slice none 0 0]), 2, 32) := by kernel_rfl
abbrev Piv := (Nat × List Int) × Value
def qcells : List Piv → List Value
  | [] => []
  | q :: r => .int .i64 q.1.1 :: q.2 :: qcells r
theorem qcells_len : ∀ qs, (qcells qs).length = qs.length * 2
  | [] => rfl
  | q :: r => by simp only [qcells, List.length_cons, qcells_len r]; omega
theorem qcells_at : ∀ (qs : List Piv) (k : Nat) (h : k < qs.length), (qcells qs)[2 * k]? = some (.int .i64 qs[k].1.1) ∧ (qcells qs)[2 * k + 1]? = some qs[k].2
  | [], k, h => by simp at h
  | q :: r, 0, h => by simp [qcells]
  | q :: r, k + 1, h => by
    have := qcells_at r k (by simpa using h)
    have e : 2 * (k + 1) = 2 * k + 1 + 1 := by omega
    rw [e]
    simpa [qcells] using this
theorem qcells_snoc (qs : List Piv) (q : Piv) : qcells (qs ++ [q]) = qcells qs ++ [.int .i64 q.1.1, q.2] := by
  induction qs with
  | nil => rfl
  | cons a r ih => simp [qcells, ih]

structure Found (B : Nat) (w : World) (v : Value) (qs : List Piv) : Prop where
  own : w.ownsRow B 109 2 v qs.length (qcells qs)
  rows : ∀ q ∈ qs, Own w B q.2 q.1.2
theorem ownBlock_lt {w : World} {B : Nat} {T : TypeId} {s : Nat} {v : Value} {n : Nat} {xs : List Value} (h : w.ownsRow B T s v n xs) {w' : World} (hb : Below w.heap.size w w') : w'.ownsRow B T s v n xs := by
  cases ho : v.ownBlock with
  | none => exact h.kept (below_grown (r := none) hb) (Or.inl ho)
  | some k => exact h.kept (below_grown (r := none) hb) (Or.inr (by rw [ho]; simp))
theorem Found.below {B : Nat} {w w' : World} {v : Value} {qs : List Piv} (h : Found B w v qs) (hb : Below w.heap.size w w') : Found B w' v qs :=
  ⟨ownBlock_lt h.own hb, fun q hq => ownBlock_lt (h.rows q hq) hb⟩
/-- A row of numbers lies in another block than what holds pivots. -/
theorem own_ne {w : World} {B B' : Nat} {u v : Value} {n m : Nat} {xs ys : List Value} (h : w.ownsRow B 3 1 u n xs) (k : w.ownsRow B' 109 2 v m ys) : u.ownBlock = none ∨ u.ownBlock ≠ v.ownBlock := by
  rcases h.2 with ⟨rfl, _⟩ | ⟨g, c, cur, rfl, _, hg, _⟩
  · left; rfl
  · right
    rcases k.2 with ⟨rfl, _⟩ | ⟨g', c', cur', rfl, _, hg', _⟩
    · simp [Value.ownBlock]
    · simp only [Value.ownBlock, ne_eq, Option.some.injEq]
      intro e
      subst e
      rw [hg] at hg'
      simp at hg'
theorem own_base {w : World} {B B' : Nat} {T : TypeId} {s : Nat} {v : Value} {n : Nat} {xs : List Value} (h : w.ownsRow B T s v n xs) (hb : B' ≤ B) : w.ownsRow B' T s v n xs := by
  refine ⟨h.1, ?_⟩
  rcases h.2 with h1 | ⟨g, c, cur, h1, h2, h3⟩
  · exact .inl h1
  · exact .inr ⟨g, c, cur, h1, Nat.le_trans hb h2, h3⟩
theorem Found.snoc {B : Nat} {w w1 : World} {v v' : Value} {qs : List Piv} {c : Nat} {r : List Int} {u : Value} (h : Found B w v qs) (hu : Own w B u r)
    (hown : w1.ownsRow B 109 2 v' (qs.length + 1) (qcells qs ++ [.int .i64 c, u])) (hg : w.grownBy w1 v.ownBlock) : Found B w1 v' (qs ++ [((c, r), u)]) := by
  refine ⟨by rw [qcells_snoc, List.length_append]; exact hown, fun q hq => ?_⟩
  rw [List.mem_append, List.mem_singleton] at hq
  rcases hq with hq | rfl
  · exact (h.rows q hq).kept hg (own_ne (h.rows q hq) h.own)
  · exact hu.kept hg (own_ne hu h.own)
theorem Found.sl {B : Nat} {w : World} {v : Value} {qs : List Piv} (h : Found B w v qs) : ∃ a c, v = .slice a qs.length c := by
  rcases h.own.2 with ⟨h1, h2⟩ | ⟨g, c, cur, h1, _⟩
  · exact ⟨none, 0, by rw [h1, h2]⟩
  · exact ⟨_, c, h1⟩
theorem Found.at {B : Nat} {w : World} {qs : List Piv} {a : Option Addr} {c : Nat} (h : Found B w (.slice a qs.length c) qs) (k : Nat) (hk : k < qs.length) :
    ∃ g, a = some ⟨g, 0, none⟩ ∧ B ≤ g ∧ g < w.heap.size ∧ w.cell? ⟨g, 2 * k, none⟩ = some (.int .i64 qs[k].1.1) ∧ w.cell? ⟨g, 2 * k + 1, none⟩ = some qs[k].2 := by
  have ho := h.own
  rcases h.own.2 with ⟨h1, h2⟩ | ⟨g, c', cur, h1, hB, hg, _⟩
  · omega
  · simp only [Value.slice.injEq] at h1
    obtain ⟨rfl, _, _⟩ := h1
    obtain ⟨q1, q2⟩ := qcells_at qs k hk
    have hlt := World.ownsRow.lt ho g rfl
    exact ⟨g, rfl, hlt.1, hlt.2, by rw [ho.cellAt _ (by omega)]; exact q1, by rw [ho.cellAt _ (by omega)]; exact q2⟩

set_option maxHeartbeats 400000 in
theorem nzFn_any (x : Int) (w : World) : Calls Tryd.prog 88 #[.int .i64 x] w fun e w' => e = .returned (.bool (x != 0)) ∧ w' = w := by
  go_enter Tryd.func88, Tryd.ntmps88
  go_wp2
  go_ret
  exact ⟨rfl, rfl⟩

set_option maxHeartbeats 400000 in
theorem indexNz_any (xs : List Int) (b off cap : Nat) (w : World) (hm : xs.length ≤ 400) (hc : IntsAt w b off xs) :
    Calls Tryd.prog 64 #[.slice (some ⟨b, off, none⟩) xs.length cap, .func (.func 88) #[] #[]] w fun e w' =>
      e = .returned (.int .i64 (if nz xs = xs.length then -1 else nz xs)) ∧ w' = w := by
  have HC := hid hc
  have hle := nz_le xs
  have NB := hid (nz_before xs)
  have NA := hid (nz_at xs)
  clear hc
  have HG : Hid (∀ r : Int, r = (if nz xs = xs.length then -1 else (nz xs : Int)) → Ending.returned (.int .i64 r) = .returned (.int .i64 (if nz xs = xs.length then -1 else (nz xs : Int)))) := fun r h => by rw [h]
  generalize hR : (if nz xs = xs.length then -1 else (nz xs : Int)) = R at HG
  have HR := hid hR
  clear hR
  go_enter Tryd.func64, Tryd.ntmps64
  go_wp2
  go_loop [8] (fun i => ∃ k : Nat, k ≤ nz xs ∧ i = .int .i64 k) (fun i => xs.length + 1 - (intOf i).toNat)
  case atStart => exact ⟨0, Nat.zero_le _, rfl⟩
  case round =>
    obtain ⟨k, hk, rfl⟩ := hrel
    by_cases hlt : k < xs.length
    · have hcell := HC.out k hlt
      by_cases he : k = nz xs
      · have hne : xs.getD k 0 ≠ 0 := by rw [he]; exact NA.out (by omega)
        have HF : Hid (R = (k : Int)) := by
          have := HR.out
          rw [if_neg (by omega)] at this
          unfold Hid; rw [← this, he]
        generalize xs.getD k 0 = y at hcell hne
        have hy : (y != 0) = true := by simpa using hne
        clear hne he
        go_wp2_with (go_at_call 88; refine (nzFn_any _ _).mono ?_; rintro e w' ⟨rfl, rfl⟩)
        go_ret
        exact ⟨ret_int HF.out.symm, rfl⟩
      · have hy0 : xs.getD k 0 = 0 := NB.out k (by omega)
        rw [hy0] at hcell
        clear hy0
        go_wp2_with (go_at_call 88; refine (nzFn_any _ _).mono ?_; rintro e w' ⟨rfl, rfl⟩)
        go_round
        case rel => exact ⟨k + 1, by omega, by go_num⟩
        case measure => simp [intOf]; omega
    · have HF : Hid (R = -1) := by
        have := HR.out
        rw [if_pos (by omega)] at this
        exact this.symm
      go_wp2
      go_ret
      exact ⟨ret_int HF.out.symm, rfl⟩

end Go.Proofs.YtkmjmmnnnbjghaaDoor
