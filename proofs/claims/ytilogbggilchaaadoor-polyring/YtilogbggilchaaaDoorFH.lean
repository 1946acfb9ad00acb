/- clearColumn; the first number that is not 0. -/
import Derived.Test.YtilogbggilchaaaDoorFG
import Derived.RegionTactic
namespace Go.Proofs.YtilogbggilchaaaDoor
set_option linter.unusedSimpArgs false
set_option linter.unusedVariables false
open Go.RowKit
def clr (p : Int) (row : List Int) (f : Nat × List Int) : List Int :=
  if row.getD f.1 0 = 0 then row else zipI (clrF p (p - row.getD f.1 0)) row f.2

theorem own_cell {w : World} {B g cap : Nat} {xs : List Int} (h : Own w B (.slice (some ⟨g, 0, none⟩) xs.length cap) xs) (k : Nat) (hk : k < xs.length) : w.cell? ⟨g, k, none⟩ = some (.int .i64 (xs.getD k 0)) := by
  have h1 := World.ownsRow.cellAt h k (by omega)
  rw [h1]
  simp [List.getD_eq_getElem?_getD, hk]
theorem own_lt {w : World} {B g cap : Nat} {xs : List Int} {n : Nat} (h : Own w B (.slice (some ⟨g, 0, none⟩) n cap) xs) : B ≤ g ∧ g < w.heap.size := World.ownsRow.lt h g rfl
theorem own_kept {w w' : World} {B g cap : Nat} {xs : List Int} {n : Nat} (h : Own w B (.slice (some ⟨g, 0, none⟩) n cap) xs) (hb : Below w.heap.size w w') : Own w' B (.slice (some ⟨g, 0, none⟩) n cap) xs :=
  World.ownsRow.kept h (below_grown (r := none) hb) (Or.inr (by simp [Value.ownBlock]))

theorem belowThree {w : World} {A B C : Obj} : Below w.heap.size w (((w.alloc A).alloc B).alloc C) := belowTwo.trans (belowNew.mono (by simp; omega))

set_option maxHeartbeats 1000000 in
theorem clearColumn_any (p : Int) (xs ys : List Int) (c B g cap b2 off2 cap2 : Nat) (w : World) (hp : 2 ≤ p ∧ p ≤ 101) (hm : xs.length ≤ 400) (hxy : xs.length = ys.length) (hcn : c < xs.length)
    (hx : ∀ x ∈ xs, 0 ≤ x ∧ x < p) (hy : ∀ x ∈ ys, 0 ≤ x ∧ x < p) (hown : Own w B (.slice (some ⟨g, 0, none⟩) xs.length cap) xs) (hlt2 : b2 < w.heap.size) (hne : b2 ≠ g) (hc2 : IntsAt w b2 off2 ys) :
    Calls Tryd.prog 87 #[.int .i64 p, .slice (some ⟨g, 0, none⟩) xs.length cap, .agg #[.int .i64 c, .slice (some ⟨b2, off2, none⟩) ys.length cap2]] w fun e w' =>
      e = .returned (.tuple #[]) ∧ Own w' B (.slice (some ⟨g, 0, none⟩) xs.length cap) (clr p xs (c, ys)) ∧ w.grownBy w' (some g) := by
  obtain ⟨hgB, hgw⟩ := own_lt hown
  have hcell := own_cell hown c hcn
  have hcx := hx _ (getD_mem xs c hcn)
  have HX := hid hx
  have HY := hid hy
  have HXY := hid hxy
  have HC2 := hid hc2
  have HOWN := hid hown
  have HCLR : Hid (clr p xs (c, ys) = if xs.getD c 0 = 0 then xs else zipI (clrF p (p - xs.getD c 0)) xs ys) := rfl
  clear hx hy hxy hc2 hown
  generalize xs.getD c 0 = x at hcell hcx HCLR
  have hcn' : (c : Int) < (xs.length : Int) := by omega
  obtain ⟨hp1, hp2⟩ := hp
  obtain ⟨hx1, hx2⟩ := hcx
  cases hz : (x == 0)
  · have hz' : ¬ x = 0 := by simpa using hz
    have e : clr p xs (c, ys) = zipI (clrF p (p - x)) xs ys := by rw [HCLR.out, if_neg hz']
    rw [e]
    clear e HCLR hz'
    go_enter Tryd.func87, Tryd.ntmps87
    go_wp2
    have h3 : ∀ A B C, (((w.alloc A).alloc B).alloc C).cell? ⟨g, c, none⟩ = some (.int .i64 x) := fun A B C => by
      rw [(belowThree (w := w) (A := A) (B := B) (C := C)).cell (p := ⟨g, c, none⟩) hgw]; exact hcell
    go_region
    all_goals
      go_wp2_with fail
      refine (fieldEach_any p (p - x) xs ys B g cap b2 off2 cap2 _ _ _ ⟨hp1, hp2⟩ ⟨by omega, by omega⟩ hm HXY.out HX.out HY.out ?_ ?_ hne ?_ ?_ ?_ ?_ ?_).mono ?_
      · exact own_kept HOWN.out (belowThree.drew)
      · simp; omega
      · intro i hi; show (((w.alloc _).alloc _).alloc _).cell? _ = _; rw [belowThree.cell (p := ⟨b2, off2 + i, none⟩) hlt2]; exact HC2.out i hi
      · omega
      · omega
      · simp [go_sem]
      · simp [go_sem]
      rintro e w1 ⟨rfl, ho, hg⟩
      have HO := hid ho
      have HG := hid (grown_trans (below_grown belowThree.drew) hg)
      clear ho hg
      go_wp2
      go_end0
      exact ⟨rfl, HO.out, HG.out⟩
  · have hz' : x = 0 := by simpa using hz
    have e : clr p xs (c, ys) = xs := by rw [HCLR.out, if_pos hz']
    rw [e]
    clear e HCLR hz'
    go_enter Tryd.func87, Tryd.ntmps87
    go_wp2
    exact bodyPost_ret (v := .tuple #[]) (by simp [results, Tryd.results87, go_sem]) rfl ⟨rfl, own_kept HOWN.out belowTwo, below_grown belowTwo⟩
end Go.Proofs.YtilogbggilchaaaDoor
