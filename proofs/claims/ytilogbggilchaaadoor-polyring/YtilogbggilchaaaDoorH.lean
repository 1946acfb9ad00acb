/- eachPair, together, Times, Least, Over. -/
import Derived.Test.YtilogbggilchaaaDoorE
import Derived.Deep.OwnRows
import Derived.Deep.RegionWith
namespace Go.Proofs.YtilogbggilchaaaDoor
set_option linter.unusedSimpArgs false
set_option linter.unusedVariables false
open Go.RowKit
theorem Tryd.info_int : (Tryd.prog.info? 3).map (fun i => (i.zero, i.size, i.bytes)) = some (some (.int .i64 0), 1, 8) := by kernel_rfl

def zipI (g : Int → Int → Int) : List Int → List Int → List Int
  | x :: xs, y :: ys => g x y :: zipI g xs ys
  | _, _ => []
theorem zipI_len (g : Int → Int → Int) (xs ys : List Int) (h : xs.length = ys.length) : (zipI g xs ys).length = xs.length := by
  induction xs generalizing ys with
  | nil => cases ys <;> simp [zipI]
  | cons x xs ih => cases ys with
    | nil => simp at h
    | cons y ys => simp [zipI, ih ys (by simpa using h)]
theorem zipI_at (g : Int → Int → Int) (xs ys : List Int) (h : xs.length = ys.length) (k : Nat) (hk : k < xs.length) : (zipI g xs ys).getD k 0 = g (xs.getD k 0) (ys.getD k 0) := by
  induction xs generalizing ys k with
  | nil => simp at hk
  | cons x xs ih => cases ys with
    | nil => simp at h
    | cons y ys => cases k with
      | zero => simp [zipI]
      | succ k => have := ih ys (by simpa using h) k (by simpa using hk); simpa [zipI] using this

def OwnK (w wr : World) (n k : Nat) (zs : List Int) : Prop :=
  Below w.heap.size w wr ∧ w.heap.size < wr.heap.size ∧ (∀ i, i < n → (wr.cell? ⟨w.heap.size, i, none⟩).isSome = true ∧ wr.frozen? ⟨w.heap.size, i, none⟩ = false) ∧ (∀ i, i < k → wr.cell? ⟨w.heap.size, i, none⟩ = some (.int .i64 (zs.getD i 0)))

theorem OwnK.start (w : World) (n : Nat) (zs : List Int) : OwnK w (w.alloc (.cells (madeCells #[.int .i64 0] n) 3)) n 0 zs := by
  refine ⟨(Below.refl _ _).alloc (Nat.le_refl _) _, by simp, fun i hi => ⟨?_, by simp⟩, fun i hi => absurd hi (by omega)⟩
  simp [size_madeCells, hi]
theorem OwnK.drawn {w wr : World} {n k : Nat} {zs : List Int} (h : OwnK w wr n k zs) : OwnK w wr.drew n k zs :=
  ⟨h.1.drew, h.2.1, h.2.2.1, h.2.2.2⟩
theorem OwnK.step {w wr : World} {n k : Nat} {zs : List Int} (h : OwnK w wr n k zs) (hk : k < n) (v : Int) (hv : v = zs.getD k 0) : OwnK w (wr.setCell ⟨w.heap.size, k, none⟩ (.int .i64 v)) n (k + 1) zs := by
  obtain ⟨h1, h2, h3, h4⟩ := h
  subst hv
  have ne : ∀ i, ¬ i = k → (⟨w.heap.size, k, none⟩ : Addr) ≠ ⟨w.heap.size, i, none⟩ := fun i hi e => hi (by injection e with _ e2 _; exact e2.symm)
  refine ⟨h1.setCell (Nat.le_refl _) _, by simpa using h2, fun i hi => ?_, fun i hi => ?_⟩
  · by_cases e : i = k
    · subst e
      exact ⟨by rw [World.cell?_setCell_same' wr _ _ (h3 i hi).1]; rfl, by simpa using (h3 i hi).2⟩
    · rw [World.cell?_setCell_other (w := wr) (h := ne i e)]
      exact ⟨(h3 i hi).1, by simpa using (h3 i hi).2⟩
  · by_cases e : i = k
    · subst e
      rw [World.cell?_setCell_same' wr _ _ (h3 i hk).1]
    · rw [World.cell?_setCell_other (w := wr) (h := ne i e)]
      exact h4 i (by omega)
theorem Sl.empty (w : World) : Sl w (.slice none 0 0) [] := ⟨none, 0, rfl, fun h => absurd h (by simp)⟩
theorem OwnK.sl {w w' : World} {zs : List Int} (h : OwnK w w' zs.length zs.length zs) : Sl w' (.slice (some ⟨w.heap.size, 0, none⟩) zs.length zs.length) zs :=
  ⟨_, _, rfl, fun _ => ⟨_, _, rfl, h.2.1, fun i hi => by rw [Nat.zero_add]; exact h.2.2.2 i hi⟩⟩
def sameB (xs ys : List Int) : Bool := decide (xs = ys)
theorem take_same {xs ys : List Int} {k : Nat} (h : k < xs.length) (h2 : k < ys.length) (ht : xs.take k = ys.take k) (he : xs.getD k 0 = ys.getD k 0) : xs.take (k + 1) = ys.take (k + 1) := by
  rw [List.take_succ_eq_append_getElem h, List.take_succ_eq_append_getElem h2, ht]
  simp [List.getD_eq_getElem?_getD, h, h2] at he
  rw [he]

set_option maxHeartbeats 400000 in
theorem sameInts_any (x y : Value) (xs ys : List Int) (w : World) (hm : xs.length ≤ 3) (hs : Sl w x xs) (hs2 : Sl w y ys) :
    Calls Tryd.prog 45 #[x, y] w fun e w' => e = .returned (.bool (sameB xs ys)) ∧ ∃ n, w' = w.drewN n := by
  obtain ⟨a, cap, rfl, h1⟩ := hs
  obtain ⟨a2, cap2, rfl, h2⟩ := hs2
  by_cases hl : xs.length = ys.length
  · rw [← hl]
    by_cases h0 : xs.length = 0
    · have e1 : xs = [] := List.length_eq_zero_iff.1 h0
      have e2 : ys = [] := List.length_eq_zero_iff.1 (by omega)
      subst e1 e2
      clear h1 h2 hl h0
      go_enter Tryd.func45, Tryd.ntmps45
      go_wp2
      go_loop [5] (fun i => i = .int .i64 0) (fun _ => 0)
      case atStart => rfl
      case round =>
        subst hrel
        go_wp2
        go_ret
        exact ⟨rfl, 0, rfl⟩
    · obtain ⟨b, off, rfl, hlt, hc⟩ := h1 (by omega)
      obtain ⟨b2, off2, rfl, hlt2, hc2⟩ := h2 (by omega)
      have HC := hid hc
      have HC2 := hid hc2
      have HXY := hid hl
      clear h1 h2 hc hc2 hl h0
      go_enter Tryd.func45, Tryd.ntmps45
      go_wp2
      go_loopw [5] (fun i wr => ∃ k n : Nat, k ≤ xs.length ∧ i = .int .i64 k ∧ xs.take k = ys.take k ∧ wr = w.drewN n) (fun i _ => xs.length - (intOf i).toNat)
      case atStart => exact ⟨0, 0, Nat.zero_le _, rfl, rfl, rfl⟩
      case round =>
        obtain ⟨k, n0, hk, rfl, hn, hw0⟩ := hrel
        have HN := hid hn
        have HW := hid hw0
        clear hn hw0
        by_cases hk2 : k < xs.length
        · have hcell := HC.out k hk2
          have hcell2 := HC2.out k (by rw [← HXY.out]; exact hk2)
          have e1 : ∀ a, wr.cell? a = w.cell? a := fun a => by rw [HW.out]; rfl
          rw [← e1] at hcell hcell2
          clear e1
          have HT := hid (take_same hk2 (by rw [← HXY.out]; exact hk2) HN.out)
          have HF : Hid (¬ xs.getD k 0 = ys.getD k 0 → sameB xs ys = false) := by
            intro h
            unfold sameB
            apply decide_eq_false
            intro e; exact h (by rw [e])
          generalize xs.getD k 0 = u at hcell HT HF
          generalize ys.getD k 0 = t at hcell2 HT HF
          cases hy : (u != t)
          · go_wp2
            go_quiet (fail)
            go_wp2
            go_roundw
            case rel => exact ⟨k + 1, _, by omega, by go_num, HT.out (by simpa using hy), by rw [HW.out, World.drewN_drewN]⟩
            case measure => simp [intOf]; omega
          · go_wp2
            go_quiet (fail)
            go_wp2
            go_ret
            exact ⟨by rw [HF.out (by simpa using hy)]; rfl, _, by rw [HW.out, World.drewN_drewN]⟩
        · go_wp2
          go_ret
          refine ⟨?_, n0, HW.out⟩
          have := HN.out
          rw [List.take_of_length_le (by omega), List.take_of_length_le (by have := HXY.out; omega)] at this
          simp [sameB, this]
  · have he : sameB xs ys = false := by
      unfold sameB; apply decide_eq_false; intro e; exact hl (by rw [e])
    rw [he]
    have hl2 : ((xs.length : Int) != (ys.length : Int)) = true := by simp; omega
    clear he h1 h2 hl
    go_enter Tryd.func45, Tryd.ntmps45
    go_wp2
    go_ret
    exact ⟨rfl, 0, rfl⟩

set_option maxHeartbeats 400000 in
theorem xy_any (w : World) : Calls Tryd.prog 32 #[] w fun e w' => e = .returned (ringV 7 2 1 1) ∧ Below w.heap.size w w' := by
  go_enter Tryd.func32, Tryd.ntmps32
  go_wp2
  exact bodyPost_ret (v := ringV 7 2 1 1) (by simp [results, Tryd.results32, go_sem]) rfl ⟨rfl, (Below.refl _ _).alloc (Nat.le_refl _) _⟩
end Go.Proofs.YtilogbggilchaaaDoor
