/- Clone; clearing a column. -/
import Derived.Test.YtilogbggilchaaaDoorFE
import Derived.Lib.SliceRun
namespace Go.Proofs.YtilogbggilchaaaDoor
set_option linter.unusedSimpArgs false
set_option linter.unusedVariables false
open Go.RowKit
theorem Tryd.infoInt : (Tryd.prog.info? 3).map (fun i => (i.zero, i.size, i.bytes)) = some (some (.int .i64 0), 1, 8) := by kernel_rfl
abbrev ints (xs : List Int) : List Value := xs.map (Value.int .i64)
def Own (w : World) (B : Nat) (v : Value) (xs : List Int) : Prop := w.ownsRow B 3 1 v xs.length (ints xs)

theorem intsAt_news {w : World} {b off : Nat} {xs : List Int} (h : IntsAt w b off xs) : ∀ j u, (ints xs)[j]? = some u → w.cell? ((⟨b, off, none⟩ : Addr).add j) = some u := by
  intro j u hj
  rw [List.getElem?_map] at hj
  cases hx : xs[j]? with
  | none => rw [hx] at hj; simp at hj
  | some x =>
    rw [hx] at hj
    simp at hj
    subst hj
    have hl : j < xs.length := by
      apply Nat.lt_of_not_le; intro hle; rw [List.getElem?_eq_none hle] at hx; simp at hx
    have := h j hl
    rw [List.getD_eq_getElem?_getD, hx] at this
    by_cases h0 : j = 0
    · subst h0; simpa [Addr.add] using this
    · simpa [Addr.add, h0] using this
theorem ints_one (xs : List Int) : ∀ u ∈ ints xs, u.oneCell' = true := by
  intro u hu
  simp at hu
  obtain ⟨x, _, rfl⟩ := hu
  rfl

set_option maxHeartbeats 400000 in
theorem clone_any (v : Value) (xs : List Int) (w : World) (hm : xs.length ≤ 400) (hs : Sl w v xs) :
    Calls Tryd.prog 77 #[v] w fun e w' => ∃ u, e = .returned u ∧ Own w' w.heap.size u xs ∧ Below w.heap.size w w' := by
  obtain ⟨a, cap, rfl, h1⟩ := hs
  have hnil := fun (w : World) (a : Option Addr) (n c : Nat) => Lib.run_eql_slice_nil (P := Tryd.prog) w 36 3 a n c 0 0 Tryd.underlying36
  obtain ⟨i0, hi, hz0, hz1, hz2⟩ := info_parts Tryd.infoInt
  cases a with
  | none =>
    have h0 : xs = [] := List.length_eq_zero_iff.1 (by
      apply Nat.eq_zero_of_not_pos; intro h; obtain ⟨b, off, hh, _⟩ := h1 h; simp at hh)
    subst h0
    clear h1
    go_enter Tryd.func77, Tryd.ntmps77
    go_wp2
    go_ret
    exact ⟨_, rfl, World.ownsRow_nil _ _ _ _, Below.refl _ _⟩
  | some ad =>
    have HN : Hid (∀ j u, (ints xs)[j]? = some u → (w.alloc (.cells #[] 3)).cell? (ad.add j) = some u) := by
      intro j u hj
      by_cases h0 : 0 < xs.length
      · obtain ⟨b, off, hh, hlt, hc⟩ := h1 h0
        simp at hh
        subst hh
        refine intsAt_news (w := w.alloc (.cells #[] 3)) (b := b) (off := off) ?_ j u hj
        intro i hi
        rw [belowNew.cell (p := ⟨b, off + i, none⟩) hlt]; exact hc i hi
      · have : xs = [] := List.length_eq_zero_iff.1 (by omega)
        subst this; simp at hj
    clear h1
    go_enter Tryd.func77, Tryd.ntmps77
    go_wp2_with (at_builtin; refine wpList_append_own _ rfl _ _ 36 rfl w.heap.size 3 i0 (.int .i64 0) 1 8 Tryd.underlying36 hi hz0 hz1 hz2 rfl (by decide) _ _ _ rfl (World.ownsRow_made w #[] 0 (Nat.le_refl _) (by decide) (by simp)) ad xs.length cap (ints xs) rfl (by simp) HN.out (ints_one xs) (by unfold maxLen; omega) (by omega) (by simp) ?_)
    intro v' w1 hown' hgrow _
    try simp only [Nat.zero_add, List.nil_append] at hown'
    have hb : Below w.heap.size w w1 := (belowNew).grown hgrow (by simp) (fun k hk => by simp [Value.ownBlock] at hk; omega)
    have HO := hid hown'
    obtain ⟨g, c, hv⟩ : ∃ g c, v' = .slice g xs.length c := by
      rcases hown'.2 with ⟨h, h'⟩ | ⟨g, c, cur, h, _⟩
      · exact ⟨none, 0, by rw [h, h']⟩
      · exact ⟨_, c, h⟩
    subst hv
    clear hown' hgrow hnil
    go_wp2
    go_ret
    exact ⟨_, rfl, HO.out, hb⟩
end Go.Proofs.YtilogbggilchaaaDoor
