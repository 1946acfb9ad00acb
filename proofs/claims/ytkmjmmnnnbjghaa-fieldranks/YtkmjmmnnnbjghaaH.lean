/- eachPair, together, Times, Least, Over. -/
import Derived.Test.YtkmjmmnnnbjghaaF
import Derived.Deep.OwnRows
import Derived.Deep.RegionWith
namespace Go.Proofs.Ytkmjmmnnnbjghaa
set_option linter.unusedSimpArgs false
set_option linter.unusedVariables false
open Go.RowKit

theorem Try.info_int : (Try.prog.info? 3).map (fun i => (i.zero, i.size, i.bytes)) = some (some (.int .i64 0), 1, 8) := by kernel_rfl

def zipI (g : Int → Int → Int) : List Int → List Int → List Int
  | x :: xs, y :: ys => g x y :: zipI g xs ys
  | _, _ => []
theorem zipI_len (g : Int → Int → Int) (xs ys : List Int) (h : xs.length = ys.length) : (zipI g xs ys).length = xs.length := by
  induction xs generalizing ys with
  | nil => cases ys <;> simp [zipI]
  | cons x xs ih => cases ys with
    | nil => simp at h
    | cons y ys => simp [zipI, ih ys (by simpa using h)]
theorem zipI_at (g : Int → Int → Int) (xs ys : List Int) (h : xs.length = ys.length) (k : Nat) (hk : k < xs.length) : (zipI g xs ys).getD k 0 = g (xs.getD k 0) (ys.getD k 0) := by
  induction xs generalizing ys k with
  | nil => simp at hk
  | cons x xs ih => cases ys with
    | nil => simp at h
    | cons y ys => cases k with
      | zero => simp [zipI]
      | succ k => have := ih ys (by simpa using h) k (by simpa using hk); simpa [zipI] using this

/-- The new row behind k rounds: its first k cells hold what they must. -/
def OwnK (w wr : World) (n k : Nat) (zs : List Int) : Prop :=
  Below w.heap.size w wr ∧ w.heap.size < wr.heap.size ∧ (∀ i, i < n → (wr.cell? ⟨w.heap.size, i, none⟩).isSome = true ∧ wr.frozen? ⟨w.heap.size, i, none⟩ = false) ∧ (∀ i, i < k → wr.cell? ⟨w.heap.size, i, none⟩ = some (.int .i64 (zs.getD i 0)))

theorem OwnK.start (w : World) (n : Nat) (zs : List Int) : OwnK w (w.alloc (.cells (madeCells #[.int .i64 0] n) 3)) n 0 zs := by
  refine ⟨(Below.refl _ _).alloc (Nat.le_refl _) _, by simp, fun i hi => ⟨?_, by simp⟩, fun i hi => absurd hi (by omega)⟩
  simp [size_madeCells, hi]
theorem OwnK.drawn {w wr : World} {n k : Nat} {zs : List Int} (h : OwnK w wr n k zs) : OwnK w wr.drew n k zs :=
  ⟨h.1.drew, h.2.1, h.2.2.1, h.2.2.2⟩
theorem OwnK.step {w wr : World} {n k : Nat} {zs : List Int} (h : OwnK w wr n k zs) (hk : k < n) (v : Int) (hv : v = zs.getD k 0) : OwnK w (wr.setCell ⟨w.heap.size, k, none⟩ (.int .i64 v)) n (k + 1) zs := by
  obtain ⟨h1, h2, h3, h4⟩ := h
  subst hv
  have ne : ∀ i, ¬ i = k → (⟨w.heap.size, k, none⟩ : Addr) ≠ ⟨w.heap.size, i, none⟩ := fun i hi e => hi (by injection e with _ e2 _; exact e2.symm)
  refine ⟨h1.setCell (Nat.le_refl _) _, by simpa using h2, fun i hi => ?_, fun i hi => ?_⟩
  · by_cases e : i = k
    · subst e
      exact ⟨by rw [World.cell?_setCell_same' wr _ _ (h3 i hi).1]; rfl, by simpa using (h3 i hi).2⟩
    · rw [World.cell?_setCell_other (w := wr) (h := ne i e)]
      exact ⟨(h3 i hi).1, by simpa using (h3 i hi).2⟩
  · by_cases e : i = k
    · subst e
      rw [World.cell?_setCell_same' wr _ _ (h3 i hk).1]
    · rw [World.cell?_setCell_other (w := wr) (h := ne i e)]
      exact h4 i (by omega)

set_option maxHeartbeats 400000 in
theorem eachTimes_any (xs ys : List Int) (b off cap b2 off2 cap2 : Nat) (w : World) (hm : xs.length ≤ 3) (hxy : xs.length = ys.length)
    (hbx : ∀ x ∈ xs, 0 ≤ x ∧ x ≤ 200) (hby : ∀ x ∈ ys, 0 ≤ x ∧ x ≤ 200) (hlt : b < w.heap.size) (hlt2 : b2 < w.heap.size) (hc : IntsAt w b off xs) (hc2 : IntsAt w b2 off2 ys) :
    Calls Try.prog 65 #[.slice (some ⟨b, off, none⟩) xs.length cap, .slice (some ⟨b2, off2, none⟩) ys.length cap2, .func (.func 63) #[] #[]] w fun e w' =>
      e = .returned (.slice (some ⟨w.heap.size, 0, none⟩) xs.length xs.length) ∧ OwnK w w' xs.length xs.length (zipI (· + ·) xs ys) := by
  have HC := hid hc
  have HC2 := hid hc2
  have HBX := hid hbx
  have HBY := hid hby
  clear hc hc2 hbx hby
  rw [← hxy]
  have HXY := hid hxy
  clear hxy
  have hmk := fun (w : World) => run_make_row' (P := Try.prog) 36 3 (.int .i64 0) 8 Try.underlying36 Try.info_int rfl .i64 .i64 xs.length (by omega) (by omega) w
  go_enter Try.func65, Try.ntmps65
  go_wp2
  clear hmk
  have hst := OwnK.start w xs.length (zipI (· + ·) xs ys)
  go_loopw [14] (fun i wr => ∃ k : Nat, k ≤ xs.length ∧ i = .int .i64 k ∧ OwnK w wr xs.length k (zipI (· + ·) xs ys)) (fun i _ => xs.length - (intOf i).toNat)
  case atStart => exact ⟨0, Nat.zero_le _, rfl, hst⟩
  case round =>
    clear hst
    obtain ⟨k, hk, rfl, hown⟩ := hrel
    by_cases hk2 : k < xs.length
    · have hcell := HC.out k hk2
      have hcell2 := HC2.out k (by rw [← HXY.out]; exact hk2)
      have HZ := hid (zipI_at (· + ·) xs ys HXY.out k hk2)
      have hx := HBX.out _ (getD_mem xs k hk2)
      have hy := HBY.out _ (getD_mem ys k (by rw [← HXY.out]; exact hk2))
      generalize xs.getD k 0 = x at hcell HZ hx
      generalize ys.getD k 0 = y at hcell2 HZ hy
      rw [← hown.1.cell (p := ⟨b, off + k, none⟩) hlt] at hcell
      rw [← hown.1.cell (p := ⟨b2, off2 + k, none⟩) hlt2] at hcell2
      obtain ⟨hsome, hfr⟩ := hown.2.2.1 k hk2
      obtain ⟨u, hu⟩ := Option.isSome_iff_exists.1 hsome
      have HO := hid hown
      have HXYB := hid (And.intro hx hy)
      clear hown hsome hx hy
      go_wp2
      go_region_with (go_at_call 63; refine (timesFn_any _ _ _ ⟨HXYB.out.1.1, HXYB.out.1.2, HXYB.out.2.1, HXYB.out.2.2⟩).mono ?_; rintro e w' ⟨rfl, rfl⟩)
      all_goals
        go_wp2
        go_roundw
        case rel => exact ⟨k + 1, by omega, by go_num, (HO.out.step hk2 _ HZ.out.symm).drawn⟩
        case measure => simp [intOf]; omega
    · go_wp2
      go_ret
      have : k = xs.length := by omega
      subst this
      exact ⟨rfl, hown⟩

set_option maxHeartbeats 400000 in
theorem eachOver_any (xs ys : List Int) (b off cap b2 off2 cap2 : Nat) (w : World) (hm : xs.length ≤ 3) (hxy : xs.length = ys.length)
    (hbx : ∀ x ∈ xs, 0 ≤ x ∧ x ≤ 200) (hby : ∀ x ∈ ys, 0 ≤ x ∧ x ≤ 200) (hlt : b < w.heap.size) (hlt2 : b2 < w.heap.size) (hc : IntsAt w b off xs) (hc2 : IntsAt w b2 off2 ys) :
    Calls Try.prog 65 #[.slice (some ⟨b, off, none⟩) xs.length cap, .slice (some ⟨b2, off2, none⟩) ys.length cap2, .func (.func 66) #[] #[]] w fun e w' =>
      e = .returned (.slice (some ⟨w.heap.size, 0, none⟩) xs.length xs.length) ∧ OwnK w w' xs.length xs.length (zipI (· - ·) xs ys) := by
  have HC := hid hc
  have HC2 := hid hc2
  have HBX := hid hbx
  have HBY := hid hby
  clear hc hc2 hbx hby
  rw [← hxy]
  have HXY := hid hxy
  clear hxy
  have hmk := fun (w : World) => run_make_row' (P := Try.prog) 36 3 (.int .i64 0) 8 Try.underlying36 Try.info_int rfl .i64 .i64 xs.length (by omega) (by omega) w
  go_enter Try.func65, Try.ntmps65
  go_wp2
  clear hmk
  have hst := OwnK.start w xs.length (zipI (· - ·) xs ys)
  go_loopw [14] (fun i wr => ∃ k : Nat, k ≤ xs.length ∧ i = .int .i64 k ∧ OwnK w wr xs.length k (zipI (· - ·) xs ys)) (fun i _ => xs.length - (intOf i).toNat)
  case atStart => exact ⟨0, Nat.zero_le _, rfl, hst⟩
  case round =>
    clear hst
    obtain ⟨k, hk, rfl, hown⟩ := hrel
    by_cases hk2 : k < xs.length
    · have hcell := HC.out k hk2
      have hcell2 := HC2.out k (by rw [← HXY.out]; exact hk2)
      have HZ := hid (zipI_at (· - ·) xs ys HXY.out k hk2)
      have hx := HBX.out _ (getD_mem xs k hk2)
      have hy := HBY.out _ (getD_mem ys k (by rw [← HXY.out]; exact hk2))
      generalize xs.getD k 0 = x at hcell HZ hx
      generalize ys.getD k 0 = y at hcell2 HZ hy
      rw [← hown.1.cell (p := ⟨b, off + k, none⟩) hlt] at hcell
      rw [← hown.1.cell (p := ⟨b2, off2 + k, none⟩) hlt2] at hcell2
      obtain ⟨hsome, hfr⟩ := hown.2.2.1 k hk2
      obtain ⟨u, hu⟩ := Option.isSome_iff_exists.1 hsome
      have HO := hid hown
      have HXYB := hid (And.intro hx hy)
      clear hown hsome hx hy
      go_wp2
      go_region_with (go_at_call 66; refine (overFn_any _ _ _ ⟨HXYB.out.1.1, HXYB.out.1.2, HXYB.out.2.1, HXYB.out.2.2⟩).mono ?_; rintro e w' ⟨rfl, rfl⟩)
      all_goals
        go_wp2
        go_roundw
        case rel => exact ⟨k + 1, by omega, by go_num, (HO.out.step hk2 _ HZ.out.symm).drawn⟩
        case measure => simp [intOf]; omega
    · go_wp2
      go_ret
      have : k = xs.length := by omega
      subst this
      exact ⟨rfl, hown⟩

set_option maxHeartbeats 400000 in
theorem eachLeast_any (xs ys : List Int) (b off cap b2 off2 cap2 : Nat) (w : World) (hm : xs.length ≤ 3) (hxy : xs.length = ys.length)
    (hbx : ∀ x ∈ xs, 0 ≤ x ∧ x ≤ 200) (hby : ∀ x ∈ ys, 0 ≤ x ∧ x ≤ 200) (hlt : b < w.heap.size) (hlt2 : b2 < w.heap.size) (hc : IntsAt w b off xs) (hc2 : IntsAt w b2 off2 ys) :
    Calls Try.prog 65 #[.slice (some ⟨b, off, none⟩) xs.length cap, .slice (some ⟨b2, off2, none⟩) ys.length cap2, .func (.func 68) #[] #[]] w fun e w' =>
      e = .returned (.slice (some ⟨w.heap.size, 0, none⟩) xs.length xs.length) ∧ OwnK w w' xs.length xs.length (zipI lst xs ys) := by
  have HC := hid hc
  have HC2 := hid hc2
  have HBX := hid hbx
  have HBY := hid hby
  clear hc hc2 hbx hby
  rw [← hxy]
  have HXY := hid hxy
  clear hxy
  have hmk := fun (w : World) => run_make_row' (P := Try.prog) 36 3 (.int .i64 0) 8 Try.underlying36 Try.info_int rfl .i64 .i64 xs.length (by omega) (by omega) w
  go_enter Try.func65, Try.ntmps65
  go_wp2
  clear hmk
  have hst := OwnK.start w xs.length (zipI lst xs ys)
  go_loopw [14] (fun i wr => ∃ k : Nat, k ≤ xs.length ∧ i = .int .i64 k ∧ OwnK w wr xs.length k (zipI lst xs ys)) (fun i _ => xs.length - (intOf i).toNat)
  case atStart => exact ⟨0, Nat.zero_le _, rfl, hst⟩
  case round =>
    clear hst
    obtain ⟨k, hk, rfl, hown⟩ := hrel
    by_cases hk2 : k < xs.length
    · have hcell := HC.out k hk2
      have hcell2 := HC2.out k (by rw [← HXY.out]; exact hk2)
      have HZ := hid (zipI_at lst xs ys HXY.out k hk2)
      have hx := HBX.out _ (getD_mem xs k hk2)
      have hy := HBY.out _ (getD_mem ys k (by rw [← HXY.out]; exact hk2))
      generalize xs.getD k 0 = x at hcell HZ hx
      generalize ys.getD k 0 = y at hcell2 HZ hy
      rw [← hown.1.cell (p := ⟨b, off + k, none⟩) hlt] at hcell
      rw [← hown.1.cell (p := ⟨b2, off2 + k, none⟩) hlt2] at hcell2
      obtain ⟨hsome, hfr⟩ := hown.2.2.1 k hk2
      obtain ⟨u, hu⟩ := Option.isSome_iff_exists.1 hsome
      have HO := hid hown
      have HXYB := hid (And.intro hx hy)
      clear hown hsome hx hy
      go_wp2
      go_region_with (go_at_call 68; refine (leastFn_any _ _ _ ⟨HXYB.out.1.1, HXYB.out.1.2, HXYB.out.2.1, HXYB.out.2.2⟩).mono ?_; rintro e w' ⟨rfl, rfl⟩)
      all_goals
        go_wp2
        go_roundw
        case rel => exact ⟨k + 1, by omega, by go_num, (HO.out.step hk2 _ HZ.out.symm).drawn⟩
        case measure => simp [intOf]; omega
    · go_wp2
      go_ret
      have : k = xs.length := by omega
      subst this
      exact ⟨rfl, hown⟩

end Go.Proofs.Ytkmjmmnnnbjghaa

