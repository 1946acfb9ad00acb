/- eachPair, together, Times, Least, Over. -/
import Derived.Test.YtilogbggilchaaaF
import Derived.Deep.OwnRows
import Derived.Deep.RegionWith
namespace Go.Proofs.Ytilogbggilchaaa
set_option linter.unusedSimpArgs false
set_option linter.unusedVariables false
open Go.RowKit
theorem Try.info_int : (Try.prog.info? 3).map (fun i => (i.zero, i.size, i.bytes)) = some (some (.int .i64 0), 1, 8) := by kernel_rfl

def zipI (g : Int → Int → Int) : List Int → List Int → List Int
  | x :: xs, y :: ys => g x y :: zipI g xs ys
  | _, _ => []
theorem zipI_len (g : Int → Int → Int) (xs ys : List Int) (h : xs.length = ys.length) : (zipI g xs ys).length = xs.length := by
  induction xs generalizing ys with
  | nil => cases ys <;> simp [zipI]
  | cons x xs ih => cases ys with
    | nil => simp at h
    | cons y ys => simp [zipI, ih ys (by simpa using h)]
theorem zipI_at (g : Int → Int → Int) (xs ys : List Int) (h : xs.length = ys.length) (k : Nat) (hk : k < xs.length) : (zipI g xs ys).getD k 0 = g (xs.getD k 0) (ys.getD k 0) := by
  induction xs generalizing ys k with
  | nil => simp at hk
  | cons x xs ih => cases ys with
    | nil => simp at h
    | cons y ys => cases k with
      | zero => simp [zipI]
      | succ k => have := ih ys (by simpa using h) k (by simpa using hk); simpa [zipI] using this

def OwnK (w wr : World) (n k : Nat) (zs : List Int) : Prop :=
  Below w.heap.size w wr ∧ w.heap.size < wr.heap.size ∧ (∀ i, i < n → (wr.cell? ⟨w.heap.size, i, none⟩).isSome = true ∧ wr.frozen? ⟨w.heap.size, i, none⟩ = false) ∧ (∀ i, i < k → wr.cell? ⟨w.heap.size, i, none⟩ = some (.int .i64 (zs.getD i 0)))

theorem OwnK.start (w : World) (n : Nat) (zs : List Int) : OwnK w (w.alloc (.cells (madeCells #[.int .i64 0] n) 3)) n 0 zs := by
  refine ⟨(Below.refl _ _).alloc (Nat.le_refl _) _, by simp, fun i hi => ⟨?_, by simp⟩, fun i hi => absurd hi (by omega)⟩
  simp [size_madeCells, hi]
theorem OwnK.drawn {w wr : World} {n k : Nat} {zs : List Int} (h : OwnK w wr n k zs) : OwnK w wr.drew n k zs :=
  ⟨h.1.drew, h.2.1, h.2.2.1, h.2.2.2⟩
theorem OwnK.step {w wr : World} {n k : Nat} {zs : List Int} (h : OwnK w wr n k zs) (hk : k < n) (v : Int) (hv : v = zs.getD k 0) : OwnK w (wr.setCell ⟨w.heap.size, k, none⟩ (.int .i64 v)) n (k + 1) zs := by
  obtain ⟨h1, h2, h3, h4⟩ := h
  subst hv
  have ne : ∀ i, ¬ i = k → (⟨w.heap.size, k, none⟩ : Addr) ≠ ⟨w.heap.size, i, none⟩ := fun i hi e => hi (by injection e with _ e2 _; exact e2.symm)
  refine ⟨h1.setCell (Nat.le_refl _) _, by simpa using h2, fun i hi => ?_, fun i hi => ?_⟩
  · by_cases e : i = k
    · subst e
      exact ⟨by rw [World.cell?_setCell_same' wr _ _ (h3 i hi).1]; rfl, by simpa using (h3 i hi).2⟩
    · rw [World.cell?_setCell_other (w := wr) (h := ne i e)]
      exact ⟨(h3 i hi).1, by simpa using (h3 i hi).2⟩
  · by_cases e : i = k
    · subst e
      rw [World.cell?_setCell_same' wr _ _ (h3 i hk).1]
    · rw [World.cell?_setCell_other (w := wr) (h := ne i e)]
      exact h4 i (by omega)
theorem Sl.empty (w : World) : Sl w (.slice none 0 0) [] := ⟨none, 0, rfl, fun h => absurd h (by simp)⟩
theorem OwnK.sl {w w' : World} {zs : List Int} (h : OwnK w w' zs.length zs.length zs) : Sl w' (.slice (some ⟨w.heap.size, 0, none⟩) zs.length zs.length) zs :=
  ⟨_, _, rfl, fun _ => ⟨_, _, rfl, h.2.1, fun i hi => by rw [Nat.zero_add]; exact h.2.2.2 i hi⟩⟩
def sameB (xs ys : List Int) : Bool := decide (xs = ys)
theorem take_same {xs ys : List Int} {k : Nat} (h : k < xs.length) (h2 : k < ys.length) (ht : xs.take k = ys.take k) (he : xs.getD k 0 = ys.getD k 0) : xs.take (k + 1) = ys.take (k + 1) := by
  rw [List.take_succ_eq_append_getElem h, List.take_succ_eq_append_getElem h2, ht]
  simp [List.getD_eq_getElem?_getD, h, h2] at he
  rw [he]

set_option maxHeartbeats 400000 in
theorem sameInts_any (x y : Value) (xs ys : List Int) (w : World) (hm : xs.length ≤ 3) (hs : Sl w x xs) (hs2 : Sl w y ys) :
    Calls Try.prog 17 #[x, y] w fun e w' => e = .returned (.bool (sameB xs ys)) ∧ ∃ n, w' = w.drewN n := by
  obtain ⟨a, cap, rfl, h1⟩ := hs
  obtain ⟨a2, cap2, rfl, h2⟩ := hs2
  by_cases hl : xs.length = ys.length
  · rw [← hl]
    by_cases h0 : xs.length = 0
    · have e1 : xs = [] := List.length_eq_zero_iff.1 h0
      have e2 : ys = [] := List.length_eq_zero_iff.1 (by omega)
      subst e1 e2
      clear h1 h2 hl h0
      go_enter Try.func17, Try.ntmps17
      go_wp2
      go_loop [5] (fun i => i = .int .i64 0) (fun _ => 0)
      case atStart => rfl
      case round =>
        subst hrel
        go_wp2
        go_ret
        exact ⟨rfl, 0, rfl⟩
    · obtain ⟨b, off, rfl, hlt, hc⟩ := h1 (by omega)
      obtain ⟨b2, off2, rfl, hlt2, hc2⟩ := h2 (by omega)
      have HC := hid hc
      have HC2 := hid hc2
      have HXY := hid hl
      clear h1 h2 hc hc2 hl h0
      go_enter Try.func17, Try.ntmps17
      go_wp2
      go_loopw [5] (fun i wr => ∃ k n : Nat, k ≤ xs.length ∧ i = .int .i64 k ∧ xs.take k = ys.take k ∧ wr = w.drewN n) (fun i _ => xs.length - (intOf i).toNat)
      case atStart => exact ⟨0, 0, Nat.zero_le _, rfl, rfl, rfl⟩
      case round =>
        obtain ⟨k, n0, hk, rfl, hn, hw0⟩ := hrel
        have HN := hid hn
        have HW := hid hw0
        clear hn hw0
        by_cases hk2 : k < xs.length
        · have hcell := HC.out k hk2
          have hcell2 := HC2.out k (by rw [← HXY.out]; exact hk2)
          have e1 : ∀ a, wr.cell? a = w.cell? a := fun a => by rw [HW.out]; rfl
          rw [← e1] at hcell hcell2
          clear e1
          have HT := hid (take_same hk2 (by rw [← HXY.out]; exact hk2) HN.out)
          have HF : Hid (¬ xs.getD k 0 = ys.getD k 0 → sameB xs ys = false) := by
            intro h
            unfold sameB
            apply decide_eq_false
            intro e; exact h (by rw [e])
          generalize xs.getD k 0 = u at hcell HT HF
          generalize ys.getD k 0 = t at hcell2 HT HF
          cases hy : (u != t)
          · go_wp2
            go_quiet (fail)
            go_wp2
            go_roundw
            case rel => exact ⟨k + 1, _, by omega, by go_num, HT.out (by simpa using hy), by rw [HW.out, World.drewN_drewN]⟩
            case measure => simp [intOf]; omega
          · go_wp2
            go_quiet (fail)
            go_wp2
            go_ret
            exact ⟨by rw [HF.out (by simpa using hy)]; rfl, _, by rw [HW.out, World.drewN_drewN]⟩
        · go_wp2
          go_ret
          refine ⟨?_, n0, HW.out⟩
          have := HN.out
          rw [List.take_of_length_le (by omega), List.take_of_length_le (by have := HXY.out; omega)] at this
          simp [sameB, this]
  · have he : sameB xs ys = false := by
      unfold sameB; apply decide_eq_false; intro e; exact hl (by rw [e])
    rw [he]
    have hl2 : ((xs.length : Int) != (ys.length : Int)) = true := by simp; omega
    clear he h1 h2 hl
    go_enter Try.func17, Try.ntmps17
    go_wp2
    go_ret
    exact ⟨rfl, 0, rfl⟩

set_option maxHeartbeats 400000 in
theorem xy_any (w : World) : Calls Try.prog 39 #[] w fun e w' => e = .returned (ringV 7 2 1 1) ∧ Below w.heap.size w w' := by
  go_enter Try.func39, Try.ntmps39
  go_wp2
  exact bodyPost_ret (v := ringV 7 2 1 1) (by simp [results, Try.results39, go_sem]) rfl ⟨rfl, (Below.refl _ _).alloc (Nat.le_refl _) _⟩
theorem Sl.new2 (w : World) (a b : Int) (T : TypeId) : Sl (w.alloc (.cells #[.int .i64 a, .int .i64 b] T)) (.slice (some ⟨w.heap.size, 0, none⟩) 2 2) [a, b] := by
  refine ⟨_, _, rfl, fun _ => ⟨_, _, rfl, by simp, fun i hi => ?_⟩⟩
  simp at hi
  rcases i with _ | _ | i
  · simp
  · simp
  · omega

theorem below_one {w : World} {A : Obj} : Below w.heap.size w (w.alloc A) := (Below.refl _ _).alloc (Nat.le_refl _) _
theorem cmpI_neg (a b : Int) : cmpI a b = - cmpI b a := by
  unfold cmpI; split <;> split <;> omega
theorem cmpI_vals (a b : Int) : cmpI a b = -1 ∧ a < b ∨ cmpI a b = 0 ∧ a = b ∨ cmpI a b = 1 ∧ b < a := by
  unfold cmpI; split
  · omega
  · split <;> omega
theorem cmpI_add (a b c : Int) : cmpI (a + c) (b + c) = cmpI a b := by
  have h1 := cmpI_vals a b
  have h2 := cmpI_vals (a + c) (b + c)
  omega

theorem lexC_neg : ∀ xs ys : List Int, lexC xs ys = - lexC ys xs
  | [], [] => by simp [lexC]
  | [], _ :: _ => by simp [lexC]
  | _ :: _, [] => by simp [lexC]
  | x :: xs, y :: ys => by
    simp only [lexC]
    have h1 := cmpI_neg x y
    have h2 := lexC_neg xs ys
    by_cases h : cmpI x y = 0
    · rw [if_pos h, if_pos (by omega)]; exact h2
    · rw [if_neg h, if_neg (by omega)]; exact h1
theorem lexC_bd : ∀ xs ys : List Int, -1 ≤ lexC xs ys ∧ lexC xs ys ≤ 1
  | [], [] => by simp [lexC]
  | [], _ :: _ => by simp [lexC]
  | _ :: _, [] => by simp [lexC]
  | x :: xs, y :: ys => by
    simp only [lexC]
    have h1 := cmpI_vals x y
    have h2 := lexC_bd xs ys
    by_cases h : cmpI x y = 0
    · rw [if_pos h]; exact h2
    · rw [if_neg h]; omega
theorem lexC_zero : ∀ xs ys : List Int, xs.length = ys.length → (lexC xs ys = 0 ↔ xs = ys)
  | [], [], _ => by simp [lexC]
  | [], _ :: _, h => by simp at h
  | _ :: _, [], h => by simp at h
  | x :: xs, y :: ys, hl => by
    simp only [lexC, List.cons.injEq]
    have h1 := cmpI_vals x y
    have h2 := lexC_zero xs ys (by simpa using hl)
    by_cases h : cmpI x y = 0
    · rw [if_pos h, h2]
      constructor
      · intro e; exact ⟨by omega, e⟩
      · intro e; exact e.2
    · rw [if_neg h]
      constructor
      · intro e; exact absurd e h
      · intro e; omega
theorem lexC_trans : ∀ xs ys zs : List Int, xs.length = ys.length → ys.length = zs.length → 0 < lexC xs ys → 0 < lexC ys zs → 0 < lexC xs zs
  | [], [], _, _, _, h, _ => by simp [lexC] at h
  | [], _ :: _, _, h, _, _, _ => by simp at h
  | _ :: _, [], _, h, _, _, _ => by simp at h
  | _ :: _, _ :: _, [], _, h, _, _ => by simp at h
  | x :: xs, y :: ys, z :: zs, h1, h2, h3, h4 => by
    simp only [lexC] at h3 h4 ⊢
    have hxy := cmpI_vals x y
    have hyz := cmpI_vals y z
    have hxz := cmpI_vals x z
    by_cases a : cmpI x y = 0
    · rw [if_pos a] at h3
      by_cases b : cmpI y z = 0
      · rw [if_pos b] at h4
        rw [if_pos (by omega)]
        exact lexC_trans xs ys zs (by simpa using h1) (by simpa using h2) h3 h4
      · rw [if_neg b] at h4
        rw [if_neg (by omega)]; omega
    · rw [if_neg a] at h3
      by_cases b : cmpI y z = 0
      · rw [if_neg (by omega)]; omega
      · rw [if_neg b] at h4
        rw [if_neg (by omega)]; omega
theorem lexC_add : ∀ xs ys zs : List Int, xs.length = ys.length → ys.length = zs.length → lexC (zipI (· + ·) xs zs) (zipI (· + ·) ys zs) = lexC xs ys
  | [], [], _, _, _ => by simp [lexC, zipI]
  | [], _ :: _, _, h, _ => by simp at h
  | _ :: _, [], _, h, _ => by simp at h
  | _ :: _, _ :: _, [], _, h => by simp at h
  | x :: xs, y :: ys, z :: zs, h1, h2 => by
    simp only [lexC, zipI]
    rw [cmpI_add, lexC_add xs ys zs (by simpa using h1) (by simpa using h2)]

theorem zipI_snoc (g : Int → Int → Int) : ∀ (xs ys : List Int) (x y : Int), xs.length = ys.length → zipI g (xs ++ [x]) (ys ++ [y]) = zipI g xs ys ++ [g x y]
  | [], [], _, _, _ => by simp [zipI]
  | [], _ :: _, _, _, h => by simp at h
  | _ :: _, [], _, _, h => by simp at h
  | a :: xs, b :: ys, x, y, h => by simp [zipI, zipI_snoc g xs ys x y (by simpa using h)]
theorem zipI_rev (g : Int → Int → Int) : ∀ (xs ys : List Int), xs.length = ys.length → (zipI g xs ys).reverse = zipI g xs.reverse ys.reverse
  | [], [], _ => by simp [zipI]
  | [], _ :: _, h => by simp at h
  | _ :: _, [], h => by simp at h
  | a :: xs, b :: ys, h => by
    simp only [zipI, List.reverse_cons]
    rw [zipI_snoc g _ _ _ _ (by simpa using h), zipI_rev g xs ys (by simpa using h)]
theorem sumI_zip : ∀ xs ys : List Int, xs.length = ys.length → sumI (zipI (· + ·) xs ys) = sumI xs + sumI ys
  | [], [], _ => by simp [sumI, zipI]
  | [], _ :: _, h => by simp at h
  | _ :: _, [], h => by simp at h
  | a :: xs, b :: ys, h => by
    simp only [zipI, sumI]
    rw [sumI_zip xs ys (by simpa using h)]; omega

theorem ordS_neg (o : Int) (xs ys : List Int) : ordS o xs ys = - ordS o ys xs := by
  unfold ordS revC
  have h1 := cmpI_neg (sumI xs) (sumI ys)
  by_cases h : cmpI (sumI xs) (sumI ys) = 0
  · have h' : cmpI (sumI ys) (sumI xs) = 0 := by omega
    rw [if_pos h, if_pos h']
    by_cases ho : o = 1
    · rw [if_pos ho, if_pos ho]; exact lexC_neg _ _
    · rw [if_neg ho, if_neg ho]; exact lexC_neg _ _
  · rw [if_neg h, if_neg (by omega)]; exact h1
theorem ordS_bd (o : Int) (xs ys : List Int) : -1 ≤ ordS o xs ys ∧ ordS o xs ys ≤ 1 := by
  unfold ordS revC
  have h1 := cmpI_vals (sumI xs) (sumI ys)
  by_cases h : cmpI (sumI xs) (sumI ys) = 0
  · rw [if_pos h]
    by_cases ho : o = 1
    · rw [if_pos ho]; exact lexC_bd _ _
    · rw [if_neg ho]; exact lexC_bd _ _
  · rw [if_neg h]; omega
theorem ordS_zero (o : Int) (xs ys : List Int) (hl : xs.length = ys.length) : (ordS o xs ys = 0) ↔ xs = ys := by
  unfold ordS revC
  have h1 := cmpI_vals (sumI xs) (sumI ys)
  by_cases h : cmpI (sumI xs) (sumI ys) = 0
  · rw [if_pos h]
    by_cases ho : o = 1
    · rw [if_pos ho, lexC_zero _ _ (by simp; omega)]
      constructor
      · intro e; have := congrArg List.reverse e; simpa using this.symm
      · intro e; rw [e]
    · rw [if_neg ho, lexC_zero _ _ hl]
  · rw [if_neg h]
    constructor
    · intro e; exact absurd e h
    · intro e; rw [e] at h1; rw [e] at h; omega
theorem ordS_trans (o : Int) (xs ys zs : List Int) (h1 : xs.length = ys.length) (h2 : ys.length = zs.length) (h3 : 0 < ordS o xs ys) (h4 : 0 < ordS o ys zs) : 0 < ordS o xs zs := by
  unfold ordS revC at *
  have hxy := cmpI_vals (sumI xs) (sumI ys)
  have hyz := cmpI_vals (sumI ys) (sumI zs)
  have hxz := cmpI_vals (sumI xs) (sumI zs)
  by_cases a : cmpI (sumI xs) (sumI ys) = 0
  · rw [if_pos a] at h3
    by_cases b : cmpI (sumI ys) (sumI zs) = 0
    · rw [if_pos b] at h4
      rw [if_pos (by omega)]
      by_cases ho : o = 1
      · rw [if_pos ho] at h3 h4 ⊢
        have k1 := lexC_neg ys.reverse xs.reverse
        have k2 := lexC_neg zs.reverse ys.reverse
        exact Int.not_le.1 (fun hn => by
          have k3 := lexC_neg zs.reverse xs.reverse
          have k4 := lexC_trans zs.reverse ys.reverse xs.reverse (by simp; omega) (by simp; omega) h4 h3
          omega)
      · rw [if_neg ho] at h3 h4 ⊢
        exact lexC_trans xs ys zs h1 h2 h3 h4
    · rw [if_neg b] at h4
      rw [if_neg (by omega)]; omega
  · rw [if_neg a] at h3
    by_cases b : cmpI (sumI ys) (sumI zs) = 0
    · rw [if_neg (by omega)]; omega
    · rw [if_neg b] at h4
      rw [if_neg (by omega)]; omega
theorem ordS_add (o : Int) (xs ys zs : List Int) (h1 : xs.length = ys.length) (h2 : ys.length = zs.length) : ordS o (zipI (· + ·) xs zs) (zipI (· + ·) ys zs) = ordS o xs ys := by
  unfold ordS revC
  rw [sumI_zip xs zs (by omega), sumI_zip ys zs h2, cmpI_add, zipI_rev _ xs zs (by omega), zipI_rev _ ys zs h2,
    lexC_add _ _ _ (by simp; omega) (by simp; omega), lexC_add xs ys zs h1 h2]
set_option maxHeartbeats 400000 in
theorem degreeOf_any (xs : List Int) (b off cap : Nat) (w : World) (hxs : ∀ x ∈ xs, 0 ≤ x ∧ x ≤ 400) (hl : xs.length ≤ 3) (hc : IntsAt w b off xs) :
    Calls Try.prog 55 #[.slice (some ⟨b, off, none⟩) xs.length cap] w fun e w' => e = .returned (.int .i64 (sumI xs)) ∧ w' = w := by
  have HC := hid hc
  clear hc
  go_enter Try.func55, Try.ntmps55
  go_wp2
  go_loop [3, 4] (fun n i => ∃ k : Nat, k ≤ xs.length ∧ i = .int .i64 k ∧ n = .int .i64 (sumI (xs.take k))) (fun _ i => xs.length - (intOf i).toNat)
  case atStart => exact ⟨0, Nat.zero_le _, rfl, rfl⟩
  case round =>
    obtain ⟨k, hk, rfl, rfl⟩ := hrel
    have hd := sumI_bd (xs.take k) (fun x hx => hxs x (List.mem_of_mem_take hx))
    have hl2 : (xs.take k).length ≤ k := List.length_take_le _ _
    by_cases hlt : k < xs.length
    · have hsn := sumI_take xs k hlt
      have hb := hxs _ (getD_mem xs k hlt)
      have hcell := HC.out k hlt
      generalize xs.getD k 0 = y at hsn hb hcell
      have HS := hid hsn
      clear hsn hxs
      go_wp2
      go_round
      case rel => exact ⟨k + 1, by omega, by go_num, by rw [HS.out]⟩
      case measure => simp [intOf]; omega
    · go_wp2
      go_ret
      exact ⟨ret_int (by rw [List.take_of_length_le (by omega)]), rfl⟩
end Go.Proofs.Ytilogbggilchaaa
