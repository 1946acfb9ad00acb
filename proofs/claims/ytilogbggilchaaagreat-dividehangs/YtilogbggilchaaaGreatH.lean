/- eachPair, together, Times, Least, Over. -/
import Derived.Test.YtilogbggilchaaaGreatA
import Derived.Deep.OwnRows
import Derived.Deep.RegionWith
namespace Go.Proofs.YtilogbggilchaaaGreat
set_option linter.unusedSimpArgs false
set_option linter.unusedVariables false
open Go.RowKit
theorem Tryz.info_int : (Tryz.prog.info? 3).map (fun i => (i.zero, i.size, i.bytes)) = some (some (.int .i64 0), 1, 8) := by kernel_rfl

def zipI (g : Int → Int → Int) : List Int → List Int → List Int
  | x :: xs, y :: ys => g x y :: zipI g xs ys
  | _, _ => []
theorem zipI_len (g : Int → Int → Int) (xs ys : List Int) (h : xs.length = ys.length) : (zipI g xs ys).length = xs.length := by
  induction xs generalizing ys with
  | nil => cases ys <;> simp [zipI]
  | cons x xs ih => cases ys with
    | nil => simp at h
    | cons y ys => simp [zipI, ih ys (by simpa using h)]
theorem zipI_at (g : Int → Int → Int) (xs ys : List Int) (h : xs.length = ys.length) (k : Nat) (hk : k < xs.length) : (zipI g xs ys).getD k 0 = g (xs.getD k 0) (ys.getD k 0) := by
  induction xs generalizing ys k with
  | nil => simp at hk
  | cons x xs ih => cases ys with
    | nil => simp at h
    | cons y ys => cases k with
      | zero => simp [zipI]
      | succ k => have := ih ys (by simpa using h) k (by simpa using hk); simpa [zipI] using this

def OwnK (w wr : World) (n k : Nat) (zs : List Int) : Prop :=
  Below w.heap.size w wr ∧ w.heap.size < wr.heap.size ∧ (∀ i, i < n → (wr.cell? ⟨w.heap.size, i, none⟩).isSome = true ∧ wr.frozen? ⟨w.heap.size, i, none⟩ = false) ∧ (∀ i, i < k → wr.cell? ⟨w.heap.size, i, none⟩ = some (.int .i64 (zs.getD i 0)))

theorem OwnK.start (w : World) (n : Nat) (zs : List Int) : OwnK w (w.alloc (.cells (madeCells #[.int .i64 0] n) 3)) n 0 zs := by
  refine ⟨(Below.refl _ _).alloc (Nat.le_refl _) _, by simp, fun i hi => ⟨?_, by simp⟩, fun i hi => absurd hi (by omega)⟩
  simp [size_madeCells, hi]
theorem OwnK.drawn {w wr : World} {n k : Nat} {zs : List Int} (h : OwnK w wr n k zs) : OwnK w wr.drew n k zs :=
  ⟨h.1.drew, h.2.1, h.2.2.1, h.2.2.2⟩
theorem OwnK.step {w wr : World} {n k : Nat} {zs : List Int} (h : OwnK w wr n k zs) (hk : k < n) (v : Int) (hv : v = zs.getD k 0) : OwnK w (wr.setCell ⟨w.heap.size, k, none⟩ (.int .i64 v)) n (k + 1) zs := by
  obtain ⟨h1, h2, h3, h4⟩ := h
  subst hv
  have ne : ∀ i, ¬ i = k → (⟨w.heap.size, k, none⟩ : Addr) ≠ ⟨w.heap.size, i, none⟩ := fun i hi e => hi (by injection e with _ e2 _; exact e2.symm)
  refine ⟨h1.setCell (Nat.le_refl _) _, by simpa using h2, fun i hi => ?_, fun i hi => ?_⟩
  · by_cases e : i = k
    · subst e
      exact ⟨by rw [World.cell?_setCell_same' wr _ _ (h3 i hi).1]; rfl, by simpa using (h3 i hi).2⟩
    · rw [World.cell?_setCell_other (w := wr) (h := ne i e)]
      exact ⟨(h3 i hi).1, by simpa using (h3 i hi).2⟩
  · by_cases e : i = k
    · subst e
      rw [World.cell?_setCell_same' wr _ _ (h3 i hk).1]
    · rw [World.cell?_setCell_other (w := wr) (h := ne i e)]
      exact h4 i (by omega)
theorem Sl.empty (w : World) : Sl w (.slice none 0 0) [] := ⟨none, 0, rfl, fun h => absurd h (by simp)⟩
theorem OwnK.sl {w w' : World} {zs : List Int} (h : OwnK w w' zs.length zs.length zs) : Sl w' (.slice (some ⟨w.heap.size, 0, none⟩) zs.length zs.length) zs :=
  ⟨_, _, rfl, fun _ => ⟨_, _, rfl, h.2.1, fun i hi => by rw [Nat.zero_add]; exact h.2.2.2 i hi⟩⟩
def sameB (xs ys : List Int) : Bool := decide (xs = ys)
theorem take_same {xs ys : List Int} {k : Nat} (h : k < xs.length) (h2 : k < ys.length) (ht : xs.take k = ys.take k) (he : xs.getD k 0 = ys.getD k 0) : xs.take (k + 1) = ys.take (k + 1) := by
  rw [List.take_succ_eq_append_getElem h, List.take_succ_eq_append_getElem h2, ht]
  simp [List.getD_eq_getElem?_getD, h, h2] at he
  rw [he]

set_option maxHeartbeats 400000 in
theorem sameInts_any (x y : Value) (xs ys : List Int) (w : World) (hm : xs.length ≤ 3) (hs : Sl w x xs) (hs2 : Sl w y ys) :
    Calls Tryz.prog 76 #[x, y] w fun e w' => e = .returned (.bool (sameB xs ys)) ∧ ∃ n, w' = w.drewN n := by
  obtain ⟨a, cap, rfl, h1⟩ := hs
  obtain ⟨a2, cap2, rfl, h2⟩ := hs2
  by_cases hl : xs.length = ys.length
  · rw [← hl]
    by_cases h0 : xs.length = 0
    · have e1 : xs = [] := List.length_eq_zero_iff.1 h0
      have e2 : ys = [] := List.length_eq_zero_iff.1 (by omega)
      subst e1 e2
      clear h1 h2 hl h0
      go_enter Tryz.func76, Tryz.ntmps76
      go_wp2
      go_loop [5] (fun i => i = .int .i64 0) (fun _ => 0)
      case atStart => rfl
      case round =>
        subst hrel
        go_wp2
        go_ret
        exact ⟨rfl, 0, rfl⟩
    · obtain ⟨b, off, rfl, hlt, hc⟩ := h1 (by omega)
      obtain ⟨b2, off2, rfl, hlt2, hc2⟩ := h2 (by omega)
      have HC := hid hc
      have HC2 := hid hc2
      have HXY := hid hl
      clear h1 h2 hc hc2 hl h0
      go_enter Tryz.func76, Tryz.ntmps76
      go_wp2
      go_loopw [5] (fun i wr => ∃ k n : Nat, k ≤ xs.length ∧ i = .int .i64 k ∧ xs.take k = ys.take k ∧ wr = w.drewN n) (fun i _ => xs.length - (intOf i).toNat)
      case atStart => exact ⟨0, 0, Nat.zero_le _, rfl, rfl, rfl⟩
      case round =>
        obtain ⟨k, n0, hk, rfl, hn, hw0⟩ := hrel
        have HN := hid hn
        have HW := hid hw0
        clear hn hw0
        by_cases hk2 : k < xs.length
        · have hcell := HC.out k hk2
          have hcell2 := HC2.out k (by rw [← HXY.out]; exact hk2)
          have e1 : ∀ a, wr.cell? a = w.cell? a := fun a => by rw [HW.out]; rfl
          rw [← e1] at hcell hcell2
          clear e1
          have HT := hid (take_same hk2 (by rw [← HXY.out]; exact hk2) HN.out)
          have HF : Hid (¬ xs.getD k 0 = ys.getD k 0 → sameB xs ys = false) := by
            intro h
            unfold sameB
            apply decide_eq_false
            intro e; exact h (by rw [e])
          generalize xs.getD k 0 = u at hcell HT HF
          generalize ys.getD k 0 = t at hcell2 HT HF
          cases hy : (u != t)
          · go_wp2
            go_quiet (fail)
            go_wp2
            go_roundw
            case rel => exact ⟨k + 1, _, by omega, by go_num, HT.out (by simpa using hy), by rw [HW.out, World.drewN_drewN]⟩
            case measure => simp [intOf]; omega
          · go_wp2
            go_quiet (fail)
            go_wp2
            go_ret
            exact ⟨by rw [HF.out (by simpa using hy)]; rfl, _, by rw [HW.out, World.drewN_drewN]⟩
        · go_wp2
          go_ret
          refine ⟨?_, n0, HW.out⟩
          have := HN.out
          rw [List.take_of_length_le (by omega), List.take_of_length_le (by have := HXY.out; omega)] at this
          simp [sameB, this]
  · have he : sameB xs ys = false := by
      unfold sameB; apply decide_eq_false; intro e; exact hl (by rw [e])
    rw [he]
    have hl2 : ((xs.length : Int) != (ys.length : Int)) = true := by simp; omega
    clear he h1 h2 hl
    go_enter Tryz.func76, Tryz.ntmps76
    go_wp2
    go_ret
    exact ⟨rfl, 0, rfl⟩

set_option maxHeartbeats 400000 in
theorem xy_any (w : World) : Calls Tryz.prog 41 #[] w fun e w' => e = .returned (ringV 7 2 1 1) ∧ Below w.heap.size w w' := by
  go_enter Tryz.func41, Tryz.ntmps41
  go_wp2
  exact bodyPost_ret (v := ringV 7 2 1 1) (by simp [results, Tryz.results41, go_sem]) rfl ⟨rfl, (Below.refl _ _).alloc (Nat.le_refl _) _⟩
theorem Sl.new2 (w : World) (a b : Int) (T : TypeId) : Sl (w.alloc (.cells #[.int .i64 a, .int .i64 b] T)) (.slice (some ⟨w.heap.size, 0, none⟩) 2 2) [a, b] := by
  refine ⟨_, _, rfl, fun _ => ⟨_, _, rfl, by simp, fun i hi => ?_⟩⟩
  simp at hi
  rcases i with _ | _ | i
  · simp
  · simp
  · omega

theorem below_one {w : World} {A : Obj} : Below w.heap.size w (w.alloc A) := (Below.refl _ _).alloc (Nat.le_refl _) _
theorem cmpI_neg (a b : Int) : cmpI a b = - cmpI b a := by
  unfold cmpI; split <;> split <;> omega
theorem cmpI_vals (a b : Int) : cmpI a b = -1 ∧ a < b ∨ cmpI a b = 0 ∧ a = b ∨ cmpI a b = 1 ∧ b < a := by
  unfold cmpI; split
  · omega
  · split <;> omega
theorem cmpI_add (a b c : Int) : cmpI (a + c) (b + c) = cmpI a b := by
  have h1 := cmpI_vals a b
  have h2 := cmpI_vals (a + c) (b + c)
  omega

theorem lexC_neg : ∀ xs ys : List Int, lexC xs ys = - lexC ys xs
  | [], [] => by simp [lexC]
  | [], _ :: _ => by simp [lexC]
  | _ :: _, [] => by simp [lexC]
  | x :: xs, y :: ys => by
    simp only [lexC]
    have h1 := cmpI_neg x y
    have h2 := lexC_neg xs ys
    by_cases h : cmpI x y = 0
    · rw [if_pos h, if_pos (by omega)]; exact h2
    · rw [if_neg h, if_neg (by omega)]; exact h1
theorem lexC_bd : ∀ xs ys : List Int, -1 ≤ lexC xs ys ∧ lexC xs ys ≤ 1
  | [], [] => by simp [lexC]
  | [], _ :: _ => by simp [lexC]
  | _ :: _, [] => by simp [lexC]
  | x :: xs, y :: ys => by
    simp only [lexC]
    have h1 := cmpI_vals x y
    have h2 := lexC_bd xs ys
    by_cases h : cmpI x y = 0
    · rw [if_pos h]; exact h2
    · rw [if_neg h]; omega
theorem lexC_zero : ∀ xs ys : List Int, xs.length = ys.length → (lexC xs ys = 0 ↔ xs = ys)
  | [], [], _ => by simp [lexC]
  | [], _ :: _, h => by simp at h
  | _ :: _, [], h => by simp at h
  | x :: xs, y :: ys, hl => by
    simp only [lexC, List.cons.injEq]
    have h1 := cmpI_vals x y
    have h2 := lexC_zero xs ys (by simpa using hl)
    by_cases h : cmpI x y = 0
    · rw [if_pos h, h2]
      constructor
      · intro e; exact ⟨by omega, e⟩
      · intro e; exact e.2
    · rw [if_neg h]
      constructor
      · intro e; exact absurd e h
      · intro e; omega
theorem lexC_trans : ∀ xs ys zs : List Int, xs.length = ys.length → ys.length = zs.length → 0 < lexC xs ys → 0 < lexC ys zs → 0 < lexC xs zs
  | [], [], _, _, _, h, _ => by simp [lexC] at h
  | [], _ :: _, _, h, _, _, _ => by simp at h
  | _ :: _, [], _, h, _, _, _ => by simp at h
  | _ :: _, _ :: _, [], _, h, _, _ => by simp at h
  | x :: xs, y :: ys, z :: zs, h1, h2, h3, h4 => by
    simp only [lexC] at h3 h4 ⊢
    have hxy := cmpI_vals x y
    have hyz := cmpI_vals y z
    have hxz := cmpI_vals x z
    by_cases a : cmpI x y = 0
    · rw [if_pos a] at h3
      by_cases b : cmpI y z = 0
      · rw [if_pos b] at h4
        rw [if_pos (by omega)]
        exact lexC_trans xs ys zs (by simpa using h1) (by simpa using h2) h3 h4
      · rw [if_neg b] at h4
        rw [if_neg (by omega)]; omega
    · rw [if_neg a] at h3
      by_cases b : cmpI y z = 0
      · rw [if_neg (by omega)]; omega
      · rw [if_neg b] at h4
        rw [if_neg (by omega)]; omega
theorem lexC_add : ∀ xs ys zs : List Int, xs.length = ys.length → ys.length = zs.length → lexC (zipI (· + ·) xs zs) (zipI (· + ·) ys zs) = lexC xs ys
  | [], [], _, _, _ => by simp [lexC, zipI]
  | [], _ :: _, _, h, _ => by simp at h
  | _ :: _, [], _, h, _ => by simp at h
  | _ :: _, _ :: _, [], _, h => by simp at h
  | x :: xs, y :: ys, z :: zs, h1, h2 => by
    simp only [lexC, zipI]
    rw [cmpI_add, lexC_add xs ys zs (by simpa using h1) (by simpa using h2)]

theorem zipI_snoc (g : Int → Int → Int) : ∀ (xs ys : List Int) (x y : Int), xs.length = ys.length → zipI g (xs ++ [x]) (ys ++ [y]) = zipI g xs ys ++ [g x y]
  | [], [], _, _, _ => by simp [zipI]
  | [], _ :: _, _, _, h => by simp at h
  | _ :: _, [], _, _, h => by simp at h
  | a :: xs, b :: ys, x, y, h => by simp [zipI, zipI_snoc g xs ys x y (by simpa using h)]
theorem zipI_rev (g : Int → Int → Int) : ∀ (xs ys : List Int), xs.length = ys.length → (zipI g xs ys).reverse = zipI g xs.reverse ys.reverse
  | [], [], _ => by simp [zipI]
  | [], _ :: _, h => by simp at h
  | _ :: _, [], h => by simp at h
  | a :: xs, b :: ys, h => by
    simp only [zipI, List.reverse_cons]
    rw [zipI_snoc g _ _ _ _ (by simpa using h), zipI_rev g xs ys (by simpa using h)]
theorem sumI_zip : ∀ xs ys : List Int, xs.length = ys.length → sumI (zipI (· + ·) xs ys) = sumI xs + sumI ys
  | [], [], _ => by simp [sumI, zipI]
  | [], _ :: _, h => by simp at h
  | _ :: _, [], h => by simp at h
  | a :: xs, b :: ys, h => by
    simp only [zipI, sumI]
    rw [sumI_zip xs ys (by simpa using h)]; omega

theorem ordS_neg (o : Int) (xs ys : List Int) : ordS o xs ys = - ordS o ys xs := by
  unfold ordS revC
  have h1 := cmpI_neg (sumI xs) (sumI ys)
  by_cases h : cmpI (sumI xs) (sumI ys) = 0
  · have h' : cmpI (sumI ys) (sumI xs) = 0 := by omega
    rw [if_pos h, if_pos h']
    by_cases ho : o = 1
    · rw [if_pos ho, if_pos ho]; exact lexC_neg _ _
    · rw [if_neg ho, if_neg ho]; exact lexC_neg _ _
  · rw [if_neg h, if_neg (by omega)]; exact h1
theorem ordS_bd (o : Int) (xs ys : List Int) : -1 ≤ ordS o xs ys ∧ ordS o xs ys ≤ 1 := by
  unfold ordS revC
  have h1 := cmpI_vals (sumI xs) (sumI ys)
  by_cases h : cmpI (sumI xs) (sumI ys) = 0
  · rw [if_pos h]
    by_cases ho : o = 1
    · rw [if_pos ho]; exact lexC_bd _ _
    · rw [if_neg ho]; exact lexC_bd _ _
  · rw [if_neg h]; omega
theorem ordS_zero (o : Int) (xs ys : List Int) (hl : xs.length = ys.length) : (ordS o xs ys = 0) ↔ xs = ys := by
  unfold ordS revC
  have h1 := cmpI_vals (sumI xs) (sumI ys)
  by_cases h : cmpI (sumI xs) (sumI ys) = 0
  · rw [if_pos h]
    by_cases ho : o = 1
    · rw [if_pos ho, lexC_zero _ _ (by simp; omega)]
      constructor
      · intro e; have := congrArg List.reverse e; simpa using this.symm
      · intro e; rw [e]
    · rw [if_neg ho, lexC_zero _ _ hl]
  · rw [if_neg h]
    constructor
    · intro e; exact absurd e h
    · intro e; rw [e] at h1; rw [e] at h; omega
theorem ordS_trans (o : Int) (xs ys zs : List Int) (h1 : xs.length = ys.length) (h2 : ys.length = zs.length) (h3 : 0 < ordS o xs ys) (h4 : 0 < ordS o ys zs) : 0 < ordS o xs zs := by
  unfold ordS revC at *
  have hxy := cmpI_vals (sumI xs) (sumI ys)
  have hyz := cmpI_vals (sumI ys) (sumI zs)
  have hxz := cmpI_vals (sumI xs) (sumI zs)
  by_cases a : cmpI (sumI xs) (sumI ys) = 0
  · rw [if_pos a] at h3
    by_cases b : cmpI (sumI ys) (sumI zs) = 0
    · rw [if_pos b] at h4
      rw [if_pos (by omega)]
      by_cases ho : o = 1
      · rw [if_pos ho] at h3 h4 ⊢
        have k1 := lexC_neg ys.reverse xs.reverse
        have k2 := lexC_neg zs.reverse ys.reverse
        exact Int.not_le.1 (fun hn => by
          have k3 := lexC_neg zs.reverse xs.reverse
          have k4 := lexC_trans zs.reverse ys.reverse xs.reverse (by simp; omega) (by simp; omega) h4 h3
          omega)
      · rw [if_neg ho] at h3 h4 ⊢
        exact lexC_trans xs ys zs h1 h2 h3 h4
    · rw [if_neg b] at h4
      rw [if_neg (by omega)]; omega
  · rw [if_neg a] at h3
    by_cases b : cmpI (sumI ys) (sumI zs) = 0
    · rw [if_neg (by omega)]; omega
    · rw [if_neg b] at h4
      rw [if_neg (by omega)]; omega
theorem ordS_add (o : Int) (xs ys zs : List Int) (h1 : xs.length = ys.length) (h2 : ys.length = zs.length) : ordS o (zipI (· + ·) xs zs) (zipI (· + ·) ys zs) = ordS o xs ys := by
  unfold ordS revC
  rw [sumI_zip xs zs (by omega), sumI_zip ys zs h2, cmpI_add, zipI_rev _ xs zs (by omega), zipI_rev _ ys zs h2,
    lexC_add _ _ _ (by simp; omega) (by simp; omega), lexC_add xs ys zs h1 h2]

theorem mem_le_sum : ∀ xs : List Int, (∀ x ∈ xs, 0 ≤ x ∧ x ≤ 40000) → ∀ x ∈ xs, x ≤ sumI xs
  | [], _, x, hx => by simp at hx
  | y :: xs, h, x, hx => by
    have h1 := h y (by simp)
    have h2 := sumI_bd xs (fun z hz => h z (by simp [hz]))
    simp only [List.mem_cons] at hx
    simp only [sumI]
    rcases hx with rfl | hx
    · omega
    · have := mem_le_sum xs (fun z hz => h z (by simp [hz])) x hx; omega
theorem errM_mk {n : Int} {xs : List Int} (hl : (xs.length : Int) = n) (hb : ∀ x ∈ xs, 0 ≤ x ∧ x ≤ 40000) (hs : sumI xs ≤ 200) : errM n xs = 0 := by
  unfold errM
  rw [if_neg (by simp [hl])]
  have h2 : xs.any outB = false := by
    rw [List.any_eq_false]
    intro x hx
    have h1 := hb x hx
    have h3 := mem_le_sum xs hb x hx
    simp [outB]; omega
  rw [if_neg (by simp [h2]), if_neg (by omega)]
end Go.Proofs.YtilogbggilchaaaGreat
namespace Go.Proofs.YtilogbggilchaaaGreat
set_option linter.unusedSimpArgs false
set_option linter.unusedVariables false
abbrev Tm := Int × List Int
def ins (p o : Int) : List Tm → Tm → List Tm
  | [], t => [t]
  | u :: out, t => if 0 < ordS o u.2 t.2 then u :: ins p o out t else if u.2 = t.2 then ((u.1 + t.1) % p, u.2) :: out else t :: u :: out
def colL (p o : Int) (l : List Tm) : List Tm := (l.foldl (ins p o) []).filter fun t => t.1 % p != 0

def lin (φ : List Int → Int) : List Tm → Int
  | [] => 0
  | t :: ts => t.1 * φ t.2 + lin φ ts
theorem lin_append (φ : List Int → Int) : ∀ ts us : List Tm, lin φ (ts ++ us) = lin φ ts + lin φ us
  | [], us => by simp [lin]
  | t :: ts, us => by simp only [List.cons_append, lin]; rw [lin_append φ ts us]; omega
theorem modDvd (p x : Int) : p ∣ x % p - x := ⟨-(x / p), by rw [Int.emod_def]; grind⟩
theorem lin_ins (p o : Int) (φ : List Int → Int) (t : Tm) : ∀ out : List Tm, p ∣ lin φ (ins p o out t) - (lin φ out + t.1 * φ t.2)
  | [] => by simp [ins, lin]
  | u :: out => by
    simp only [ins]
    split
    · simp only [lin]
      have := lin_ins p o φ t out
      have e : u.1 * φ u.2 + lin φ (ins p o out t) - (u.1 * φ u.2 + lin φ out + t.1 * φ t.2) = lin φ (ins p o out t) - (lin φ out + t.1 * φ t.2) := by omega
      rw [e]; exact this
    · split
      · rename_i _ h
        simp only [lin]
        obtain ⟨k, hk⟩ := modDvd p (u.1 + t.1)
        rw [← h]
        exact ⟨k * φ u.2, by grind⟩
      · simp only [lin]
        exact ⟨0, by omega⟩
theorem lin_fold (p o : Int) (φ : List Int → Int) : ∀ (l out : List Tm), p ∣ lin φ (l.foldl (ins p o) out) - (lin φ out + lin φ l)
  | [], out => by simp [lin]
  | t :: l, out => by
    simp only [List.foldl_cons, lin]
    have h1 := lin_fold p o φ l (ins p o out t)
    have h2 := lin_ins p o φ t out
    have h3 := Int.dvd_add h1 h2
    have e : lin φ (l.foldl (ins p o) (ins p o out t)) - (lin φ (ins p o out t) + lin φ l) + (lin φ (ins p o out t) - (lin φ out + t.1 * φ t.2)) = lin φ (l.foldl (ins p o) (ins p o out t)) - (lin φ out + (t.1 * φ t.2 + lin φ l)) := by omega
    rw [e] at h3; exact h3
theorem lin_filter (p : Int) (φ : List Int → Int) : ∀ ts : List Tm, p ∣ lin φ (ts.filter fun t => t.1 % p != 0) - lin φ ts
  | [] => by simp [lin]
  | t :: ts => by
    have h := lin_filter p φ ts
    by_cases ht : t.1 % p = 0
    · have e : (t :: ts).filter (fun t => t.1 % p != 0) = ts.filter fun t => t.1 % p != 0 := by simp [List.filter_cons, ht]
      rw [e]
      simp only [lin]
      obtain ⟨k, hk⟩ := h
      obtain ⟨m, hm⟩ := Int.dvd_of_emod_eq_zero ht
      exact ⟨k - m * φ t.2, by grind⟩
    · have e : (t :: ts).filter (fun t => t.1 % p != 0) = t :: ts.filter fun t => t.1 % p != 0 := by simp [List.filter_cons, ht]
      rw [e]
      simp only [lin]
      have e2 : t.1 * φ t.2 + lin φ (ts.filter fun t => t.1 % p != 0) - (t.1 * φ t.2 + lin φ ts) = lin φ (ts.filter fun t => t.1 % p != 0) - lin φ ts := by omega
      rw [e2]; exact h
theorem lin_col (p o : Int) (φ : List Int → Int) (l : List Tm) : p ∣ lin φ (colL p o l) - lin φ l := by
  unfold colL
  have h1 := lin_filter p φ (l.foldl (ins p o) [])
  have h2 := lin_fold p o φ l []
  have h3 := Int.dvd_add h1 h2
  simp only [lin, Int.zero_add] at h3
  have e : ∀ a b c : Int, a - b + (b - c) = a - c := fun a b c => by omega
  rw [e] at h3; exact h3

def Falls (o : Int) : List Tm → Prop
  | [] => True
  | t :: ts => (∀ u ∈ ts, 0 < ordS o t.2 u.2) ∧ Falls o ts
def Len (n : Nat) (ts : List Tm) : Prop := ∀ t ∈ ts, t.2.length = n
theorem ins_mem {p o : Int} {t : Tm} : ∀ {out : List Tm} {x : Tm}, x ∈ ins p o out t → x.2 = t.2 ∨ ∃ u ∈ out, x.2 = u.2
  | [], x, h => by simp [ins] at h; exact Or.inl (by rw [h])
  | u :: out, x, h => by
    simp only [ins] at h
    split at h
    · simp only [List.mem_cons] at h
      rcases h with rfl | h
      · exact Or.inr ⟨x, by simp, rfl⟩
      · rcases ins_mem h with h | ⟨y, hy, h⟩
        · exact Or.inl h
        · exact Or.inr ⟨y, by simp [hy], h⟩
    · split at h
      · simp only [List.mem_cons] at h
        rcases h with rfl | h
        · exact Or.inr ⟨u, by simp, rfl⟩
        · exact Or.inr ⟨x, by simp [h], rfl⟩
      · simp only [List.mem_cons] at h
        rcases h with rfl | rfl | h
        · exact Or.inl rfl
        · exact Or.inr ⟨x, by simp, rfl⟩
        · exact Or.inr ⟨x, by simp [h], rfl⟩
theorem ins_len {p o : Int} {n : Nat} {t : Tm} {out : List Tm} (h : Len n out) (ht : t.2.length = n) : Len n (ins p o out t) := by
  intro x hx
  rcases ins_mem hx with h1 | ⟨u, hu, h1⟩
  · rw [h1]; exact ht
  · rw [h1]; exact h u hu
theorem ins_falls {p o : Int} {n : Nat} {t : Tm} (ht : t.2.length = n) : ∀ {out : List Tm}, Len n out → Falls o out → Falls o (ins p o out t)
  | [], _, _ => ⟨by simp, trivial⟩
  | u :: out, hl, ⟨h1, h2⟩ => by
    have hu : u.2.length = n := hl u (by simp)
    have hlo : Len n out := fun x hx => hl x (by simp [hx])
    simp only [ins]
    by_cases hm : 0 < ordS o u.2 t.2
    · rw [if_pos hm]
      refine ⟨fun x hx => ?_, ins_falls ht hlo h2⟩
      rcases ins_mem hx with h | ⟨y, hy, h⟩
      · rw [h]; exact hm
      · rw [h]; exact h1 y hy
    · rw [if_neg hm]
      by_cases he : u.2 = t.2
      · rw [if_pos he]; exact ⟨h1, h2⟩
      · rw [if_neg he]
        have hz := ordS_zero o u.2 t.2 (by omega)
        have hneg := ordS_neg o u.2 t.2
        have htu : 0 < ordS o t.2 u.2 := by
          have : ordS o u.2 t.2 ≠ 0 := fun e => he (hz.1 e)
          omega
        refine ⟨fun x hx => ?_, h1, h2⟩
        simp only [List.mem_cons] at hx
        rcases hx with rfl | hx
        · exact htu
        · exact ordS_trans o t.2 u.2 x.2 (by omega) (by rw [hlo x hx]; exact hu) htu (h1 x hx)
theorem fold_falls {p o : Int} {n : Nat} : ∀ (l out : List Tm), Len n l → Len n out → Falls o out → Len n (l.foldl (ins p o) out) ∧ Falls o (l.foldl (ins p o) out)
  | [], out, _, ho, hf => ⟨ho, hf⟩
  | t :: l, out, hl, ho, hf => fold_falls l (ins p o out t) (fun x hx => hl x (by simp [hx])) (ins_len ho (hl t (by simp))) (ins_falls (hl t (by simp)) ho hf)
theorem falls_filter {o : Int} (f : Tm → Bool) : ∀ {ts : List Tm}, Falls o ts → Falls o (ts.filter f)
  | [], _ => trivial
  | t :: ts, ⟨h1, h2⟩ => by
    simp only [List.filter_cons]
    split
    · exact ⟨fun u hu => h1 u (List.mem_filter.1 hu).1, falls_filter f h2⟩
    · exact falls_filter f h2
theorem ins_range {p o : Int} (hp : 2 ≤ p) {t : Tm} (ht : 0 ≤ t.1 ∧ t.1 < p) : ∀ {out : List Tm}, (∀ u ∈ out, 0 ≤ u.1 ∧ u.1 < p) → ∀ x ∈ ins p o out t, 0 ≤ x.1 ∧ x.1 < p
  | [], _, x, hx => by simp [ins] at hx; rw [hx]; exact ht
  | u :: out, h, x, hx => by
    simp only [ins] at hx
    split at hx
    · simp only [List.mem_cons] at hx
      rcases hx with rfl | hx
      · exact h x (by simp)
      · exact ins_range hp ht (fun y hy => h y (by simp [hy])) x hx
    · split at hx
      · simp only [List.mem_cons] at hx
        rcases hx with rfl | hx
        · exact ⟨Int.emod_nonneg _ (by omega), Int.emod_lt_of_pos _ (by omega)⟩
        · exact h x (by simp [hx])
      · simp only [List.mem_cons] at hx
        rcases hx with rfl | rfl | hx
        · exact ht
        · exact h x (by simp)
        · exact h x (by simp [hx])
theorem fold_range {p o : Int} (hp : 2 ≤ p) : ∀ (l out : List Tm), (∀ u ∈ l, 0 ≤ u.1 ∧ u.1 < p) → (∀ u ∈ out, 0 ≤ u.1 ∧ u.1 < p) → ∀ x ∈ l.foldl (ins p o) out, 0 ≤ x.1 ∧ x.1 < p
  | [], out, _, ho => ho
  | t :: l, out, hl, ho => fold_range hp l (ins p o out t) (fun x hx => hl x (by simp [hx])) (ins_range hp (hl t (by simp)) ho)

structure Canon (p o : Int) (n : Nat) (ts : List Tm) : Prop where
  len : Len n ts
  falls : Falls o ts
  coef : ∀ t ∈ ts, 1 ≤ t.1 ∧ t.1 < p
theorem col_canon {p o : Int} {n : Nat} (hp : 2 ≤ p) {l : List Tm} (hl : Len n l) (hc : ∀ t ∈ l, 0 ≤ t.1 ∧ t.1 < p) : Canon p o n (colL p o l) := by
  have h := fold_falls (p := p) (o := o) (n := n) l [] hl (fun x hx => by simp at hx) trivial
  have hr := fold_range (o := o) hp l [] hc (fun x hx => by simp at hx)
  refine ⟨fun t ht => h.1 t (List.mem_filter.1 ht).1, falls_filter _ h.2, fun t ht => ?_⟩
  unfold colL at ht
  rw [List.mem_filter] at ht
  have h1 := hr t ht.1
  have h2 : t.1 % p ≠ 0 := by simpa using ht.2
  have h3 : t.1 ≠ 0 := fun e => h2 (by rw [e]; simp)
  omega

def delta (e : List Int) : List Int → Int := fun x => if x = e then 1 else 0
theorem lin_delta_none {e : List Int} : ∀ {ts : List Tm}, (∀ t ∈ ts, t.2 ≠ e) → lin (delta e) ts = 0
  | [], _ => rfl
  | t :: ts, h => by
    simp only [lin]
    rw [lin_delta_none (fun u hu => h u (by simp [hu]))]
    unfold delta
    rw [if_neg (h t (by simp))]; simp
theorem falls_ne {o : Int} {n : Nat} {t : Tm} {ts : List Tm} (hl : Len n (t :: ts)) (hf : Falls o (t :: ts)) : ∀ u ∈ ts, u.2 ≠ t.2 := by
  intro u hu e
  have h1 := hf.1 u hu
  have := (ordS_zero o t.2 u.2 (by rw [hl t (by simp), hl u (by simp [hu])])).2 e.symm
  omega
theorem lin_delta_head {o : Int} {n : Nat} {t : Tm} {ts : List Tm} (hl : Len n (t :: ts)) (hf : Falls o (t :: ts)) : lin (delta t.2) (t :: ts) = t.1 := by
  show t.1 * delta t.2 t.2 + lin (delta t.2) ts = t.1
  rw [lin_delta_none (falls_ne hl hf)]
  unfold delta; rw [if_pos rfl]; omega
theorem dvd_neg {p a : Int} (h : p ∣ 0 - a) : p ∣ a := by
  obtain ⟨k, hk⟩ := h
  exact ⟨-k, by rw [Int.mul_neg, ← hk]; omega⟩
theorem dvd_sub0 {p a : Int} (h : p ∣ a - 0) : p ∣ a := by rwa [Int.sub_zero] at h
theorem canon_uniq {p o : Int} {n : Nat} (hp : 2 ≤ p) : ∀ (ts us : List Tm), Canon p o n ts → Canon p o n us → (∀ e, p ∣ lin (delta e) ts - lin (delta e) us) → ts = us
  | [], [], _, _, _ => rfl
  | [], u :: us, _, hu, h => by
    have h1 := h u.2
    rw [lin_delta_head hu.len hu.falls] at h1
    have h2 := hu.coef u (by simp)
    have := Int.le_of_dvd (by omega) (dvd_neg h1)
    omega
  | t :: ts, [], ht, _, h => by
    have h1 := h t.2
    rw [lin_delta_head ht.len ht.falls] at h1
    have h2 := ht.coef t (by simp)
    have := Int.le_of_dvd (by omega) (dvd_sub0 h1)
    omega
  | t :: ts, u :: us, ht, hu, h => by
    have tc := ht.coef t (by simp)
    have uc := hu.coef u (by simp)
    have tl := ht.len t (by simp)
    have ul := hu.len u (by simp)
    have hts : Canon p o n ts := ⟨fun x hx => ht.len x (by simp [hx]), ht.falls.2, fun x hx => ht.coef x (by simp [hx])⟩
    have hus : Canon p o n us := ⟨fun x hx => hu.len x (by simp [hx]), hu.falls.2, fun x hx => hu.coef x (by simp [hx])⟩
    have hsame : t.2 = u.2 := by
      apply Classical.byContradiction
      intro hne
      have hz := ordS_zero o t.2 u.2 (by omega)
      have hg := ordS_neg o t.2 u.2
      have hnz : ordS o t.2 u.2 ≠ 0 := fun e => hne (hz.1 e)
      by_cases hlt : 0 < ordS o t.2 u.2
      · have h1 := h t.2
        have hn : ∀ x ∈ u :: us, x.2 ≠ t.2 := by
          intro x hx e
          simp only [List.mem_cons] at hx
          rcases hx with rfl | hx
          · exact hne e.symm
          · have h2 := hu.falls.1 x hx
            have h3 := ordS_trans o t.2 u.2 x.2 (by omega) (by rw [ul, hu.len x (by simp [hx])]) hlt h2
            have h4 := (ordS_zero o t.2 x.2 (by rw [tl, hu.len x (by simp [hx])])).2 e.symm
            omega
        rw [lin_delta_none hn, lin_delta_head ht.len ht.falls] at h1
        have := Int.le_of_dvd (by omega) (dvd_sub0 h1)
        omega
      · have hlt2 : 0 < ordS o u.2 t.2 := by omega
        have h1 := h u.2
        have hn : ∀ x ∈ t :: ts, x.2 ≠ u.2 := by
          intro x hx e
          simp only [List.mem_cons] at hx
          rcases hx with rfl | hx
          · exact hne e
          · have h2 := ht.falls.1 x hx
            have h3 := ordS_trans o u.2 t.2 x.2 (by omega) (by rw [tl, ht.len x (by simp [hx])]) hlt2 h2
            have h4 := (ordS_zero o u.2 x.2 (by rw [ul, ht.len x (by simp [hx])])).2 e.symm
            omega
        rw [lin_delta_none hn, lin_delta_head hu.len hu.falls] at h1
        have := Int.le_of_dvd (by omega) (dvd_neg h1)
        omega
    have hcoef : t.1 = u.1 := by
      have h2 := h t.2
      rw [lin_delta_head ht.len ht.falls, hsame, lin_delta_head hu.len hu.falls] at h2
      by_cases hd : t.1 - u.1 = 0
      · omega
      · by_cases hd2 : 0 < t.1 - u.1
        · have := Int.le_of_dvd hd2 h2; omega
        · have h3 : p ∣ u.1 - t.1 := by
            obtain ⟨k, hk⟩ := h2
            exact ⟨-k, by rw [Int.mul_neg, ← hk]; omega⟩
          have := Int.le_of_dvd (by omega) h3; omega
    have htu : t = u := Prod.ext hcoef hsame
    subst htu
    congr 1
    refine canon_uniq hp ts us hts hus (fun e => ?_)
    have h1 := h e
    simp only [lin] at h1
    have e2 : t.1 * delta e t.2 + lin (delta e) ts - (t.1 * delta e t.2 + lin (delta e) us) = lin (delta e) ts - lin (delta e) us := by omega
    rwa [e2] at h1
theorem col_of_canon {p o : Int} {n : Nat} (hp : 2 ≤ p) {l ts : List Tm} (hl : Len n l) (hc : ∀ t ∈ l, 0 ≤ t.1 ∧ t.1 < p) (ht : Canon p o n ts) (h : ∀ φ, p ∣ lin φ ts - lin φ l) : ts = colL p o l := by
  refine canon_uniq hp ts (colL p o l) ht (col_canon hp hl hc) (fun e => ?_)
  obtain ⟨a, ha⟩ := h (delta e)
  obtain ⟨b, hb⟩ := lin_col p o (delta e) l
  exact ⟨a - b, by rw [Int.mul_sub, ← ha, ← hb]; omega⟩

def prodT (p : Int) (t : Tm) (g : List Tm) : List Tm := g.map fun u => (t.1 * u.1 % p, zipI (· + ·) t.2 u.2)
def prodL (p : Int) (f g : List Tm) : List Tm := f.flatMap fun t => prodT p t g
theorem lin_prodT (p : Int) (φ : List Int → Int) (t : Tm) : ∀ g : List Tm, p ∣ lin φ (prodT p t g) - t.1 * lin (fun b => φ (zipI (· + ·) t.2 b)) g
  | [] => by simp [prodT, lin]
  | u :: g => by
    have h := lin_prodT p φ t g
    have e : prodT p t (u :: g) = (t.1 * u.1 % p, zipI (· + ·) t.2 u.2) :: prodT p t g := rfl
    rw [e]
    simp only [lin]
    obtain ⟨k, hk⟩ := h
    obtain ⟨m, hm⟩ := modDvd p (t.1 * u.1)
    exact ⟨k + m * φ (zipI (· + ·) t.2 u.2), by grind⟩
theorem lin_prod (p : Int) (φ : List Int → Int) (g : List Tm) : ∀ f : List Tm, p ∣ lin φ (prodL p f g) - lin (fun a => lin (fun b => φ (zipI (· + ·) a b)) g) f
  | [] => by simp [prodL, lin]
  | t :: f => by
    have h := lin_prod p φ g f
    have e : prodL p (t :: f) g = prodT p t g ++ prodL p f g := rfl
    rw [e, lin_append]
    simp only [lin]
    have h2 := lin_prodT p φ t g
    have h3 := Int.dvd_add h2 h
    have e2 : ∀ a b c d : Int, a - b + (c - d) = a + c - (b + d) := fun a b c d => by omega
    rw [e2] at h3; exact h3
theorem lin_zero (f : List Tm) : lin (fun _ => 0) f = 0 := by
  induction f with
  | nil => rfl
  | cons t f ih => simp only [lin]; rw [ih]; simp
theorem lin_add (φ ψ : List Int → Int) (f : List Tm) : lin (fun a => φ a + ψ a) f = lin φ f + lin ψ f := by
  induction f with
  | nil => rfl
  | cons t f ih => simp only [lin]; rw [ih]; grind
theorem lin_smul (c : Int) (φ : List Int → Int) (f : List Tm) : lin (fun a => c * φ a) f = c * lin φ f := by
  induction f with
  | nil => simp [lin]
  | cons t f ih => simp only [lin]; rw [ih]; grind
theorem lin_swap (F : List Int → List Int → Int) (f g : List Tm) : lin (fun a => lin (fun b => F a b) g) f = lin (fun b => lin (fun a => F a b) f) g := by
  induction g with
  | nil => simp only [lin]; exact lin_zero f
  | cons u g ih =>
    simp only [lin]
    rw [lin_add, ih, lin_smul]
theorem zip_comm : ∀ a b : List Int, zipI (· + ·) a b = zipI (· + ·) b a
  | [], [] => rfl
  | [], _ :: _ => rfl
  | _ :: _, [] => rfl
  | x :: a, y :: b => by simp only [zipI]; rw [zip_comm a b, Int.add_comm]
theorem lin_congr {φ ψ : List Int → Int} {f : List Tm} (h : ∀ t ∈ f, φ t.2 = ψ t.2) : lin φ f = lin ψ f := by
  induction f with
  | nil => rfl
  | cons t f ih => simp only [lin]; rw [h t (by simp), ih (fun u hu => h u (by simp [hu]))]
end Go.Proofs.YtilogbggilchaaaGreat
namespace Go.Proofs.YtilogbggilchaaaGreat
set_option linter.unusedSimpArgs false
set_option linter.unusedVariables false
open Go.RowKit
def noT : Tm := (0, [])
def TmsAt (w : World) (b off : Nat) (ts : List Tm) : Prop :=
  ∀ i, i < ts.length → w.cell? ⟨b, off + i * 2, none⟩ = some (.int .i64 (ts.getD i noT).1) ∧ ∃ v, w.cell? ⟨b, off + i * 2 + 1, none⟩ = some v ∧ Sl w v (ts.getD i noT).2
theorem TmsAt.below {w w' : World} {b off : Nat} {ts : List Tm} (h : TmsAt w b off ts) (hlt : b < w.heap.size) (hb : Below w.heap.size w w') : TmsAt w' b off ts := by
  intro i hi
  obtain ⟨h1, v, h2, h3⟩ := h i hi
  exact ⟨by rw [hb.cell (p := ⟨b, off + i * 2, none⟩) hlt]; exact h1, v, by rw [hb.cell (p := ⟨b, off + i * 2 + 1, none⟩) hlt]; exact h2, h3.below hb⟩
def Pl (w : World) (v : Value) (ts : List Tm) : Prop :=
  ∃ a cap, v = .slice a ts.length cap ∧ ts.length ≤ cap ∧ (0 < ts.length → ∃ b off, a = some ⟨b, off, none⟩ ∧ b < w.heap.size ∧ TmsAt w b off ts)
theorem Pl.below {w w' : World} {v : Value} {ts : List Tm} (h : Pl w v ts) (hb : Below w.heap.size w w') : Pl w' v ts := by
  obtain ⟨a, cap, rfl, hcap, h⟩ := h
  refine ⟨a, cap, rfl, hcap, fun hp => ?_⟩
  obtain ⟨b, off, rfl, hlt, hc⟩ := h hp
  exact ⟨b, off, rfl, Nat.lt_of_lt_of_le hlt hb.size, hc.below hlt hb⟩
theorem Pl.empty (w : World) : Pl w (.slice none 0 0) [] := ⟨none, 0, rfl, Nat.le_refl _, fun h => absurd h (by simp)⟩
def PlsAt (w : World) (b off : Nat) (fs : List (List Tm)) : Prop :=
  ∀ i, i < fs.length → ∃ v, w.cell? ⟨b, off + i, none⟩ = some v ∧ Pl w v (fs.getD i [])
theorem PlsAt.below {w w' : World} {b off : Nat} {fs : List (List Tm)} (h : PlsAt w b off fs) (hlt : b < w.heap.size) (hb : Below w.heap.size w w') : PlsAt w' b off fs := by
  intro i hi
  obtain ⟨v, hc, hs⟩ := h i hi
  exact ⟨v, by rw [hb.cell (p := ⟨b, off + i, none⟩) hlt]; exact hc, hs.below hb⟩
def Vl (w : World) (v : Value) (fs : List (List Tm)) : Prop :=
  ∃ a cap, v = .slice a fs.length cap ∧ (0 < fs.length → ∃ b off, a = some ⟨b, off, none⟩ ∧ b < w.heap.size ∧ PlsAt w b off fs)
theorem Vl.below {w w' : World} {v : Value} {fs : List (List Tm)} (h : Vl w v fs) (hb : Below w.heap.size w w') : Vl w' v fs := by
  obtain ⟨a, cap, rfl, h⟩ := h
  refine ⟨a, cap, rfl, fun hp => ?_⟩
  obtain ⟨b, off, rfl, hlt, hc⟩ := h hp
  exact ⟨b, off, rfl, Nat.lt_of_lt_of_le hlt hb.size, hc.below hlt hb⟩
end Go.Proofs.YtilogbggilchaaaGreat
namespace Go.Proofs.YtilogbggilchaaaGreat
set_option linter.unusedSimpArgs false
set_option linter.unusedVariables false
def Same (p : Int) (l m : List Tm) : Prop := ∀ φ, p ∣ lin φ l - lin φ m
theorem Same.refl (p : Int) (l : List Tm) : Same p l l := fun φ => ⟨0, by omega⟩
theorem Same.symm {p : Int} {l m : List Tm} (h : Same p l m) : Same p m l := fun φ => by
  obtain ⟨k, hk⟩ := h φ
  exact ⟨-k, by rw [Int.mul_neg, ← hk]; omega⟩
theorem Same.trans {p : Int} {l m k : List Tm} (h : Same p l m) (h2 : Same p m k) : Same p l k := fun φ => by
  obtain ⟨a, ha⟩ := h φ
  obtain ⟨b, hb⟩ := h2 φ
  exact ⟨a + b, by rw [Int.mul_add, ← ha, ← hb]; omega⟩
theorem Same.append {p : Int} {l m l2 m2 : List Tm} (h : Same p l m) (h2 : Same p l2 m2) : Same p (l ++ l2) (m ++ m2) := fun φ => by
  obtain ⟨a, ha⟩ := h φ
  obtain ⟨b, hb⟩ := h2 φ
  exact ⟨a + b, by rw [lin_append, lin_append, Int.mul_add, ← ha, ← hb]; omega⟩
theorem same_col (p o : Int) (l : List Tm) : Same p (colL p o l) l := fun φ => lin_col p o φ l
theorem lin_dvd {p : Int} {φ ψ : List Int → Int} : ∀ {f : List Tm}, (∀ t ∈ f, p ∣ φ t.2 - ψ t.2) → p ∣ lin φ f - lin ψ f
  | [], _ => ⟨0, by simp [lin]⟩
  | t :: f, h => by
    obtain ⟨a, ha⟩ := h t (by simp)
    obtain ⟨b, hb⟩ := lin_dvd (f := f) (fun u hu => h u (by simp [hu]))
    simp only [lin]
    exact ⟨t.1 * a + b, by grind⟩
theorem Same.prodR {p : Int} (f : List Tm) {g h : List Tm} (hs : Same p g h) : Same p (prodL p f g) (prodL p f h) := fun φ => by
  obtain ⟨a, ha⟩ := lin_prod p φ g f
  obtain ⟨b, hb⟩ := lin_prod p φ h f
  obtain ⟨c, hc⟩ := lin_dvd (p := p) (f := f) (φ := fun x => lin (fun b => φ (zipI (· + ·) x b)) g) (ψ := fun x => lin (fun b => φ (zipI (· + ·) x b)) h) (fun t _ => hs _)
  exact ⟨a + c - b, by grind⟩
theorem same_swap (p : Int) (f g : List Tm) : Same p (prodL p f g) (prodL p g f) := fun φ => by
  obtain ⟨a, ha⟩ := lin_prod p φ g f
  obtain ⟨b, hb⟩ := lin_prod p φ f g
  have e : lin (fun x => lin (fun y => φ (zipI (· + ·) x y)) g) f = lin (fun x => lin (fun y => φ (zipI (· + ·) x y)) f) g := by
    rw [lin_swap]
    refine lin_congr (fun t _ => lin_congr (fun u _ => ?_))
    rw [zip_comm]
  exact ⟨a - b, by rw [Int.mul_sub, ← ha, ← hb, e]; omega⟩
theorem Same.prodL {p : Int} {f g : List Tm} (h : List Tm) (hs : Same p f g) : Same p (prodL p f h) (prodL p g h) :=
  (same_swap p f h).trans ((Same.prodR h hs).trans (same_swap p h g))
theorem prodL_append (p : Int) (f g h : List Tm) : prodL p (f ++ g) h = prodL p f h ++ prodL p g h := by
  unfold Go.Proofs.YtilogbggilchaaaGreat.prodL
  rw [List.flatMap_append]

structure Okl (p : Int) (n : Nat) (l : List Tm) : Prop where
  len : Len n l
  coef : ∀ t ∈ l, 0 ≤ t.1 ∧ t.1 < p
theorem Canon.okl {p o : Int} {n : Nat} {ts : List Tm} (h : Canon p o n ts) : Okl p n ts := ⟨h.len, fun t ht => by have := h.coef t ht; omega⟩
theorem Okl.append {p : Int} {n : Nat} {l m : List Tm} (h : Okl p n l) (h2 : Okl p n m) : Okl p n (l ++ m) :=
  ⟨fun t ht => (List.mem_append.1 ht).elim (h.len t) (h2.len t), fun t ht => (List.mem_append.1 ht).elim (h.coef t) (h2.coef t)⟩
theorem Okl.prod {p : Int} {n : Nat} {l m : List Tm} (hp : 2 ≤ p) (h : Okl p n l) (h2 : Okl p n m) : Okl p n (prodL p l m) := by
  constructor
  · intro t ht
    simp only [Go.Proofs.YtilogbggilchaaaGreat.prodL, prodT, List.mem_flatMap, List.mem_map] at ht
    obtain ⟨a, ha, b, hb, rfl⟩ := ht
    simp only
    rw [zipI_len _ _ _ (by rw [h.len a ha, h2.len b hb]), h.len a ha]
  · intro t ht
    simp only [Go.Proofs.YtilogbggilchaaaGreat.prodL, prodT, List.mem_flatMap, List.mem_map] at ht
    obtain ⟨a, ha, b, hb, rfl⟩ := ht
    exact ⟨Int.emod_nonneg _ (by omega), Int.emod_lt_of_pos _ (by omega)⟩
theorem Okl.col {p o : Int} {n : Nat} {l : List Tm} (hp : 2 ≤ p) (h : Okl p n l) : Canon p o n (colL p o l) := col_canon hp h.len h.coef
theorem Same.col {p o : Int} {n : Nat} {l m : List Tm} (hp : 2 ≤ p) (hl : Okl p n l) (hm : Okl p n m) (h : Same p l m) : colL p o l = colL p o m :=
  col_of_canon hp hm.len hm.coef (hl.col hp) ((same_col p o l).trans h)
theorem Same.canon {p o : Int} {n : Nat} {l m : List Tm} (hp : 2 ≤ p) (hl : Canon p o n l) (hm : Canon p o n m) (h : Same p l m) : l = m :=
  canon_uniq hp l m hl hm (fun e => h (delta e))

theorem mul_swap {p o : Int} {n : Nat} {f g : List Tm} (hp : 2 ≤ p) (hf : Okl p n f) (hg : Okl p n g) : colL p o (prodL p f g) = colL p o (prodL p g f) :=
  Same.col hp (hf.prod hp hg) (hg.prod hp hf) (same_swap p f g)
theorem mul_add {p o : Int} {n : Nat} {f g h : List Tm} (hp : 2 ≤ p) (hf : Okl p n f) (hg : Okl p n g) (hh : Okl p n h) :
    colL p o (colL p o (prodL p f h) ++ colL p o (prodL p g h)) = colL p o (prodL p (colL p o (f ++ g)) h) := by
  refine Same.col hp (((hf.prod hp hh).col hp (o := o)).okl.append ((hg.prod hp hh).col hp (o := o)).okl) (((hf.append hg).col hp (o := o)).okl.prod hp hh) ?_
  refine ((same_col p o _).append (same_col p o _)).trans ?_
  rw [← prodL_append]
  exact Same.prodL h (same_col p o _).symm
def mergeL (p o : Int) : List Tm → List Tm → List Tm
  | [], g => g
  | t :: f, [] => t :: f
  | t :: f, u :: g =>
    if 0 < ordS o t.2 u.2 then t :: mergeL p o f (u :: g)
    else if ordS o t.2 u.2 < 0 then u :: mergeL p o (t :: f) g
    else if (t.1 + u.1) % p ≠ 0 then ((t.1 + u.1) % p, t.2) :: mergeL p o f g else mergeL p o f g
theorem merge_nilL (p o : Int) (g : List Tm) : mergeL p o [] g = g := by unfold mergeL; rfl
theorem merge_nilR (p o : Int) (f : List Tm) : mergeL p o f [] = f := by cases f <;> (unfold mergeL; rfl)
theorem merge_gt {p o : Int} {t u : Tm} {f g : List Tm} (h : 0 < ordS o t.2 u.2) : mergeL p o (t :: f) (u :: g) = t :: mergeL p o f (u :: g) := by
  rw [mergeL.eq_def]; simp [h]
theorem merge_lt {p o : Int} {t u : Tm} {f g : List Tm} (h : ordS o t.2 u.2 < 0) : mergeL p o (t :: f) (u :: g) = u :: mergeL p o (t :: f) g := by
  rw [mergeL.eq_def]; simp [h, show ¬ 0 < ordS o t.2 u.2 by omega]
theorem merge_eq {p o : Int} {t u : Tm} {f g : List Tm} (h : ordS o t.2 u.2 = 0) (h2 : (t.1 + u.1) % p ≠ 0) : mergeL p o (t :: f) (u :: g) = ((t.1 + u.1) % p, t.2) :: mergeL p o f g := by
  rw [mergeL.eq_def]; simp [h, h2]
theorem merge_no {p o : Int} {t u : Tm} {f g : List Tm} (h : ordS o t.2 u.2 = 0) (h2 : (t.1 + u.1) % p = 0) : mergeL p o (t :: f) (u :: g) = mergeL p o f g := by
  rw [mergeL.eq_def]; simp [h, h2]

theorem merge_ind {o : Int} (P : List Tm → List Tm → Prop) (hl : ∀ g, P [] g) (hr : ∀ f, P f [])
    (h1 : ∀ t f u g, 0 < ordS o t.2 u.2 → P f (u :: g) → P (t :: f) (u :: g)) (h2 : ∀ t f u g, ordS o t.2 u.2 < 0 → P (t :: f) g → P (t :: f) (u :: g))
    (h3 : ∀ t f u g, ordS o t.2 u.2 = 0 → P f g → P (t :: f) (u :: g)) : ∀ (k : Nat) (f g : List Tm), f.length + g.length ≤ k → P f g
  | _, [], g, _ => hl g
  | _, t :: f, [], _ => hr _
  | 0, t :: f, u :: g, h => by simp at h
  | k + 1, t :: f, u :: g, h => by
    simp only [List.length_cons] at h
    by_cases a : 0 < ordS o t.2 u.2
    · exact h1 t f u g a (merge_ind P hl hr h1 h2 h3 k f (u :: g) (by simp only [List.length_cons]; omega))
    · by_cases b : ordS o t.2 u.2 < 0
      · exact h2 t f u g b (merge_ind P hl hr h1 h2 h3 k (t :: f) g (by simp only [List.length_cons]; omega))
      · exact h3 t f u g (by omega) (merge_ind P hl hr h1 h2 h3 k f g (by omega))

theorem merge_mem {p o : Int} (f g : List Tm) : ∀ x ∈ mergeL p o f g, ∃ t ∈ f ++ g, x.2 = t.2 := by
  refine merge_ind (o := o) (P := fun f g => ∀ x ∈ mergeL p o f g, ∃ t ∈ f ++ g, x.2 = t.2) ?_ ?_ ?_ ?_ ?_ _ f g (Nat.le_refl _)
  · intro g x hx; rw [merge_nilL] at hx; exact ⟨x, by simpa using hx, rfl⟩
  · intro f x hx; rw [merge_nilR] at hx; exact ⟨x, by simpa using hx, rfl⟩
  · intro t f u g h ih x hx
    rw [merge_gt h] at hx
    rcases List.mem_cons.1 hx with rfl | hx
    · exact ⟨x, by simp, rfl⟩
    · obtain ⟨y, hy, e⟩ := ih x hx; exact ⟨y, by simp at hy ⊢; grind, e⟩
  · intro t f u g h ih x hx
    rw [merge_lt h] at hx
    rcases List.mem_cons.1 hx with rfl | hx
    · exact ⟨x, by simp, rfl⟩
    · obtain ⟨y, hy, e⟩ := ih x hx; exact ⟨y, by simp at hy ⊢; grind, e⟩
  · intro t f u g h ih x hx
    by_cases hz : (t.1 + u.1) % p = 0
    · rw [merge_no h hz] at hx
      obtain ⟨y, hy, e⟩ := ih x hx; exact ⟨y, by simp at hy ⊢; grind, e⟩
    · rw [merge_eq h hz] at hx
      rcases List.mem_cons.1 hx with rfl | hx
      · exact ⟨t, by simp, rfl⟩
      · obtain ⟨y, hy, e⟩ := ih x hx; exact ⟨y, by simp at hy ⊢; grind, e⟩
theorem merge_length {p o : Int} (f g : List Tm) : (mergeL p o f g).length ≤ f.length + g.length := by
  refine merge_ind (o := o) (P := fun f g => (mergeL p o f g).length ≤ f.length + g.length) ?_ ?_ ?_ ?_ ?_ _ f g (Nat.le_refl _)
  · intro g; rw [merge_nilL]; simp
  · intro f; rw [merge_nilR]; simp
  · intro t f u g h ih; rw [merge_gt h]; simp only [List.length_cons] at ih ⊢; omega
  · intro t f u g h ih; rw [merge_lt h]; simp only [List.length_cons] at ih ⊢; omega
  · intro t f u g h ih
    by_cases hz : (t.1 + u.1) % p = 0
    · rw [merge_no h hz]; simp only [List.length_cons]; omega
    · rw [merge_eq h hz]; simp only [List.length_cons]; omega
theorem merge_same {p o : Int} {n : Nat} (f g : List Tm) (hf : Len n f) (hg : Len n g) : Same p (mergeL p o f g) (f ++ g) := by
  intro φ
  rw [lin_append]
  revert hf hg
  refine merge_ind (o := o) (P := fun f g => Len n f → Len n g → p ∣ lin φ (mergeL p o f g) - (lin φ f + lin φ g)) ?_ ?_ ?_ ?_ ?_ _ f g (Nat.le_refl _)
  · intro g _ _; rw [merge_nilL]; simp [lin]
  · intro f _ _; rw [merge_nilR]; simp [lin]
  · intro t f u g h ih hf hg; rw [merge_gt h]; simp only [lin] at ih ⊢
    obtain ⟨k, hk⟩ := ih (fun x hx => hf x (by simp [hx])) hg
    exact ⟨k, by omega⟩
  · intro t f u g h ih hf hg; rw [merge_lt h]; simp only [lin] at ih ⊢
    obtain ⟨k, hk⟩ := ih hf (fun x hx => hg x (by simp [hx]))
    exact ⟨k, by omega⟩
  · intro t f u g h ih hf hg
    have e : t.2 = u.2 := (ordS_zero o t.2 u.2 (by rw [hf t (by simp), hg u (by simp)])).1 h
    obtain ⟨k, hk⟩ := ih (fun x hx => hf x (by simp [hx])) (fun x hx => hg x (by simp [hx]))
    obtain ⟨m, hm⟩ := modDvd p (t.1 + u.1)
    by_cases hz : (t.1 + u.1) % p = 0
    · rw [merge_no h hz]; simp only [lin]; rw [← e]
      rw [hz] at hm
      exact ⟨k + m * φ t.2, by grind⟩
    · rw [merge_eq h hz]; simp only [lin]; rw [← e]
      exact ⟨k + m * φ t.2, by grind⟩
theorem merge_canon {p o : Int} {n : Nat} (hp : 2 ≤ p) (f g : List Tm) (hf : Canon p o n f) (hg : Canon p o n g) : Canon p o n (mergeL p o f g) := by
  have hlen : Len n (mergeL p o f g) := by
    intro x hx
    obtain ⟨t, ht, e⟩ := merge_mem f g x hx
    rw [e]
    exact (List.mem_append.1 ht).elim (hf.len t) (hg.len t)
  refine ⟨hlen, ?_, ?_⟩
  · have lf := hf.len; have lg := hg.len; have ff := hf.falls; have fg := hg.falls
    clear hf hg hlen
    revert lf lg ff fg
    refine merge_ind (o := o) (P := fun f g => Len n f → Len n g → Falls o f → Falls o g → Falls o (mergeL p o f g)) ?_ ?_ ?_ ?_ ?_ _ f g (Nat.le_refl _)
    · intro g _ _ _ h; rw [merge_nilL]; exact h
    · intro f _ _ h _; rw [merge_nilR]; exact h
    · intro t f u g h ih lf lg ff fg
      rw [merge_gt h]
      refine ⟨fun x hx => ?_, ih (fun x hx => lf x (by simp [hx])) lg ff.2 fg⟩
      obtain ⟨y, hy, e⟩ := merge_mem f (u :: g) x hx
      rw [e]
      rcases List.mem_append.1 hy with hy | hy
      · exact ff.1 y hy
      · rcases List.mem_cons.1 hy with rfl | hy
        · exact h
        · exact ordS_trans o t.2 u.2 y.2 (by rw [lf t (by simp), lg u (by simp)]) (by rw [lg u (by simp), lg y (by simp [hy])]) h (fg.1 y hy)
    · intro t f u g h ih lf lg ff fg
      rw [merge_lt h]
      have h' : 0 < ordS o u.2 t.2 := by have := ordS_neg o u.2 t.2; omega
      refine ⟨fun x hx => ?_, ih lf (fun x hx => lg x (by simp [hx])) ff fg.2⟩
      obtain ⟨y, hy, e⟩ := merge_mem (t :: f) g x hx
      rw [e]
      rcases List.mem_append.1 hy with hy | hy
      · rcases List.mem_cons.1 hy with rfl | hy
        · exact h'
        · exact ordS_trans o u.2 t.2 y.2 (by rw [lf t (by simp), lg u (by simp)]) (by rw [lf t (by simp), lf y (by simp [hy])]) h' (ff.1 y hy)
      · exact fg.1 y hy
    · intro t f u g h ih lf lg ff fg
      have e0 : t.2 = u.2 := (ordS_zero o t.2 u.2 (by rw [lf t (by simp), lg u (by simp)])).1 h
      have ih' := ih (fun x hx => lf x (by simp [hx])) (fun x hx => lg x (by simp [hx])) ff.2 fg.2
      by_cases hz : (t.1 + u.1) % p = 0
      · rw [merge_no h hz]; exact ih'
      · rw [merge_eq h hz]
        refine ⟨fun x hx => ?_, ih'⟩
        obtain ⟨y, hy, e⟩ := merge_mem f g x hx
        simp only
        rw [e]
        rcases List.mem_append.1 hy with hy | hy
        · exact ff.1 y hy
        · rw [e0]; exact fg.1 y hy
  · have cf := hf.coef; have cg := hg.coef
    clear hf hg hlen
    revert cf cg
    refine merge_ind (o := o) (P := fun f g => (∀ t ∈ f, 1 ≤ t.1 ∧ t.1 < p) → (∀ t ∈ g, 1 ≤ t.1 ∧ t.1 < p) → ∀ t ∈ mergeL p o f g, 1 ≤ t.1 ∧ t.1 < p) ?_ ?_ ?_ ?_ ?_ _ f g (Nat.le_refl _)
    · intro g _ h; rw [merge_nilL]; exact h
    · intro f h _; rw [merge_nilR]; exact h
    · intro t f u g h ih cf cg x hx
      rw [merge_gt h] at hx
      rcases List.mem_cons.1 hx with rfl | hx
      · exact cf x (by simp)
      · exact ih (fun x hx => cf x (by simp [hx])) cg x hx
    · intro t f u g h ih cf cg x hx
      rw [merge_lt h] at hx
      rcases List.mem_cons.1 hx with rfl | hx
      · exact cg x (by simp)
      · exact ih cf (fun x hx => cg x (by simp [hx])) x hx
    · intro t f u g h ih cf cg x hx
      have ih' := ih (fun x hx => cf x (by simp [hx])) (fun x hx => cg x (by simp [hx]))
      by_cases hz : (t.1 + u.1) % p = 0
      · rw [merge_no h hz] at hx; exact ih' x hx
      · rw [merge_eq h hz] at hx
        rcases List.mem_cons.1 hx with rfl | hx
        · have h1 := Int.emod_nonneg (t.1 + u.1) (show p ≠ 0 by omega)
          have h2 := Int.emod_lt_of_pos (t.1 + u.1) (show 0 < p by omega)
          simp only; omega
        · exact ih' x hx

theorem prime_mul {p a b : Nat} (h : noDiv p p = true) (ha : 0 < a) (ha2 : a < p) (hb : 0 < b) (hb2 : b < p) : a * b % p ≠ 0 := by
  intro hz
  have hd := Nat.dvd_of_mod_eq_zero hz
  have hc : Nat.Coprime p a := by
    have h1 := Nat.gcd_dvd_left p a
    have h3 : Nat.gcd p a ≤ a := Nat.le_of_dvd ha (Nat.gcd_dvd_right p a)
    have h4 : 0 < Nat.gcd p a := Nat.gcd_pos_of_pos_right p ha
    unfold noDiv at h
    rw [List.all_eq_true] at h
    have h5 := h (Nat.gcd p a) (List.mem_range.2 (by omega))
    rw [Nat.mod_eq_zero_of_dvd h1] at h5
    simp at h5
    show Nat.gcd p a = 1
    omega
  have := Nat.le_of_dvd hb (hc.dvd_of_dvd_mul_left hd)
  omega
theorem prime_mulI {p a b : Int} (h : errP p = 0) (ha : 1 ≤ a) (ha2 : a < p) (hb : 1 ≤ b) (hb2 : b < p) : 1 ≤ a * b % p ∧ a * b % p < p := by
  have h0 : noDiv p.toNat p.toNat = true := by
    unfold errP at h
    by_cases h1 : p < 2 ∨ 101 < p
    · rw [if_pos h1] at h; omega
    · rw [if_neg h1] at h
      cases hq : primeB p
      · rw [hq] at h; simp at h
      · exact hq
  have h1 := prime_mul h0 (a := a.toNat) (b := b.toNat) (by omega) (by omega) (by omega) (by omega)
  have e : a * b % p = ((a.toNat * b.toNat % p.toNat : Nat) : Int) := by
    rw [Int.natCast_emod, Int.natCast_mul, Int.toNat_of_nonneg (by omega), Int.toNat_of_nonneg (by omega), Int.toNat_of_nonneg (by omega)]
  have h2 := Int.emod_lt_of_pos (a * b) (show 0 < p by omega)
  omega
theorem errP_bd {p : Int} (h : errP p = 0) : 2 ≤ p ∧ p ≤ 101 := by
  unfold errP at h
  by_cases h1 : p < 2 ∨ 101 < p
  · rw [if_pos h1] at h; omega
  · omega
theorem prodT_canon {p o : Int} {n : Nat} (h : errP p = 0) {t : Tm} (ht : 1 ≤ t.1 ∧ t.1 < p) (hl : t.2.length = n) : ∀ {g : List Tm}, Canon p o n g → Canon p o n (prodT p t g)
  | [], _ => ⟨fun x hx => by simp [prodT] at hx, trivial, fun x hx => by simp [prodT] at hx⟩
  | u :: g, hg => by
    have hg2 : Canon p o n g := ⟨fun x hx => hg.len x (by simp [hx]), hg.falls.2, fun x hx => hg.coef x (by simp [hx])⟩
    have ih := prodT_canon h ht hl hg2
    have e : prodT p t (u :: g) = (t.1 * u.1 % p, zipI (· + ·) t.2 u.2) :: prodT p t g := rfl
    have hu := hg.coef u (by simp)
    have lu := hg.len u (by simp)
    rw [e]
    refine ⟨fun x hx => ?_, ⟨fun x hx => ?_, ih.falls⟩, fun x hx => ?_⟩
    · rcases List.mem_cons.1 hx with rfl | hx
      · simp only; rw [zipI_len _ _ _ (by omega)]; exact hl
      · exact ih.len x hx
    · simp only [prodT, List.mem_map] at hx
      obtain ⟨y, hy, rfl⟩ := hx
      have ly := hg.len y (by simp [hy])
      simp only
      rw [zip_comm t.2 u.2, zip_comm t.2 y.2, ordS_add o u.2 y.2 t.2 (by omega) (by omega)]
      exact hg.falls.1 y hy
    · rcases List.mem_cons.1 hx with rfl | hx
      · exact prime_mulI h ht.1 ht.2 hu.1 hu.2
      · exact ih.coef x hx

def cat (F : Nat → List Tm) (a k : Nat) : List Tm := (List.range' a k).flatMap F
theorem cat_zero (F : Nat → List Tm) (a : Nat) : cat F a 0 = [] := rfl
theorem cat_one (F : Nat → List Tm) (a : Nat) : cat F a 1 = F a := by simp [cat]
theorem cat_add (F : Nat → List Tm) (a k m : Nat) : cat F a (k + m) = cat F a k ++ cat F (a + k) m := by
  unfold cat; rw [← List.range'_append_1, List.flatMap_append]
end Go.Proofs.YtilogbggilchaaaGreat
