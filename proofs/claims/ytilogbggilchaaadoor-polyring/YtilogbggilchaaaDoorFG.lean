/- Clearing a column. -/
import Derived.Test.YtilogbggilchaaaDoorFF
import Derived.Test.YtilogbggilchaaaDoorH
namespace Go.Proofs.YtilogbggilchaaaDoor
set_option linter.unusedSimpArgs false
set_option linter.unusedVariables false
open Go.RowKit
theorem grown_refl (w : World) (r : Option Nat) : w.grownBy w r := ⟨rfl, rfl, rfl, Nat.le_refl _, fun _ _ _ => rfl⟩
theorem grown_trans {a b c : World} {r : Option Nat} (h : a.grownBy b r) (k : b.grownBy c r) : a.grownBy c r :=
  ⟨k.os.trans h.os, k.tape.trans h.tape, k.output.trans h.output, Nat.le_trans h.size k.size, fun i hi hn => (k.block i (Nat.lt_of_lt_of_le hi h.size) hn).trans (h.block i hi hn)⟩
theorem grown_drew {a b : World} {r : Option Nat} (h : a.grownBy b r) : a.grownBy b.drew r := ⟨h.os, h.tape, h.output, h.size, h.block⟩
theorem grown_set (w : World) (g j : Nat) (u : Value) : w.grownBy (w.setCell ⟨g, j, none⟩ u) (some g) :=
  ⟨rfl, rfl, rfl, by simp [World.setCell], fun k _ hn => Below.heap_setCell _ _ _ _ (fun e => hn (by rw [e]))⟩
theorem grown_below {w w' : World} {g B : Nat} (h : w.grownBy w' (some g)) (hB : B ≤ g) (hw : B ≤ w.heap.size) : Below B w w' :=
  ⟨h.os, h.tape, h.output, h.size, fun k hk => h.block k (by omega) (fun e => by simp at e; omega)⟩
theorem below_grown {w w' : World} {r : Option Nat} (h : Below w.heap.size w w') : w.grownBy w' r :=
  ⟨h.os, h.tape, h.output, h.size, fun k hk _ => h.block k hk⟩
theorem grown_sl {w w' : World} {g : Nat} {v : Value} {xs : List Int} (h : w.grownBy w' (some g)) (hs : Sl w v xs) (hne : ∀ b off n c, v = .slice (some ⟨b, off, none⟩) n c → b ≠ g) : Sl w' v xs := by
  obtain ⟨a, cap, rfl, h1⟩ := hs
  refine ⟨a, cap, rfl, fun hp => ?_⟩
  obtain ⟨b, off, rfl, hlt, hc⟩ := h1 hp
  refine ⟨b, off, rfl, Nat.lt_of_lt_of_le hlt h.size, fun i hi => ?_⟩
  exact h.cell (hc i hi) (fun e => hne b off _ _ rfl (by injection e))

def clrF (p t x y : Int) : Int := (x + t * y) % p

set_option maxHeartbeats 400000 in
theorem clearFn_any (p t x y : Int) (tb pb : Nat) (w : World) (hp : 2 ≤ p ∧ p ≤ 101) (ht : 0 ≤ t ∧ t ≤ 101) (hx : 0 ≤ x ∧ x < p) (hy : 0 ≤ y ∧ y < p) (hct : w.cell? ⟨tb, 0, none⟩ = some (.int .i64 t)) (hcp : w.cell? ⟨pb, 0, none⟩ = some (.int .i64 p)) :
    Calls Tryd.prog 99 #[.int .i64 x, .int .i64 y, .pointer (some ⟨tb, 0, none⟩), .pointer (some ⟨pb, 0, none⟩)] w fun e w' => e = .returned (.int .i64 (clrF p t x y)) ∧ w' = w := by
  obtain ⟨h1, h2⟩ := mul_bd (a := t) (b := y) ⟨by omega, by omega, by omega, by omega⟩
  obtain ⟨_, _⟩ := hp
  obtain ⟨_, _⟩ := hx
  unfold clrF
  go_enter Tryd.func99, Tryd.ntmps99
  go_wp2
  go_ret
  exact ⟨rfl, rfl⟩

def mixL (zs xs : List Int) (k : Nat) : List Int := zs.take k ++ xs.drop k
theorem mixL_len (zs xs : List Int) (k : Nat) (h : zs.length = xs.length) (hk : k ≤ xs.length) : (mixL zs xs k).length = xs.length := by
  simp [mixL]; omega
theorem mixL_at (zs xs : List Int) (k : Nat) (h : zs.length = xs.length) (hk : k < xs.length) : (mixL zs xs k).getD k 0 = xs.getD k 0 := by
  simp only [mixL, List.getD_eq_getElem?_getD]
  rw [List.getElem?_append_right (by simp; omega), List.getElem?_drop]
  congr 2
  simp; omega
theorem mixL_set (zs xs : List Int) (k : Nat) (h : zs.length = xs.length) (hk : k < xs.length) : (mixL zs xs k).set k (zs.getD k 0) = mixL zs xs (k + 1) := by
  simp only [mixL]
  rw [List.drop_eq_getElem_cons hk, List.set_append_right _ _ (by simp; omega)]
  have e : k - (zs.take k).length = 0 := by simp; omega
  rw [e, List.set_cons_zero, List.take_succ_eq_append_getElem (by omega), List.append_assoc]
  simp [List.getD_eq_getElem?_getD, show k < zs.length by omega]
theorem ints_set (xs : List Int) (k : Nat) (z : Int) : (ints xs).set k (.int .i64 z) = ints (xs.set k z) := by simp [List.map_set]

set_option maxHeartbeats 400000 in
theorem fieldEach_any (p t : Int) (xs ys : List Int) (B g cap b2 off2 cap2 tb pb : Nat) (w : World) (hp : 2 ≤ p ∧ p ≤ 101) (ht : 0 ≤ t ∧ t ≤ 101) (hm : xs.length ≤ 400) (hxy : xs.length = ys.length)
    (hx : ∀ x ∈ xs, 0 ≤ x ∧ x < p) (hy : ∀ x ∈ ys, 0 ≤ x ∧ x < p) (hown : Own w B (.slice (some ⟨g, 0, none⟩) xs.length cap) xs) (hlt2 : b2 < w.heap.size) (hne : b2 ≠ g) (hc2 : IntsAt w b2 off2 ys)
    (htb : tb ≠ g) (hpb : pb ≠ g) (hct : w.cell? ⟨tb, 0, none⟩ = some (.int .i64 t)) (hcp : w.cell? ⟨pb, 0, none⟩ = some (.int .i64 p)) :
    Calls Tryd.prog 98 #[.slice (some ⟨g, 0, none⟩) xs.length cap, .slice (some ⟨b2, off2, none⟩) ys.length cap2, .func (.func 99) #[] #[.pointer (some ⟨tb, 0, none⟩), .pointer (some ⟨pb, 0, none⟩)]] w fun e w' =>
      e = .returned (.tuple #[]) ∧ Own w' B (.slice (some ⟨g, 0, none⟩) xs.length cap) (zipI (clrF p t) xs ys) ∧ w.grownBy w' (some g) := by
  have HC2 := hid hc2
  have HX := hid hx
  have HY := hid hy
  have HP := hid (And.intro hp ht)
  have HT := hid (And.intro hct hcp)
  have HLZ := hid (zipI_len (clrF p t) xs ys hxy)
  have HOWN := hid hown
  rw [← hxy]
  have HXY := hid hxy
  clear hc2 hx hy hp ht hct hcp hxy hown
  go_enter Tryd.func98, Tryd.ntmps98
  go_wp2
  go_loopw [9] (fun i wr => ∃ k : Nat, k ≤ xs.length ∧ i = .int .i64 k ∧ wr.ownsRow B 3 1 (.slice (some ⟨g, 0, none⟩) xs.length cap) xs.length (ints (mixL (zipI (clrF p t) xs ys) xs k)) ∧ w.grownBy wr (some g)) (fun i _ => xs.length - (intOf i).toNat)
  case atStart => exact ⟨0, Nat.zero_le _, rfl, by have h1 := HOWN.out; unfold Own at h1; simpa [mixL] using h1, grown_refl _ _⟩
  case round =>
    obtain ⟨k, hk, rfl, ho, hg⟩ := hrel
    have HO := hid ho
    have HG := hid hg
    by_cases hk2 : k < xs.length
    · have hz := zipI_at (clrF p t) xs ys HXY.out k hk2
      have hcell := ho.cellAt k (by omega)
      have hfr := ho.frozenAt k
      have hxk : (ints (mixL (zipI (clrF p t) xs ys) xs k))[k]? = some (.int .i64 (xs.getD k 0)) := by
        have e := mixL_at (zipI (clrF p t) xs ys) xs k HLZ.out hk2
        have hl := mixL_len (zipI (clrF p t) xs ys) xs k HLZ.out hk
        rw [List.getD_eq_getElem?_getD, List.getElem?_eq_getElem (by omega)] at e
        simp only [ints, List.getElem?_map]
        rw [List.getElem?_eq_getElem (by omega)]
        simp at e
        simp [e]
      rw [hxk] at hcell
      have hcell2 := HC2.out k (by rw [← HXY.out]; exact hk2)
      have hc2' := hg.cell hcell2 (fun e => hne (by injection e))
      have hct' := hg.cell HT.out.1 (fun e => htb (by injection e))
      have hcp' := hg.cell HT.out.2 (fun e => hpb (by injection e))
      have HXK := hid (HX.out _ (getD_mem xs k hk2))
      have HYK := hid (HY.out _ (getD_mem ys k (by rw [← HXY.out]; exact hk2)))
      have HSET : Hid (∀ z, z = clrF p t (xs.getD k 0) (ys.getD k 0) → (wr.setCell ⟨g, k, none⟩ (.int .i64 z)).ownsRow B 3 1 (.slice (some ⟨g, 0, none⟩) xs.length cap) xs.length (ints (mixL (zipI (clrF p t) xs ys) xs (k + 1)))) := by
        intro z hzz
        have h1 := (ho.stored k (.int .i64 z)).1
        rw [ints_set, hzz, ← hz, mixL_set _ _ _ HLZ.out hk2] at h1
        rw [hzz, ← hz]
        exact h1
      have HTP := hid (And.intro hct' hcp')
      clear ho hg hxk hz hcell2 hct' hcp'
      generalize xs.getD k 0 = x at hcell HXK HSET
      generalize ys.getD k 0 = y at hc2' HYK HSET
      go_wp2
      go_region_with (go_at_call 99; refine (clearFn_any p t _ _ _ _ _ HP.out.1 HP.out.2 HXK.out HYK.out (by exact HTP.out.1) (by exact HTP.out.2)).mono ?_; rintro e w' ⟨rfl, rfl⟩)
      all_goals
        go_wp2
        go_roundw
        case rel => exact ⟨k + 1, by omega, by go_num, HSET.out _ rfl, grown_drew (grown_trans HG.out (grown_set _ _ _ _))⟩
        case measure => simp [intOf]; omega
    · have e : k = xs.length := by omega
      subst e
      have hfin : mixL (zipI (clrF p t) xs ys) xs xs.length = zipI (clrF p t) xs ys := by
        unfold mixL; rw [List.take_of_length_le (by rw [HLZ.out]; omega)]; simp
      rw [hfin] at HO
      clear ho hg hfin
      go_wp2
      go_end0
      refine ⟨rfl, ?_, HG.out⟩
      have := HO.out
      unfold Own
      rw [HLZ.out]
      exact this
end Go.Proofs.YtilogbggilchaaaDoor
