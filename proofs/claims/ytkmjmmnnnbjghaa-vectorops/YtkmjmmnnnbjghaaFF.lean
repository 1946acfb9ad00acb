/- Clone; clearing a column. -/
import Derived.Test.YtkmjmmnnnbjghaaPE
import Derived.Lib.SliceRun
import Derived.Deep.OwnRows
import Derived.Deep.RegionHeld
import Derived.Test.YtkmjmmnnnbjghaaA
import Derived.RegionTactic
import Derived.Test.YtkmjmmnnnbjghaaI
namespace Go.Proofs.Ytkmjmmnnnbjghaa
set_option linter.unusedSimpArgs false
set_option linter.unusedVariables false
open Go.RowKit

theorem Try.infoInt : (Try.prog.info? 3).map (fun i => (i.zero, i.size, i.bytes)) = some (some (.int .i64 0), 1, 8) := by kernel_rfl
abbrev ints (xs : List Int) : List Value := xs.map (Value.int .i64)
/-- A row of the call's own. -/
def Own (w : World) (B : Nat) (v : Value) (xs : List Int) : Prop := w.ownsRow B 3 1 v xs.length (ints xs)

theorem intsAt_news {w : World} {b off : Nat} {xs : List Int} (h : IntsAt w b off xs) : ∀ j u, (ints xs)[j]? = some u → w.cell? ((⟨b, off, none⟩ : Addr).add j) = some u := by
  intro j u hj
  rw [List.getElem?_map] at hj
  cases hx : xs[j]? with
  | none => rw [hx] at hj; simp at hj
  | some x =>
    rw [hx] at hj
    simp at hj
    subst hj
    have hl : j < xs.length := by
      apply Nat.lt_of_not_le; intro hle; rw [List.getElem?_eq_none hle] at hx; simp at hx
    have := h j hl
    rw [List.getD_eq_getElem?_getD, hx] at this
    by_cases h0 : j = 0
    · subst h0; simpa [Addr.add] using this
    · simpa [Addr.add, h0] using this
theorem ints_one (xs : List Int) : ∀ u ∈ ints xs, u.oneCell' = true := by
  intro u hu
  simp at hu
  obtain ⟨x, _, rfl⟩ := hu
  rfl

set_option maxHeartbeats 400000 in
theorem clone_any (v : Value) (xs : List Int) (w : World) (hm : xs.length ≤ 400) (hs : Sl w v xs) :
    Calls Try.prog 81 #[v] w fun e w' => ∃ u, e = .returned u ∧ Own w' w.heap.size u xs ∧ Below w.heap.size w w' := by
  obtain ⟨a, cap, rfl, h1⟩ := hs
  have hnil := fun (w : World) (a : Option Addr) (n c : Nat) => Lib.run_eql_slice_nil (P := Try.prog) w 36 3 a n c 0 0 Try.underlying36
  obtain ⟨i0, hi, hz0, hz1, hz2⟩ := info_parts Try.infoInt
  cases a with
  | none =>
    have h0 : xs = [] := List.length_eq_zero_iff.1 (by
      apply Nat.eq_zero_of_not_pos; intro h; obtain ⟨b, off, hh, _⟩ := h1 h; simp at hh)
    subst h0
    clear h1
    go_enter Try.func81, Try.ntmps81
    go_wp2
    go_ret
    exact ⟨_, rfl, World.ownsRow_nil _ _ _ _, Below.refl _ _⟩
  | some ad =>
    have HN : Hid (∀ j u, (ints xs)[j]? = some u → (w.alloc (.cells #[] 3)).cell? (ad.add j) = some u) := by
      intro j u hj
      by_cases h0 : 0 < xs.length
      · obtain ⟨b, off, hh, hlt, hc⟩ := h1 h0
        simp at hh
        subst hh
        refine intsAt_news (w := w.alloc (.cells #[] 3)) (b := b) (off := off) ?_ j u hj
        intro i hi
        rw [belowNew.cell (p := ⟨b, off + i, none⟩) hlt]; exact hc i hi
      · have : xs = [] := List.length_eq_zero_iff.1 (by omega)
        subst this; simp at hj
    clear h1
    go_enter Try.func81, Try.ntmps81
    go_wp2_with (at_builtin; refine wpList_append_own _ rfl _ _ 36 rfl w.heap.size 3 i0 (.int .i64 0) 1 8 Try.underlying36 hi hz0 hz1 hz2 rfl (by decide) _ _ _ rfl (World.ownsRow_made w #[] 0 (Nat.le_refl _) (by decide) (by simp)) ad xs.length cap (ints xs) rfl (by simp) HN.out (ints_one xs) (by unfold maxLen; omega) (by omega) (by simp) ?_)
    intro v' w1 hown' hgrow _
    try simp only [Nat.zero_add, List.nil_append] at hown'
    have hb : Below w.heap.size w w1 := (belowNew).grown hgrow (by simp) (fun k hk => by simp [Value.ownBlock] at hk; omega)
    have HO := hid hown'
    obtain ⟨g, c, hv⟩ : ∃ g c, v' = .slice g xs.length c := by
      rcases hown'.2 with ⟨h, h'⟩ | ⟨g, c, cur, h, _⟩
      · exact ⟨none, 0, by rw [h, h']⟩
      · exact ⟨_, c, h⟩
    subst hv
    clear hown' hgrow hnil
    go_wp2
    go_ret
    exact ⟨_, rfl, HO.out, hb⟩

end Go.Proofs.Ytkmjmmnnnbjghaa

/- Rows of terms of the call's own. -/
namespace Go.Proofs.Ytkmjmmnnnbjghaa
set_option linter.unusedSimpArgs false
set_option linter.unusedVariables false
open Go.RowKit

theorem Try.infoTerm : (Try.prog.info? 61).map (fun i => (i.zero, i.size, i.bytes)) = some (some (.agg #[.int .i64 0, .slice none 0 0]), 2, 32) := by kernel_rfl

/-- A term in memory: its coefficient, the slice of its exponents, and these. -/
abbrev TV := Int × Value × List Int
def tm (t : TV) : Tm := (t.1, t.2.2)
def flat (ts : List TV) : List Value := ts.flatMap fun t => [.int .i64 t.1, t.2.1]
theorem flat_len (ts : List TV) : (flat ts).length = ts.length * 2 := by
  induction ts with
  | nil => rfl
  | cons t ts ih => simp only [flat, List.flatMap_cons, List.length_append, List.length_cons, List.length_nil] at ih ⊢; omega
theorem flat_cons (t : TV) (ts : List TV) : flat (t :: ts) = .int .i64 t.1 :: t.2.1 :: flat ts := rfl
theorem flat_append (ts us : List TV) : flat (ts ++ us) = flat ts ++ flat us := by unfold flat; rw [List.flatMap_append]
def noTV : TV := (0, .slice none 0 0, [])
theorem flat_at : ∀ (ts : List TV) (i : Nat), i < ts.length → (flat ts)[i * 2]? = some (.int .i64 (ts.getD i noTV).1) ∧ (flat ts)[i * 2 + 1]? = some (ts.getD i noTV).2.1
  | [], i, h => by simp at h
  | t :: ts, 0, h => by simp [flat_cons]
  | t :: ts, i + 1, h => by
    have := flat_at ts i (by simpa using h)
    rw [flat_cons, show (i + 1) * 2 = i * 2 + 1 + 1 by omega]
    simpa using this
theorem tm_at (ts : List TV) (i : Nat) (h : i < ts.length) : (ts.map tm).getD i noT = tm (ts.getD i noTV) := by
  simp [List.getD_eq_getElem?_getD, h]
theorem tv_mem (ts : List TV) (i : Nat) (h : i < ts.length) : ts.getD i noTV ∈ ts := by
  rw [List.getD_eq_getElem?_getD, List.getElem?_eq_getElem h]; simp

/-- What the slices of the exponents hold. -/
def Es (w : World) (ts : List TV) : Prop := ∀ t ∈ ts, Sl w t.2.1 t.2.2
theorem Es.below {w w' : World} {ts : List TV} (h : Es w ts) (hb : Below w.heap.size w w') : Es w' ts := fun t ht => (h t ht).below hb
theorem flat_one {w : World} {ts : List TV} (h : Es w ts) : ∀ u ∈ flat ts, u.oneCell' = true := by
  intro u hu
  simp only [flat, List.mem_flatMap] at hu
  obtain ⟨t, ht, hu⟩ := hu
  simp only [List.mem_cons, List.not_mem_nil, or_false] at hu
  rcases hu with rfl | rfl
  · rfl
  · obtain ⟨a, c, e, _⟩ := h t ht; rw [e]; rfl

/-- A row of one's own is a polynomial. -/
theorem own_pl {w : World} {B : Nat} {v : Value} {ts : List TV} (h : w.ownsRow B 61 2 v ts.length (flat ts)) (he : Es w ts) : Pl w v (ts.map tm) := by
  rcases h.2 with ⟨h1, h2⟩ | ⟨g, cap, cur, rfl, hg, hh, hn, hm, hcs, ht⟩
  · refine ⟨none, 0, by rw [h1]; simp [h2], by simp [h2], fun hp => by simp at hp; omega⟩
  · refine ⟨_, cap, by rw [List.length_map], by rw [List.length_map]; exact hn, fun hp => ⟨g, 0, rfl, ?_, fun i hi => ?_⟩⟩
    · apply Nat.lt_of_not_le; intro hle; rw [Array.getElem?_eq_none hle] at hh; simp at hh
    · rw [List.length_map] at hi
      rw [tm_at ts i hi]
      have key : ∀ j, j < ts.length * 2 → w.cell? ⟨g, j, none⟩ = (flat ts)[j]? := by
        intro j hj
        have h1 : (cur.toList.take (ts.length * 2))[j]? = (flat ts)[j]? := by rw [ht]
        rw [List.getElem?_take, if_pos hj] at h1
        rw [← h1]
        unfold World.cell?
        simp only [hh]
        simp
      have h2 := flat_at ts i hi
      refine ⟨?_, (ts.getD i noTV).2.1, ?_, he _ (tv_mem ts i hi)⟩
      · rw [Nat.zero_add, key _ (by omega), h2.1]; rfl
      · rw [Nat.zero_add, key _ (by omega), h2.2]

/-- A polynomial's terms, with their slices. -/
theorem Pl.tvs {w : World} {v : Value} {ts : List Tm} (h : Pl w v ts) : ∃ (a : Option Addr) (cap : Nat) (us : List TV), v = .slice a us.length cap ∧ us.length ≤ cap ∧ us.map tm = ts ∧ Es w us ∧
    (0 < us.length → ∃ b off, a = some ⟨b, off, none⟩ ∧ b < w.heap.size ∧ ∀ j u, (flat us)[j]? = some u → w.cell? ⟨b, off + j, none⟩ = some u) := by
  obtain ⟨a, cap, rfl, hcap, h⟩ := h
  by_cases hp : 0 < ts.length
  · obtain ⟨b, off, rfl, hlt, hc⟩ := h hp
    obtain ⟨V, hV⟩ := Go.Deep.choose_lt (α := Value) (n := ts.length) (p := fun i u => w.cell? ⟨b, off + i * 2 + 1, none⟩ = some u ∧ Sl w u (ts.getD i noT).2) (fun i hi => by
      obtain ⟨_, v, h1, h2⟩ := hc i hi; exact ⟨v, h1, h2⟩)
    let us : List TV := (List.range ts.length).map fun i => ((ts.getD i noT).1, V i, (ts.getD i noT).2)
    have hl : us.length = ts.length := by simp [us]
    have hat : ∀ i, i < ts.length → us.getD i noTV = ((ts.getD i noT).1, V i, (ts.getD i noT).2) := fun i hi => by simp [us, List.getD_eq_getElem?_getD, hi]
    refine ⟨some ⟨b, off, none⟩, cap, us, by rw [hl], by rw [hl]; exact hcap, ?_, ?_, fun _ => ⟨b, off, rfl, hlt, ?_⟩⟩
    · apply List.ext_getElem?
      intro i
      by_cases hi : i < ts.length
      · simp [us, tm, hi]
      · rw [List.getElem?_eq_none (by simp; omega), List.getElem?_eq_none (by omega)]
    · intro t ht
      simp only [us, List.mem_map, List.mem_range] at ht
      obtain ⟨i, hi, rfl⟩ := ht
      exact (hV i hi).2
    · intro j u hj
      have hjl : j < us.length * 2 := by
        rw [← flat_len]
        apply Nat.lt_of_not_le; intro hle; rw [List.getElem?_eq_none hle] at hj; simp at hj
      rw [hl] at hjl
      have hi : j / 2 < ts.length := by omega
      have hf := flat_at us (j / 2) (by rw [hl]; exact hi)
      rw [hat _ hi] at hf
      by_cases he : j % 2 = 0
      · have e : j / 2 * 2 = j := by omega
        rw [e] at hf
        rw [hf.1] at hj
        simp only [Option.some.injEq] at hj
        subst hj
        have := (hc _ hi).1
        rwa [e] at this
      · have e : j / 2 * 2 + 1 = j := by omega
        rw [e] at hf
        rw [hf.2] at hj
        simp only [Option.some.injEq] at hj
        subst hj
        have := (hV _ hi).1
        rwa [Nat.add_assoc, e] at this
  · have e : ts = [] := List.length_eq_zero_iff.1 (by omega)
    subst e
    exact ⟨a, cap, [], rfl, Nat.zero_le _, rfl, fun t ht => by simp at ht, fun h => absurd h (by simp)⟩

end Go.Proofs.Ytkmjmmnnnbjghaa

/- Clearing a column. -/
namespace Go.Proofs.Ytkmjmmnnnbjghaa
set_option linter.unusedSimpArgs false
set_option linter.unusedVariables false
open Go.RowKit

theorem grown_refl (w : World) (r : Option Nat) : w.grownBy w r := ⟨rfl, rfl, rfl, Nat.le_refl _, fun _ _ _ => rfl⟩
theorem grown_trans {a b c : World} {r : Option Nat} (h : a.grownBy b r) (k : b.grownBy c r) : a.grownBy c r :=
  ⟨k.os.trans h.os, k.tape.trans h.tape, k.output.trans h.output, Nat.le_trans h.size k.size, fun i hi hn => (k.block i (Nat.lt_of_lt_of_le hi h.size) hn).trans (h.block i hi hn)⟩
theorem grown_drew {a b : World} {r : Option Nat} (h : a.grownBy b r) : a.grownBy b.drew r := ⟨h.os, h.tape, h.output, h.size, h.block⟩
theorem grown_set (w : World) (g j : Nat) (u : Value) : w.grownBy (w.setCell ⟨g, j, none⟩ u) (some g) :=
  ⟨rfl, rfl, rfl, by simp [World.setCell], fun k _ hn => Below.heap_setCell _ _ _ _ (fun e => hn (by rw [e]))⟩
theorem grown_below {w w' : World} {g B : Nat} (h : w.grownBy w' (some g)) (hB : B ≤ g) (hw : B ≤ w.heap.size) : Below B w w' :=
  ⟨h.os, h.tape, h.output, h.size, fun k hk => h.block k (by omega) (fun e => by simp at e; omega)⟩
theorem below_grown {w w' : World} {r : Option Nat} (h : Below w.heap.size w w') : w.grownBy w' r :=
  ⟨h.os, h.tape, h.output, h.size, fun k hk _ => h.block k hk⟩
theorem grown_sl {w w' : World} {g : Nat} {v : Value} {xs : List Int} (h : w.grownBy w' (some g)) (hs : Sl w v xs) (hne : ∀ b off n c, v = .slice (some ⟨b, off, none⟩) n c → b ≠ g) : Sl w' v xs := by
  obtain ⟨a, cap, rfl, h1⟩ := hs
  refine ⟨a, cap, rfl, fun hp => ?_⟩
  obtain ⟨b, off, rfl, hlt, hc⟩ := h1 hp
  refine ⟨b, off, rfl, Nat.lt_of_lt_of_le hlt h.size, fun i hi => ?_⟩
  exact h.cell (hc i hi) (fun e => hne b off _ _ rfl (by injection e))

def clrF (p t x y : Int) : Int := (x + t * y) % p

set_option maxHeartbeats 400000 in
theorem clearFn_any (p t x y : Int) (tb pb : Nat) (w : World) (hp : 2 ≤ p ∧ p ≤ 101) (ht : 0 ≤ t ∧ t ≤ 101) (hx : 0 ≤ x ∧ x < p) (hy : 0 ≤ y ∧ y < p) (hct : w.cell? ⟨tb, 0, none⟩ = some (.int .i64 t)) (hcp : w.cell? ⟨pb, 0, none⟩ = some (.int .i64 p)) :
    Calls Try.prog 126 #[.int .i64 x, .int .i64 y, .pointer (some ⟨tb, 0, none⟩), .pointer (some ⟨pb, 0, none⟩)] w fun e w' => e = .returned (.int .i64 (clrF p t x y)) ∧ w' = w := by
  obtain ⟨h1, h2⟩ := mul_bd (a := t) (b := y) ⟨by omega, by omega, by omega, by omega⟩
  obtain ⟨_, _⟩ := hp
  obtain ⟨_, _⟩ := hx
  unfold clrF
  go_enter Try.func126, Try.ntmps126
  go_wp2
  go_ret
  exact ⟨rfl, rfl⟩

/-- Some of the new row, and the rest of the old one. -/
def mixL (zs xs : List Int) (k : Nat) : List Int := zs.take k ++ xs.drop k
theorem mixL_len (zs xs : List Int) (k : Nat) (h : zs.length = xs.length) (hk : k ≤ xs.length) : (mixL zs xs k).length = xs.length := by
  simp [mixL]; omega
theorem mixL_at (zs xs : List Int) (k : Nat) (h : zs.length = xs.length) (hk : k < xs.length) : (mixL zs xs k).getD k 0 = xs.getD k 0 := by
  simp only [mixL, List.getD_eq_getElem?_getD]
  rw [List.getElem?_append_right (by simp; omega), List.getElem?_drop]
  congr 2
  simp; omega
theorem mixL_set (zs xs : List Int) (k : Nat) (h : zs.length = xs.length) (hk : k < xs.length) : (mixL zs xs k).set k (zs.getD k 0) = mixL zs xs (k + 1) := by
  simp only [mixL]
  rw [List.drop_eq_getElem_cons hk, List.set_append_right _ _ (by simp; omega)]
  have e : k - (zs.take k).length = 0 := by simp; omega
  rw [e, List.set_cons_zero, List.take_succ_eq_append_getElem (by omega), List.append_assoc]
  simp [List.getD_eq_getElem?_getD, show k < zs.length by omega]
theorem ints_set (xs : List Int) (k : Nat) (z : Int) : (ints xs).set k (.int .i64 z) = ints (xs.set k z) := by simp [List.map_set]

set_option maxHeartbeats 400000 in
theorem fieldEach_any (p t : Int) (xs ys : List Int) (B g cap b2 off2 cap2 tb pb : Nat) (w : World) (hp : 2 ≤ p ∧ p ≤ 101) (ht : 0 ≤ t ∧ t ≤ 101) (hm : xs.length ≤ 400) (hxy : xs.length = ys.length)
    (hx : ∀ x ∈ xs, 0 ≤ x ∧ x < p) (hy : ∀ x ∈ ys, 0 ≤ x ∧ x < p) (hown : Own w B (.slice (some ⟨g, 0, none⟩) xs.length cap) xs) (hlt2 : b2 < w.heap.size) (hne : b2 ≠ g) (hc2 : IntsAt w b2 off2 ys)
    (htb : tb ≠ g) (hpb : pb ≠ g) (hct : w.cell? ⟨tb, 0, none⟩ = some (.int .i64 t)) (hcp : w.cell? ⟨pb, 0, none⟩ = some (.int .i64 p)) :
    Calls Try.prog 125 #[.slice (some ⟨g, 0, none⟩) xs.length cap, .slice (some ⟨b2, off2, none⟩) ys.length cap2, .func (.func 126) #[] #[.pointer (some ⟨tb, 0, none⟩), .pointer (some ⟨pb, 0, none⟩)]] w fun e w' =>
      e = .returned (.tuple #[]) ∧ Own w' B (.slice (some ⟨g, 0, none⟩) xs.length cap) (zipI (clrF p t) xs ys) ∧ w.grownBy w' (some g) := by
  have HC2 := hid hc2
  have HX := hid hx
  have HY := hid hy
  have HP := hid (And.intro hp ht)
  have HT := hid (And.intro hct hcp)
  have HLZ := hid (zipI_len (clrF p t) xs ys hxy)
  have HOWN := hid hown
  rw [← hxy]
  have HXY := hid hxy
  clear hc2 hx hy hp ht hct hcp hxy hown
  go_enter Try.func125, Try.ntmps125
  go_wp2
  go_loopw [9] (fun i wr => ∃ k : Nat, k ≤ xs.length ∧ i = .int .i64 k ∧ wr.ownsRow B 3 1 (.slice (some ⟨g, 0, none⟩) xs.length cap) xs.length (ints (mixL (zipI (clrF p t) xs ys) xs k)) ∧ w.grownBy wr (some g)) (fun i _ => xs.length - (intOf i).toNat)
  case atStart => exact ⟨0, Nat.zero_le _, rfl, by have h1 := HOWN.out; unfold Own at h1; simpa [mixL] using h1, grown_refl _ _⟩
  case round =>
    obtain ⟨k, hk, rfl, ho, hg⟩ := hrel
    have HO := hid ho
    have HG := hid hg
    by_cases hk2 : k < xs.length
    · have hz := zipI_at (clrF p t) xs ys HXY.out k hk2
      have hcell := ho.cellAt k (by omega)
      have hfr := ho.frozenAt k
      have hxk : (ints (mixL (zipI (clrF p t) xs ys) xs k))[k]? = some (.int .i64 (xs.getD k 0)) := by
        have e := mixL_at (zipI (clrF p t) xs ys) xs k HLZ.out hk2
        have hl := mixL_len (zipI (clrF p t) xs ys) xs k HLZ.out hk
        rw [List.getD_eq_getElem?_getD, List.getElem?_eq_getElem (by omega)] at e
        simp only [ints, List.getElem?_map]
        rw [List.getElem?_eq_getElem (by omega)]
        simp at e
        simp [e]
      rw [hxk] at hcell
      have hcell2 := HC2.out k (by rw [← HXY.out]; exact hk2)
      have hc2' := hg.cell hcell2 (fun e => hne (by injection e))
      have hct' := hg.cell HT.out.1 (fun e => htb (by injection e))
      have hcp' := hg.cell HT.out.2 (fun e => hpb (by injection e))
      have HXK := hid (HX.out _ (getD_mem xs k hk2))
      have HYK := hid (HY.out _ (getD_mem ys k (by rw [← HXY.out]; exact hk2)))
      have HSET : Hid (∀ z, z = clrF p t (xs.getD k 0) (ys.getD k 0) → (wr.setCell ⟨g, k, none⟩ (.int .i64 z)).ownsRow B 3 1 (.slice (some ⟨g, 0, none⟩) xs.length cap) xs.length (ints (mixL (zipI (clrF p t) xs ys) xs (k + 1)))) := by
        intro z hzz
        have h1 := (ho.stored k (.int .i64 z)).1
        rw [ints_set, hzz, ← hz, mixL_set _ _ _ HLZ.out hk2] at h1
        rw [hzz, ← hz]
        exact h1
      have HTP := hid (And.intro hct' hcp')
      clear ho hg hxk hz hcell2 hct' hcp'
      generalize xs.getD k 0 = x at hcell HXK HSET
      generalize ys.getD k 0 = y at hc2' HYK HSET
      go_wp2
      go_region_with (go_at_call 126; refine (clearFn_any p t _ _ _ _ _ HP.out.1 HP.out.2 HXK.out HYK.out (by exact HTP.out.1) (by exact HTP.out.2)).mono ?_; rintro e w' ⟨rfl, rfl⟩)
      all_goals
        go_wp2
        go_roundw
        case rel => exact ⟨k + 1, by omega, by go_num, HSET.out _ rfl, grown_drew (grown_trans HG.out (grown_set _ _ _ _))⟩
        case measure => simp [intOf]; omega
    · have e : k = xs.length := by omega
      subst e
      have hfin : mixL (zipI (clrF p t) xs ys) xs xs.length = zipI (clrF p t) xs ys := by
        unfold mixL; rw [List.take_of_length_le (by rw [HLZ.out]; omega)]; simp
      rw [hfin] at HO
      clear ho hg hfin
      go_wp2
      go_end0
      refine ⟨rfl, ?_, HG.out⟩
      have := HO.out
      unfold Own
      rw [HLZ.out]
      exact this

end Go.Proofs.Ytkmjmmnnnbjghaa

/- clearColumn; the first number that is not 0. -/
namespace Go.Proofs.Ytkmjmmnnnbjghaa
set_option linter.unusedSimpArgs false
set_option linter.unusedVariables false
open Go.RowKit

/-- A row, cleared by another that was kept. -/
def clr (p : Int) (row : List Int) (f : Nat × List Int) : List Int :=
  if row.getD f.1 0 = 0 then row else zipI (clrF p (p - row.getD f.1 0)) row f.2

theorem own_cell {w : World} {B g cap : Nat} {xs : List Int} (h : Own w B (.slice (some ⟨g, 0, none⟩) xs.length cap) xs) (k : Nat) (hk : k < xs.length) : w.cell? ⟨g, k, none⟩ = some (.int .i64 (xs.getD k 0)) := by
  have h1 := World.ownsRow.cellAt h k (by omega)
  rw [h1]
  simp [List.getD_eq_getElem?_getD, hk]
theorem own_lt {w : World} {B g cap : Nat} {xs : List Int} {n : Nat} (h : Own w B (.slice (some ⟨g, 0, none⟩) n cap) xs) : B ≤ g ∧ g < w.heap.size := World.ownsRow.lt h g rfl
theorem own_kept {w w' : World} {B g cap : Nat} {xs : List Int} {n : Nat} (h : Own w B (.slice (some ⟨g, 0, none⟩) n cap) xs) (hb : Below w.heap.size w w') : Own w' B (.slice (some ⟨g, 0, none⟩) n cap) xs :=
  World.ownsRow.kept h (below_grown (r := none) hb) (Or.inr (by simp [Value.ownBlock]))

theorem belowThree {w : World} {A B C : Obj} : Below w.heap.size w (((w.alloc A).alloc B).alloc C) := belowTwo.trans (belowNew.mono (by simp; omega))

set_option maxHeartbeats 1000000 in
theorem clearColumn_any (p : Int) (xs ys : List Int) (c B g cap b2 off2 cap2 : Nat) (w : World) (hp : 2 ≤ p ∧ p ≤ 101) (hm : xs.length ≤ 400) (hxy : xs.length = ys.length) (hcn : c < xs.length)
    (hx : ∀ x ∈ xs, 0 ≤ x ∧ x < p) (hy : ∀ x ∈ ys, 0 ≤ x ∧ x < p) (hown : Own w B (.slice (some ⟨g, 0, none⟩) xs.length cap) xs) (hlt2 : b2 < w.heap.size) (hne : b2 ≠ g) (hc2 : IntsAt w b2 off2 ys) :
    Calls Try.prog 105 #[.int .i64 p, .slice (some ⟨g, 0, none⟩) xs.length cap, .agg #[.int .i64 c, .slice (some ⟨b2, off2, none⟩) ys.length cap2]] w fun e w' =>
      e = .returned (.tuple #[]) ∧ Own w' B (.slice (some ⟨g, 0, none⟩) xs.length cap) (clr p xs (c, ys)) ∧ w.grownBy w' (some g) := by
  obtain ⟨hgB, hgw⟩ := own_lt hown
  have hcell := own_cell hown c hcn
  have hcx := hx _ (getD_mem xs c hcn)
  have HX := hid hx
  have HY := hid hy
  have HXY := hid hxy
  have HC2 := hid hc2
  have HOWN := hid hown
  have HCLR : Hid (clr p xs (c, ys) = if xs.getD c 0 = 0 then xs else zipI (clrF p (p - xs.getD c 0)) xs ys) := rfl
  clear hx hy hxy hc2 hown
  generalize xs.getD c 0 = x at hcell hcx HCLR
  have hcn' : (c : Int) < (xs.length : Int) := by omega
  obtain ⟨hp1, hp2⟩ := hp
  obtain ⟨hx1, hx2⟩ := hcx
  cases hz : (x == 0)
  · have hz' : ¬ x = 0 := by simpa using hz
    have e : clr p xs (c, ys) = zipI (clrF p (p - x)) xs ys := by rw [HCLR.out, if_neg hz']
    rw [e]
    clear e HCLR hz'
    go_enter Try.func105, Try.ntmps105
    go_wp2
    have h3 : ∀ A B C, (((w.alloc A).alloc B).alloc C).cell? ⟨g, c, none⟩ = some (.int .i64 x) := fun A B C => by
      rw [(belowThree (w := w) (A := A) (B := B) (C := C)).cell (p := ⟨g, c, none⟩) hgw]; exact hcell
    go_region
    all_goals
      go_wp2_with fail
      refine (fieldEach_any p (p - x) xs ys B g cap b2 off2 cap2 _ _ _ ⟨hp1, hp2⟩ ⟨by omega, by omega⟩ hm HXY.out HX.out HY.out ?_ ?_ hne ?_ ?_ ?_ ?_ ?_).mono ?_
      · exact own_kept HOWN.out (belowThree.drew)
      · simp; omega
      · intro i hi; show (((w.alloc _).alloc _).alloc _).cell? _ = _; rw [belowThree.cell (p := ⟨b2, off2 + i, none⟩) hlt2]; exact HC2.out i hi
      · omega
      · omega
      · simp [go_sem]
      · simp [go_sem]
      rintro e w1 ⟨rfl, ho, hg⟩
      have HO := hid ho
      have HG := hid (grown_trans (below_grown belowThree.drew) hg)
      clear ho hg
      go_wp2
      go_end0
      exact ⟨rfl, HO.out, HG.out⟩
  · have hz' : x = 0 := by simpa using hz
    have e : clr p xs (c, ys) = xs := by rw [HCLR.out, if_pos hz']
    rw [e]
    clear e HCLR hz'
    go_enter Try.func105, Try.ntmps105
    go_wp2
    exact bodyPost_ret (v := .tuple #[]) (by simp [results, Try.results105, go_sem]) rfl ⟨rfl, own_kept HOWN.out belowTwo, below_grown belowTwo⟩

end Go.Proofs.Ytkmjmmnnnbjghaa

/- What was kept, in memory; the pure elimination. -/
namespace Go.Proofs.Ytkmjmmnnnbjghaa
set_option linter.unusedSimpArgs false
set_option linter.unusedVariables false
open Go.RowKit

/-- Where the first number stands that is not 0; the length: there is none. -/
def nz : List Int → Nat
  | [] => 0
  | x :: xs => if x = 0 then nz xs + 1 else 0
theorem nz_le : ∀ xs, nz xs ≤ xs.length
  | [] => Nat.le_refl _
  | x :: xs => by simp only [nz, List.length_cons]; split <;> have := nz_le xs <;> omega
theorem nz_at : ∀ xs : List Int, nz xs < xs.length → xs.getD (nz xs) 0 ≠ 0
  | [], h => by simp [nz] at h
  | x :: xs, h => by
    simp only [nz] at h ⊢
    by_cases hx : x = 0
    · rw [if_pos hx] at h ⊢
      have := nz_at xs (by simpa using h)
      simpa using this
    · rw [if_neg hx]; simpa using hx
theorem nz_before : ∀ (xs : List Int) (k : Nat), k < nz xs → xs.getD k 0 = 0
  | [], k, h => by simp [nz] at h
  | x :: xs, k, h => by
    simp only [nz] at h
    by_cases hx : x = 0
    · rw [if_pos hx] at h
      cases k with
      | zero => simpa using hx
      | succ k => have := nz_before xs k (by omega); simpa using this
    · rw [if_neg hx] at h; omega

def redL (p : Int) (row : List Int) (fs : List (Nat × List Int)) : List Int := fs.foldl (clr p) row
def scl (p s : Int) (xs : List Int) : List Int := xs.map fun x => x * s % p
def stepP (p : Int) (fs : List (Nat × List Int)) (row : List Int) : List (Nat × List Int) :=
  if nz (redL p row fs) = (redL p row fs).length then fs else fs ++ [(nz (redL p row fs), scl p (invI p ((redL p row fs).getD (nz (redL p row fs)) 0)) (redL p row fs))]
def pivs (p : Int) (rows : List (List Int)) : List (Nat × List Int) := rows.foldl (stepP p) []

/-- A row of n numbers modulo p. -/
def RowOk (p : Int) (n : Nat) (xs : List Int) : Prop := xs.length = n ∧ ∀ x ∈ xs, 0 ≤ x ∧ x < p
theorem zip_ok {p t : Int} {n : Nat} {xs ys : List Int} (hp : 2 ≤ p) (hx : RowOk p n xs) (hy : RowOk p n ys) : RowOk p n (zipI (clrF p t) xs ys) := by
  refine ⟨by rw [zipI_len _ _ _ (by rw [hx.1, hy.1]), hx.1], ?_⟩
  have hl : xs.length = ys.length := by rw [hx.1, hy.1]
  clear hx hy
  induction xs generalizing ys with
  | nil => intro x hx; simp [zipI] at hx
  | cons x xs ih => cases ys with
    | nil => simp at hl
    | cons y ys =>
      intro z hz
      simp only [zipI, List.mem_cons] at hz
      rcases hz with rfl | hz
      · exact ⟨Int.emod_nonneg _ (by omega), Int.emod_lt_of_pos _ (by omega)⟩
      · exact ih (by simpa using hl) z hz
theorem clr_ok {p : Int} {n : Nat} {xs : List Int} {f : Nat × List Int} (hp : 2 ≤ p) (hx : RowOk p n xs) (hf : RowOk p n f.2) : RowOk p n (clr p xs f) := by
  unfold clr; split
  · exact hx
  · exact zip_ok hp hx hf
theorem redL_ok {p : Int} {n : Nat} (hp : 2 ≤ p) : ∀ (fs : List (Nat × List Int)) (xs : List Int), RowOk p n xs → (∀ f ∈ fs, RowOk p n f.2) → RowOk p n (redL p xs fs)
  | [], xs, hx, _ => hx
  | f :: fs, xs, hx, hf => redL_ok hp fs (clr p xs f) (clr_ok hp hx (hf f (by simp))) (fun g hg => hf g (by simp [hg]))
theorem scl_ok {p s : Int} {n : Nat} {xs : List Int} (hp : 2 ≤ p) (hx : RowOk p n xs) : RowOk p n (scl p s xs) := by
  refine ⟨by simp [scl, hx.1], fun x h => ?_⟩
  simp only [scl, List.mem_map] at h
  obtain ⟨y, _, rfl⟩ := h
  exact ⟨Int.emod_nonneg _ (by omega), Int.emod_lt_of_pos _ (by omega)⟩
def PivOk (p : Int) (n : Nat) (f : Nat × List Int) : Prop := f.1 < n ∧ RowOk p n f.2
theorem stepP_ok {p : Int} {n : Nat} {fs : List (Nat × List Int)} {row : List Int} (hp : 2 ≤ p) (hf : ∀ f ∈ fs, PivOk p n f) (hr : RowOk p n row) : ∀ f ∈ stepP p fs row, PivOk p n f := by
  have h1 := redL_ok hp fs row hr (fun f h => (hf f h).2)
  have h2 := nz_le (redL p row fs)
  intro f hfm
  unfold stepP at hfm
  by_cases hz : nz (redL p row fs) = (redL p row fs).length
  · rw [if_pos hz] at hfm; exact hf f hfm
  · rw [if_neg hz] at hfm
    rw [List.mem_append] at hfm
    rcases hfm with hfm | hfm
    · exact hf f hfm
    · rw [List.mem_singleton] at hfm
      rw [hfm]
      exact ⟨show nz (redL p row fs) < n by rw [← h1.1]; omega, scl_ok hp h1⟩
theorem redL_take {p : Int} {row : List Int} {fs : List (Nat × List Int)} {k : Nat} (h : k < fs.length) : redL p row (fs.take (k + 1)) = clr p (redL p row (fs.take k)) fs[k] := by
  unfold redL
  rw [List.take_succ_eq_append_getElem h, List.foldl_append]
  rfl

/-! In memory. -/
theorem Try.infoPiv : (Try.prog.info? 111).map (fun i => (i.zero, i.size, i.bytes)) = some (some (.agg #[.int .i64 0, .slice none 0 0]), 2, 32) := by kernel_rfl
abbrev Piv := (Nat × List Int) × Value
def qcells : List Piv → List Value
  | [] => []
  | q :: r => .int .i64 q.1.1 :: q.2 :: qcells r
theorem qcells_len : ∀ qs, (qcells qs).length = qs.length * 2
  | [] => rfl
  | q :: r => by simp only [qcells, List.length_cons, qcells_len r]; omega
theorem qcells_at : ∀ (qs : List Piv) (k : Nat) (h : k < qs.length), (qcells qs)[2 * k]? = some (.int .i64 qs[k].1.1) ∧ (qcells qs)[2 * k + 1]? = some qs[k].2
  | [], k, h => by simp at h
  | q :: r, 0, h => by simp [qcells]
  | q :: r, k + 1, h => by
    have := qcells_at r k (by simpa using h)
    have e : 2 * (k + 1) = 2 * k + 1 + 1 := by omega
    rw [e]
    simpa [qcells] using this
theorem qcells_snoc (qs : List Piv) (q : Piv) : qcells (qs ++ [q]) = qcells qs ++ [.int .i64 q.1.1, q.2] := by
  induction qs with
  | nil => rfl
  | cons a r ih => simp [qcells, ih]

structure Found (B : Nat) (w : World) (v : Value) (qs : List Piv) : Prop where
  own : w.ownsRow B 111 2 v qs.length (qcells qs)
  rows : ∀ q ∈ qs, Own w B q.2 q.1.2
theorem ownBlock_lt {w : World} {B : Nat} {T : TypeId} {s : Nat} {v : Value} {n : Nat} {xs : List Value} (h : w.ownsRow B T s v n xs) {w' : World} (hb : Below w.heap.size w w') : w'.ownsRow B T s v n xs := by
  cases ho : v.ownBlock with
  | none => exact h.kept (below_grown (r := none) hb) (Or.inl ho)
  | some k => exact h.kept (below_grown (r := none) hb) (Or.inr (by rw [ho]; simp))
theorem Found.below {B : Nat} {w w' : World} {v : Value} {qs : List Piv} (h : Found B w v qs) (hb : Below w.heap.size w w') : Found B w' v qs :=
  ⟨ownBlock_lt h.own hb, fun q hq => ownBlock_lt (h.rows q hq) hb⟩
/-- A row of numbers lies in another block than what holds pivots. -/
theorem own_ne {w : World} {B B' : Nat} {u v : Value} {n m : Nat} {xs ys : List Value} (h : w.ownsRow B 3 1 u n xs) (k : w.ownsRow B' 111 2 v m ys) : u.ownBlock = none ∨ u.ownBlock ≠ v.ownBlock := by
  rcases h.2 with ⟨rfl, _⟩ | ⟨g, c, cur, rfl, _, hg, _⟩
  · left; rfl
  · right
    rcases k.2 with ⟨rfl, _⟩ | ⟨g', c', cur', rfl, _, hg', _⟩
    · simp [Value.ownBlock]
    · simp only [Value.ownBlock, ne_eq, Option.some.injEq]
      intro e
      subst e
      rw [hg] at hg'
      simp at hg'
theorem own_base {w : World} {B B' : Nat} {T : TypeId} {s : Nat} {v : Value} {n : Nat} {xs : List Value} (h : w.ownsRow B T s v n xs) (hb : B' ≤ B) : w.ownsRow B' T s v n xs := by
  refine ⟨h.1, ?_⟩
  rcases h.2 with h1 | ⟨g, c, cur, h1, h2, h3⟩
  · exact .inl h1
  · exact .inr ⟨g, c, cur, h1, Nat.le_trans hb h2, h3⟩
theorem Found.snoc {B : Nat} {w w1 : World} {v v' : Value} {qs : List Piv} {c : Nat} {r : List Int} {u : Value} (h : Found B w v qs) (hu : Own w B u r)
    (hown : w1.ownsRow B 111 2 v' (qs.length + 1) (qcells qs ++ [.int .i64 c, u])) (hg : w.grownBy w1 v.ownBlock) : Found B w1 v' (qs ++ [((c, r), u)]) := by
  refine ⟨by rw [qcells_snoc, List.length_append]; exact hown, fun q hq => ?_⟩
  rw [List.mem_append, List.mem_singleton] at hq
  rcases hq with hq | rfl
  · exact (h.rows q hq).kept hg (own_ne (h.rows q hq) h.own)
  · exact hu.kept hg (own_ne hu h.own)
theorem Found.sl {B : Nat} {w : World} {v : Value} {qs : List Piv} (h : Found B w v qs) : ∃ a c, v = .slice a qs.length c := by
  rcases h.own.2 with ⟨h1, h2⟩ | ⟨g, c, cur, h1, _⟩
  · exact ⟨none, 0, by rw [h1, h2]⟩
  · exact ⟨_, c, h1⟩
theorem Found.at {B : Nat} {w : World} {qs : List Piv} {a : Option Addr} {c : Nat} (h : Found B w (.slice a qs.length c) qs) (k : Nat) (hk : k < qs.length) :
    ∃ g, a = some ⟨g, 0, none⟩ ∧ B ≤ g ∧ g < w.heap.size ∧ w.cell? ⟨g, 2 * k, none⟩ = some (.int .i64 qs[k].1.1) ∧ w.cell? ⟨g, 2 * k + 1, none⟩ = some qs[k].2 := by
  have ho := h.own
  rcases h.own.2 with ⟨h1, h2⟩ | ⟨g, c', cur, h1, hB, hg, _⟩
  · omega
  · simp only [Value.slice.injEq] at h1
    obtain ⟨rfl, _, _⟩ := h1
    obtain ⟨q1, q2⟩ := qcells_at qs k hk
    have hlt := World.ownsRow.lt ho g rfl
    exact ⟨g, rfl, hlt.1, hlt.2, by rw [ho.cellAt _ (by omega)]; exact q1, by rw [ho.cellAt _ (by omega)]; exact q2⟩

set_option maxHeartbeats 400000 in
theorem nzFn_any (x : Int) (w : World) : Calls Try.prog 107 #[.int .i64 x] w fun e w' => e = .returned (.bool (x != 0)) ∧ w' = w := by
  go_enter Try.func107, Try.ntmps107
  go_wp2
  go_ret
  exact ⟨rfl, rfl⟩

set_option maxHeartbeats 400000 in
theorem indexNz_any (xs : List Int) (b off cap : Nat) (w : World) (hm : xs.length ≤ 400) (hc : IntsAt w b off xs) :
    Calls Try.prog 106 #[.slice (some ⟨b, off, none⟩) xs.length cap, .func (.func 107) #[] #[]] w fun e w' =>
      e = .returned (.int .i64 (if nz xs = xs.length then -1 else nz xs)) ∧ w' = w := by
  have HC := hid hc
  have hle := nz_le xs
  have NB := hid (nz_before xs)
  have NA := hid (nz_at xs)
  clear hc
  have HG : Hid (∀ r : Int, r = (if nz xs = xs.length then -1 else (nz xs : Int)) → Ending.returned (.int .i64 r) = .returned (.int .i64 (if nz xs = xs.length then -1 else (nz xs : Int)))) := fun r h => by rw [h]
  generalize hR : (if nz xs = xs.length then -1 else (nz xs : Int)) = R at HG
  have HR := hid hR
  clear hR
  go_enter Try.func106, Try.ntmps106
  go_wp2
  go_loop [8] (fun i => ∃ k : Nat, k ≤ nz xs ∧ i = .int .i64 k) (fun i => xs.length + 1 - (intOf i).toNat)
  case atStart => exact ⟨0, Nat.zero_le _, rfl⟩
  case round =>
    obtain ⟨k, hk, rfl⟩ := hrel
    by_cases hlt : k < xs.length
    · have hcell := HC.out k hlt
      by_cases he : k = nz xs
      · have hne : xs.getD k 0 ≠ 0 := by rw [he]; exact NA.out (by omega)
        have HF : Hid (R = (k : Int)) := by
          have := HR.out
          rw [if_neg (by omega)] at this
          unfold Hid; rw [← this, he]
        generalize xs.getD k 0 = y at hcell hne
        have hy : (y != 0) = true := by simpa using hne
        clear hne he
        go_wp2_with (go_at_call 107; refine (nzFn_any _ _).mono ?_; rintro e w' ⟨rfl, rfl⟩)
        go_ret
        exact ⟨ret_int HF.out.symm, rfl⟩
      · have hy0 : xs.getD k 0 = 0 := NB.out k (by omega)
        rw [hy0] at hcell
        clear hy0
        go_wp2_with (go_at_call 107; refine (nzFn_any _ _).mono ?_; rintro e w' ⟨rfl, rfl⟩)
        go_round
        case rel => exact ⟨k + 1, by omega, by go_num⟩
        case measure => simp [intOf]; omega
    · have HF : Hid (R = -1) := by
        have := HR.out
        rw [if_pos (by omega)] at this
        exact this.symm
      go_wp2
      go_ret
      exact ⟨ret_int HF.out.symm, rfl⟩

end Go.Proofs.Ytkmjmmnnnbjghaa

/- clone, of terms. -/
namespace Go.Proofs.Ytkmjmmnnnbjghaa
set_option linter.unusedSimpArgs false
set_option linter.unusedVariables false
open Go.RowKit

/-- A slice that lies elsewhere. -/
def Apart (g : Nat) (v : Value) : Prop := ∀ b off n c, v = .slice (some ⟨b, off, none⟩) n c → b ≠ g
/-- A row of n terms, the first ones of which are made. -/
structure Half (w : World) (wr : World) (g n : Nat) (us : List TV) : Prop where
  own : ∃ rest, wr.ownsRow w.heap.size 61 2 (.slice (some ⟨g, 0, none⟩) n n) n (flat us ++ rest) ∧ (flat us ++ rest).length = n * 2
  es : Es wr us
  apart : ∀ t ∈ us, Apart g t.2.1
  below : Below w.heap.size w wr
  ge : w.heap.size ≤ g
theorem Half.next {w wr w' : World} {g n : Nat} {us : List TV} (h : Half w wr g n us) (hb : Below wr.heap.size wr w') : Half w w' g n us := by
  obtain ⟨rest, h1, h2⟩ := h.own
  exact ⟨⟨rest, ownBlock_lt h1 hb, h2⟩, h.es.below hb, h.apart, h.below.trans (hb.mono h.below.size), h.ge⟩
theorem Half.lt {w wr : World} {g n : Nat} {us : List TV} (h : Half w wr g n us) : g < wr.heap.size := by
  obtain ⟨rest, h1, _⟩ := h.own
  exact (World.ownsRow.lt h1 g rfl).2
theorem Half.cells {w wr : World} {g n : Nat} {us : List TV} (h : Half w wr g n us) (hk : us.length < n) :
    ∃ a b, wr.cell? ⟨g, us.length * 2, none⟩ = some a ∧ wr.cell? ⟨g, us.length * 2 + 1, none⟩ = some b ∧ wr.frozen? ⟨g, us.length * 2, none⟩ = false ∧ wr.frozen? ⟨g, us.length * 2 + 1, none⟩ = false := by
  obtain ⟨rest, h1, h2⟩ := h.own
  have e1 := h1.cellAt (us.length * 2) (by omega)
  have e2 := h1.cellAt (us.length * 2 + 1) (by omega)
  rw [List.getElem?_eq_getElem (by omega)] at e1 e2
  exact ⟨_, _, e1, e2, h1.frozenAt _, h1.frozenAt _⟩
theorem set_two (l : List Value) (a b : Value) : ∀ r : List Value, 2 ≤ r.length → ((l ++ r).set l.length a).set (l.length + 1) b = l ++ [a, b] ++ r.drop 2
  | [], h => by simp at h
  | [_], h => by simp at h
  | x :: y :: r, _ => by simp [List.set_append_right]
/-- The next term is laid. -/
theorem Half.put {w wr : World} {g n : Nat} {us : List TV} (h : Half w wr g n us) (hk : us.length < n) (t : TV) (hs : Sl wr t.2.1 t.2.2) (ha : Apart g t.2.1) :
    Half w ((wr.setCell ⟨g, us.length * 2, none⟩ (.int .i64 t.1)).setCell ⟨g, us.length * 2 + 1, none⟩ t.2.1) g n (us ++ [t]) := by
  obtain ⟨rest, h1, h2⟩ := h.own
  have s1 := h1.stored (us.length * 2) (.int .i64 t.1)
  have s2 := s1.1.stored (us.length * 2 + 1) t.2.1
  have hg := grown_trans s1.2 s2.2
  rw [List.length_append, flat_len] at h2
  refine ⟨⟨rest.drop 2, ?_, ?_⟩, ?_, ?_, h.below.trans (grown_below hg h.ge h.below.size), h.ge⟩
  · have e := set_two (flat us) (.int .i64 t.1) t.2.1 rest (by omega)
    rw [flat_len] at e
    have := s2.1
    rw [e] at this
    rw [flat_append]
    exact this
  · rw [List.length_append, flat_len, List.length_drop, List.length_append]; simp; omega
  · intro u hu
    rcases List.mem_append.1 hu with hu | hu
    · exact grown_sl hg (h.es u hu) (h.apart u hu)
    · rw [List.mem_singleton] at hu; subst hu
      exact grown_sl hg hs ha
  · intro u hu
    rcases List.mem_append.1 hu with hu | hu
    · exact h.apart u hu
    · rw [List.mem_singleton] at hu; subst hu; exact ha
theorem Half.drawn {w wr : World} {g n : Nat} {us : List TV} (h : Half w wr g n us) : Half w wr.drew g n us := h.next (Below.refl _ _).drew
theorem Half.done {w wr : World} {g n : Nat} {us : List TV} (h : Half w wr g n us) (hn : us.length = n) : Pl wr (.slice (some ⟨g, 0, none⟩) n n) (us.map tm) := by
  obtain ⟨rest, h1, h2⟩ := h.own
  rw [List.length_append, flat_len] at h2
  have e : rest = [] := List.length_eq_zero_iff.1 (by omega)
  rw [e, List.append_nil] at h1
  subst hn
  exact own_pl h1 h.es
theorem Half.made {w w' : World} {n : Nat} {z : Array Value} (h : w'.ownsRow w.heap.size 61 2 (.slice (some ⟨w.heap.size, 0, none⟩) n n) n (madeCells z (n * 2)).toList) (hg : w.grownBy w' none) : Half w w' w.heap.size n [] :=
  ⟨⟨(madeCells z (n * 2)).toList, h, by simp [flat, size_madeCells]⟩, fun t ht => by simp at ht, fun t ht => by simp at ht, ⟨hg.os, hg.tape, hg.output, hg.size, fun k hk => hg.block k hk (by simp)⟩, Nat.le_refl _⟩

theorem take_tm (us : List TV) (k : Nat) (h : k < us.length) : (us.take (k + 1)).map tm = (us.take k).map tm ++ [tm (us.getD k noTV)] := by
  rw [List.take_succ_eq_append_getElem h, List.map_append]
  simp [List.getD_eq_getElem?_getD, h]
theorem own_sl' {w : World} {B : Nat} {T : TypeId} {s : Nat} {v : Value} {n : Nat} {xs : List Value} (h : w.ownsRow B T s v n xs) : ∃ a c, v = .slice a n c := by
  rcases h.2 with ⟨h1, h2⟩ | ⟨g, c, cur, h1, _⟩
  · exact ⟨none, 0, by rw [h1, h2]⟩
  · exact ⟨_, c, h1⟩
theorem ownsRow_slI {w : World} {B : Nat} {v : Value} {zs : List Int} (h : Own w B v zs) : Sl w v zs := by
  obtain ⟨_, h | ⟨g, cap, cur, rfl, hg, hh, hn, hm, hcs, ht⟩⟩ := h
  · obtain ⟨rfl, h0⟩ := h
    refine ⟨none, 0, by rw [h0], fun hp => absurd hp (by omega)⟩
  · refine ⟨_, cap, rfl, fun _ => ⟨g, 0, rfl, ?_, fun i hi => ?_⟩⟩
    · apply Nat.lt_of_not_le; intro hle; rw [Array.getElem?_eq_none hle] at hh; simp at hh
    · have e : cur.toList[i]? = some (.int .i64 (zs.getD i 0)) := by
        have h1 : (cur.toList.take (zs.length * 1))[i]? = (zs.map (Value.int .i64))[i]? := by rw [ht]
        rw [List.getElem?_take, if_pos (by omega), List.getElem?_map] at h1
        rw [h1, List.getD_eq_getElem?_getD, List.getElem?_eq_getElem hi]; rfl
      unfold World.cell?
      simp only [hh, Nat.zero_add]
      simpa using e
theorem own_apart {w : World} {B g : Nat} {v : Value} {zs : List Int} (h : Own w B v zs) (hg : g < B) : Apart g v := by
  intro b off n c e hb
  have hv : v.ownBlock = some b := by rw [e]; rfl
  have := (World.ownsRow.lt h b hv).1
  omega

set_option maxHeartbeats 1000000 in
theorem bareClone_any (v : Value) (ts : List Tm) (w : World) (hm : ts.length ≤ 4000000) (hl : ∀ t ∈ ts, t.2.length ≤ 400) (hs : Pl w v ts) :
    Calls Try.prog 135 #[v] w fun e w' => ∃ u, e = .returned u ∧ Pl w' u ts ∧ Below w.heap.size w w' := by
  obtain ⟨a, cap, us, rfl, _, hus, hes, hcs⟩ := hs.tvs
  have hul : us.length = ts.length := by rw [← hus, List.length_map]
  have HUS := hid hus
  have HES := hid hes
  have HCS := hid hcs
  have HL := hid hl
  have hm' : us.length ≤ 4000000 := by omega
  clear hs hus hes hcs hl hm hul
  obtain ⟨i0, hi, hz0, hz1, hz2⟩ := info_parts Try.infoTerm
  go_enter Try.func135, Try.ntmps135
  go_wp2_with (at_make; refine wpList_make_full _ rfl _ _ 54 rfl w.heap.size 61 i0 _ 2 Try.underlying54 hi hz0 hz1 .i64 .i64 _ _ us.length rfl rfl rfl rfl (by rw [hz2]; omega) (by unfold maxLen; omega) (Nat.le_refl _) ?_; intro w1 hown hgrow; have HH := hid (Half.made hown hgrow); clear hown hgrow)
  clear hi hz0 hz1 hz2
  go_loopw [11] (fun i wr => ∃ k : Nat, k ≤ us.length ∧ i = .int .i64 k ∧ ∃ vs : List TV, vs.length = k ∧ vs.map tm = (us.take k).map tm ∧ Half w wr w.heap.size us.length vs) (fun i _ => us.length - (intOf i).toNat)
  case atStart => exact ⟨0, Nat.zero_le _, rfl, [], rfl, rfl, HH.out⟩
  case round =>
    clear HH
    obtain ⟨k, hk, rfl, vs, hvk, hvt, hh⟩ := hrel
    have HH := hid hh
    clear hh
    by_cases hk2 : k < us.length
    · obtain ⟨b, off, rfl, hlt, hcell⟩ := HCS.out (by omega)
      have hf := flat_at us k hk2
      have c0 := hcell _ _ hf.1
      have c1 := hcell _ _ hf.2
      rw [← HH.out.below.cell (p := ⟨b, off + k * 2, none⟩) hlt] at c0
      rw [← Nat.add_assoc, ← HH.out.below.cell (p := ⟨b, off + k * 2 + 1, none⟩) hlt] at c1
      have HSL := hid (HES.out _ (tv_mem us k hk2))
      have HT := hid (take_tm us k hk2)
      have HLE := hid (HL.out (tm (us.getD k noTV)) (by rw [← HUS.out]; exact List.mem_map_of_mem (tv_mem us k hk2)))
      generalize us.getD k noTV = t at c0 c1 HSL HT HLE
      obtain ⟨tc, tv, te⟩ := t
      obtain ⟨ea, ec, he, _⟩ := HSL.out
      simp only at c0 c1 he
      subst he
      subst hvk
      clear hf hcell
      have H1 := hid (HH.out.next (belowNew (A := .cells #[.int .i64 tc, .slice ea te.length ec] 61)))
      have HB1 := hid (HH.out.below.trans ((belowNew (w := wr) (A := .cells #[.int .i64 tc, .slice ea te.length ec] 61)).mono HH.out.below.size))
      have D0 : Hid ((wr.alloc (.cells #[.int .i64 tc, .slice ea te.length ec] 61)).drew.cell? ⟨wr.heap.size, 0, none⟩ = some (.int .i64 tc)) := by show _ = _; simp [go_sem]
      go_wp2
      go_region_with (go_at_call 81; refine (clone_any _ te _ HLE.out ((HSL.out.below HB1.out).below (Below.refl _ _).drew)).mono ?_; rintro e w9 ⟨u, rfl, hu, hb9⟩; have HH9 := hid (H1.out.drawn.next hb9); have HU := hid (And.intro (ownsRow_slI hu) (own_apart hu (H1.out.drawn.lt))); obtain ⟨x0, x1, y0, y1, z0, z1⟩ := HH9.out.cells hk2; have d0 := D0.out; rw [← hb9.cell (by simp)] at d0; obtain ⟨ua, uc, rfl⟩ := own_sl' hu; clear hb9 hu)
      all_goals
        go_wp2
        go_roundw
        case rel => exact ⟨vs.length + 1, by omega, by go_num, vs ++ [_], by simp, by rw [List.map_append, hvt, HT.out]; rfl, HH9.out.put hk2 (tc, _, te) HU.out.1 HU.out.2⟩
        case measure => simp [intOf]; omega
    · have e : k = us.length := by omega
      subst e
      go_wp2
      go_ret
      refine ⟨_, rfl, ?_, HH.out.below⟩
      have h := HH.out.done hvk
      rw [hvt, List.take_of_length_le (Nat.le_refl _), HUS.out] at h
      exact h

end Go.Proofs.Ytkmjmmnnnbjghaa

/- scale, by a term. -/
namespace Go.Proofs.Ytkmjmmnnnbjghaa
set_option linter.unusedSimpArgs false
set_option linter.unusedVariables false
open Go.RowKit

theorem prodT_take (p : Int) (b : Tm) (us : List TV) (k : Nat) (h : k < us.length) : prodT p b ((us.take (k + 1)).map tm) = prodT p b ((us.take k).map tm) ++ [(b.1 * (us.getD k noTV).1 % p, zipI (· + ·) b.2 (us.getD k noTV).2.2)] := by
  rw [take_tm us k h]; simp [prodT, tm]
theorem Half.down {w w2 wr : World} {g n : Nat} {us : List TV} (h : Half w2 wr g n us) (hb : Below w.heap.size w w2) : Below w.heap.size w wr := hb.trans (h.below.mono hb.size)
theorem mulBd {a b : Int} (h : 0 ≤ a ∧ a ≤ 101 ∧ 0 ≤ b ∧ b ≤ 101) : 0 ≤ a * b ∧ a * b ≤ 10201 := by
  obtain ⟨h1, h2, h3, h4⟩ := h
  refine ⟨Int.mul_nonneg h1 h3, ?_⟩
  have := Int.mul_le_mul h2 h4 h3 (by omega : (0 : Int) ≤ 101)
  omega

theorem scaleStart {w w1 : World} {p n o v bc : Int} {bv : Value} {T1 T2 : TypeId} {m : Nat} {z : Array Value}
    (h : w1.ownsRow (w.heap.size + 1 + 1) 61 2 (.slice (some ⟨((w.alloc (.cells #[.int .i64 p, .int .i64 n, .int .i64 o, .int .i64 v] T1)).alloc (.cells #[.int .i64 bc, bv] T2)).heap.size, 0, none⟩) m m) m (madeCells z (m * 2)).toList)
    (hg : ((w.alloc (.cells #[.int .i64 p, .int .i64 n, .int .i64 o, .int .i64 v] T1)).alloc (.cells #[.int .i64 bc, bv] T2)).grownBy w1 none) :
    ∃ w2, Below w.heap.size w w2 ∧ w2.heap.size = w.heap.size + 1 + 1 ∧ w2.cell? ⟨w.heap.size, 0, none⟩ = some (.int .i64 p) ∧ w2.cell? ⟨w.heap.size + 1, 0, none⟩ = some (.int .i64 bc) ∧ w2.cell? ⟨w.heap.size + 1, 1, none⟩ = some bv ∧ Half w2 w1 (w.heap.size + 1 + 1) m [] := by
  refine ⟨(w.alloc (.cells #[.int .i64 p, .int .i64 n, .int .i64 o, .int .i64 v] T1)).alloc (.cells #[.int .i64 bc, bv] T2), below_two, by simp, by simp [go_sem], by simp [go_sem], by simp [go_sem], ?_⟩
  have e : ((w.alloc (.cells #[.int .i64 p, .int .i64 n, .int .i64 o, .int .i64 v] T1)).alloc (.cells #[.int .i64 bc, bv] T2)).heap.size = w.heap.size + 1 + 1 := by simp
  have k := Half.made (w := (w.alloc (.cells #[.int .i64 p, .int .i64 n, .int .i64 o, .int .i64 v] T1)).alloc (.cells #[.int .i64 bc, bv] T2)) (n := m) (z := z) (by rw [e]; rw [e] at h; exact h) hg
  rw [e] at k
  exact k

set_option maxHeartbeats 2000000 in
theorem bareScale_any (p n o v bc : Int) (bv : Value) (be : List Int) (fv : Value) (ts : List Tm) (w : World) (hp : 2 ≤ p ∧ p ≤ 101) (hbc : 0 ≤ bc ∧ bc < p) (h0 : 0 < be.length) (hbl : be.length ≤ 3)
    (hbe : ∀ x ∈ be, 0 ≤ x ∧ x ≤ 200) (hts : ∀ t ∈ ts, t.2.length = be.length ∧ (∀ x ∈ t.2, 0 ≤ x ∧ x ≤ 200) ∧ 0 ≤ t.1 ∧ t.1 < p) (hm : ts.length ≤ 4000000) (hs : Sl w bv be) (hf : Pl w fv ts) :
    Calls Try.prog 137 #[ringV p n o v, .agg #[.int .i64 bc, bv], fv] w fun e w' => ∃ u, e = .returned u ∧ Pl w' u (prodT p (bc, be) ts) ∧ Below w.heap.size w w' := by
  obtain ⟨a, cap, us, rfl, _, hus, hes, hcs⟩ := hf.tvs
  obtain ⟨ba, bcap, rfl, hbs⟩ := hs
  obtain ⟨bb, boff, rfl, hblt, hbint⟩ := hbs h0
  have hul : us.length = ts.length := by rw [← hus, List.length_map]
  have HUS := hid hus
  have HES := hid hes
  have HCS := hid hcs
  have HBE := hid hbe
  have HBI := hid hbint
  have HTS : Hid (∀ t ∈ us, t.2.2.length = be.length ∧ (∀ x ∈ t.2.2, 0 ≤ x ∧ x ≤ 200) ∧ 0 ≤ t.1 ∧ t.1 < p) := fun t ht => hts (tm t) (by rw [← hus]; exact List.mem_map_of_mem ht)
  have hm' : us.length ≤ 4000000 := by omega
  clear hf hus hes hcs hts hm hul hbs hbe hbint
  obtain ⟨i0, hi, hz0, hz1, hz2⟩ := info_parts Try.infoTerm
  obtain ⟨hp1, hp2⟩ := hp
  obtain ⟨hc1, hc2⟩ := hbc
  go_enter Try.func137, Try.ntmps137
  go_wp2_with (at_make; refine wpList_make_full _ rfl _ _ 54 rfl (w.heap.size + 1 + 1) 61 i0 _ 2 Try.underlying54 hi hz0 hz1 .i64 .i64 _ _ us.length rfl rfl rfl rfl (by rw [hz2]; omega) (by unfold maxLen; omega) (by simp) ?_; intro w1 hown hgrow; have HX := hid (scaleStart hown hgrow); clear hown hgrow)
  clear hi hz0 hz1 hz2
  obtain ⟨w2, hb2, hsz, kp, kc, kv, hh⟩ := HX.out
  have HB2 := hid hb2
  have HK := hid (And.intro hsz (And.intro kp (And.intro kc kv)))
  have HH0 := hid hh
  clear HX hb2 hsz kp kc kv hh
  go_loopw [17] (fun i wr => ∃ k : Nat, k ≤ us.length ∧ i = .int .i64 k ∧ ∃ vs : List TV, vs.length = k ∧ vs.map tm = prodT p (bc, be) ((us.take k).map tm) ∧ Half w2 wr (w.heap.size + 1 + 1) us.length vs) (fun i _ => us.length - (intOf i).toNat)
  case atStart => exact ⟨0, Nat.zero_le _, rfl, [], rfl, rfl, HH0.out⟩
  case round =>
    clear HH0
    obtain ⟨wo, hwo⟩ : ∃ wo : World, wo = wr := ⟨_, rfl⟩
    subst hwo
    obtain ⟨k, hk, rfl, vs, hvk, hvt, hh⟩ := hrel
    have HH := hid hh
    clear hh
    by_cases hk2 : k < us.length
    · obtain ⟨b, off, rfl, hlt, hcell⟩ := HCS.out (by omega)
      have hf := flat_at us k hk2
      have c0 := hcell _ _ hf.1
      have c1 := hcell _ _ hf.2
      have HDN := hid (HH.out.down HB2.out)
      rw [← HDN.out.cell (p := ⟨b, off + k * 2, none⟩) hlt] at c0
      rw [← Nat.add_assoc, ← HDN.out.cell (p := ⟨b, off + k * 2 + 1, none⟩) hlt] at c1
      have HSL := hid (HES.out _ (tv_mem us k hk2))
      have HT := hid (prodT_take p (bc, be) us k hk2)
      have HLE := hid (HTS.out _ (tv_mem us k hk2))
      generalize us.getD k noTV = t at c0 c1 HSL HT HLE
      obtain ⟨tc, tv, te⟩ := t
      obtain ⟨ea, ec, he, hei⟩ := HSL.out
      simp only at c0 c1 he
      subst he
      subst hvk
      have hte : te.length ≤ 3 := by have := HLE.out.1; simp only at this; omega
      have hte0 : 0 < te.length := by have := HLE.out.1; simp only at this; omega
      obtain ⟨eb, eoff, rfl, helt, heint⟩ := hei hte0
      have HEI := hid heint
      clear hf hcell hei heint
      -- the world with the term's own box
      obtain ⟨w3, hw3⟩ : ∃ w3, w3 = wo.alloc (.cells #[.int .i64 tc, .slice (some ⟨eb, eoff, none⟩) te.length ec] 61) := ⟨_, rfl⟩
      have hb3 : Below wo.heap.size wo w3 := by rw [hw3]; exact belowNew
      have hs3 : w3.heap.size = wo.heap.size + 1 := by rw [hw3]; simp
      have q0 : w3.cell? ⟨wo.heap.size, 0, none⟩ = some (.int .i64 tc) := by rw [hw3]; simp [go_sem]
      have q1 : w3.cell? ⟨wo.heap.size, 1, none⟩ = some (.slice (some ⟨eb, eoff, none⟩) te.length ec) := by rw [hw3]; simp [go_sem]
      have hwl : w.heap.size + 1 + 1 < wo.heap.size := HH.out.lt
      have H3 := hid (HH.out.next hb3)
      have HD3 := hid (HDN.out.trans (hb3.mono HDN.out.size))
      have HQ := hid (And.intro q0 q1)
      have HS3 := hid (And.intro hs3 hwl)
      have HB3 := hid hb3
      have HW3 := hid hw3
      clear q0 q1 hs3 hwl hb3 hw3
      have HLZ := hid (zipI_len (· + ·) be te HLE.out.1.symm)
      have hmk := fun (w : World) => run_make_row' (P := Try.prog) 36 3 (.int .i64 0) 8 Try.underlying36 Try.info_int rfl .i64 .i64 te.length (by omega) (by omega) w
      go_wp2
      clear hmk c0 c1
      go_loopw [28] (fun i wx => ∃ j : Nat, j ≤ te.length ∧ i = .int .i64 j ∧ OwnK w3 wx te.length j (zipI (· + ·) be te)) (fun i _ => te.length - (intOf i).toNat)
      case atStart => exact ⟨0, Nat.zero_le _, rfl, by rw [HW3.out]; exact OwnK.start _ _ _⟩
      case round =>
        obtain ⟨j, hj, rfl, hown⟩ := hrel
        have HO := hid hown
        clear hown
        by_cases hj2 : j < te.length
        · have hjb : j < be.length := by have := HLE.out.1; omega
          have HXD := hid (HD3.out.trans (HO.out.1.mono HD3.out.size))
          have x0 := HBI.out j hjb
          have x1 := HEI.out j hj2
          have HZ := hid (zipI_at (· + ·) be te HLE.out.1.symm j hjb)
          have hx := HBE.out _ (getD_mem be j hjb)
          have hy := HLE.out.2.1 _ (getD_mem te j hj2)
          generalize be.getD j 0 = x at x0 HZ hx
          generalize te.getD j 0 = y at x1 HZ hy
          rw [← HXD.out.cell (p := ⟨bb, boff + j, none⟩) hblt] at x0
          rw [← HXD.out.cell (p := ⟨eb, eoff + j, none⟩) helt] at x1
          have b1 := HK.out.2.2.2
          rw [← H3.out.below.cell (p := ⟨w.heap.size + 1, 1, none⟩) (by rw [HK.out.1]; simp), ← HO.out.1.cell (p := ⟨w.heap.size + 1, 1, none⟩) (by have := HS3.out; simp only; omega)] at b1
          have b2 := HQ.out.2
          rw [← HO.out.1.cell (p := ⟨wo.heap.size, 1, none⟩) (by have := HS3.out; simp only; omega)] at b2
          obtain ⟨hsome, hfr⟩ := HO.out.2.2.1 j hj2
          rw [HS3.out.1] at hsome hfr
          obtain ⟨u, hu⟩ := Option.isSome_iff_exists.1 hsome
          obtain ⟨hx1, hx2⟩ := hx
          obtain ⟨hy1, hy2⟩ := hy
          clear hsome
          go_wp2
          go_region
          all_goals
            go_wp2
            go_roundw
            case rel => exact ⟨j + 1, by omega, by go_num, by have h := (HO.out.step hj2 _ HZ.out.symm).drawn; rw [HS3.out.1] at h; exact h⟩
            case measure => simp [intOf]; omega
        · have e : j = te.length := by omega
          subst e
          have HXB := hid (HB3.out.trans (HO.out.1.mono HB3.out.size))
          have HHx := hid (HH.out.next HXB.out)
          have HSx : Hid (Sl wr (.slice (some ⟨wo.heap.size + 1, 0, none⟩) te.length te.length) (zipI (· + ·) be te)) := by
            have h : OwnK w3 wr (zipI (· + ·) be te).length (zipI (· + ·) be te).length (zipI (· + ·) be te) := by rw [HLZ.out, ← HLE.out.1]; exact HO.out
            have h2 := h.sl
            rw [HS3.out.1, HLZ.out, ← HLE.out.1] at h2
            exact h2
          have b0 := HK.out.2.2.1
          rw [← H3.out.below.cell (p := ⟨w.heap.size + 1, 0, none⟩) (by rw [HK.out.1]; simp), ← HO.out.1.cell (p := ⟨w.heap.size + 1, 0, none⟩) (by have := HS3.out; simp only; omega)] at b0
          have r0 := HK.out.2.1
          rw [← H3.out.below.cell (p := ⟨w.heap.size, 0, none⟩) (by rw [HK.out.1]; simp; omega), ← HO.out.1.cell (p := ⟨w.heap.size, 0, none⟩) (by have := HS3.out; simp only; omega)] at r0
          have t0 := HQ.out.1
          rw [← HO.out.1.cell (p := ⟨wo.heap.size, 0, none⟩) (by have := HS3.out; simp only; omega)] at t0
          obtain ⟨x0, x1, y0, y1, z0, z1⟩ := HHx.out.cells hk2
          have hmul := mulBd (a := bc) (b := tc) ⟨by omega, by omega, HLE.out.2.2.1, by have := HLE.out.2.2.2; omega⟩
          obtain ⟨hm1, hm2⟩ := hmul
          have HAP : Hid (Apart (w.heap.size + 1 + 1) (.slice (some ⟨wo.heap.size + 1, 0, none⟩) te.length te.length)) := by
            intro b' off' n' c' e' hb'
            simp only [Value.slice.injEq, Option.some.injEq, Addr.mk.injEq] at e'
            have := HS3.out.2
            omega
          go_wp2
          go_roundw
          case rel => exact ⟨vs.length + 1, by omega, by go_num, vs ++ [_], by simp, by rw [List.map_append, hvt, HT.out]; rfl, HHx.out.put hk2 (bc * tc % p, _, zipI (· + ·) be te) HSx.out HAP.out⟩
          case measure => simp [intOf]; omega
    · have e : k = us.length := by omega
      subst e
      go_wp2
      go_ret
      refine ⟨_, rfl, ?_, HH.out.down HB2.out⟩
      have h := HH.out.done hvk
      rw [hvt, List.take_of_length_le (Nat.le_refl _), HUS.out] at h
      exact h

end Go.Proofs.Ytkmjmmnnnbjghaa
