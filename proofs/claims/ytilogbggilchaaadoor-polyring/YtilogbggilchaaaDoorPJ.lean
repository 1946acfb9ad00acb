/- sumOf, by halves. -/
import Derived.Test.YtilogbggilchaaaDoorPI
namespace Go.Proofs.YtilogbggilchaaaDoor
set_option linter.unusedSimpArgs false
set_option linter.unusedVariables false
open Go.RowKit
def Bd (ts : List Tm) : Prop := ∀ t ∈ ts, ∀ x ∈ t.2, 0 ≤ x ∧ x ≤ 400
theorem Bd.merge {p o : Int} {f g : List Tm} (hf : Bd f) (hg : Bd g) : Bd (mergeL p o f g) := by
  intro x hx
  obtain ⟨t, ht, e⟩ := merge_mem f g x hx
  rw [e]
  exact (List.mem_append.1 ht).elim (hf t) (hg t)
theorem tok_of {p o : Int} {N : Nat} {ts : List Tm} (h : Canon p o N ts) (hb : Bd ts) : ∀ t ∈ ts, Tok p N t := fun t ht => ⟨h.len t ht, hb t ht, by have := h.coef t ht; omega, (h.coef t ht).2⟩
theorem cat_len {F : Nat → List Tm} {L : Nat} : ∀ (k a : Nat), (∀ i, i < a + k → (F i).length ≤ L) → (cat F a k).length ≤ k * L
  | 0, a, _ => by simp [cat]
  | k + 1, a, h => by
    rw [Nat.add_comm k 1, cat_add, cat_one, List.length_append]
    have h1 := h a (by omega)
    have h2 := cat_len k (a + 1) (fun i hi => h i (by omega))
    rw [Nat.add_mul]; omega
theorem mul_le4 {k M L : Nat} (h : k ≤ M) (hm : M * L ≤ 4000000) : k * L ≤ 4000000 := Nat.le_trans (Nat.mul_le_mul_right L h) hm
structure SumR (p o : Int) (N : Nat) (F : Nat → List Tm) (a k : Nat) (w' : World) (u : Value) (ts : List Tm) : Prop where
  pl : Pl w' u ts
  canon : Canon p o N ts
  same : Same p ts (cat F a k)
  len : ts.length ≤ (cat F a k).length
  bd : Bd ts
theorem SumR.below {p o : Int} {N : Nat} {F : Nat → List Tm} {a k : Nat} {w' w2 : World} {u : Value} {ts : List Tm} (h : SumR p o N F a k w' u ts) (hb : Below w'.heap.size w' w2) : SumR p o N F a k w2 u ts := ⟨h.pl.below hb, h.canon, h.same, h.len, h.bd⟩
theorem SumR.merge {p o : Int} {N : Nat} {F : Nat → List Tm} {a m b : Nat} {w' w2 : World} {u u1 u2 : Value} {ts us : List Tm} (hp : 2 ≤ p) (hm : a ≤ m) (hb : m ≤ b) (h : SumR p o N F a (m - a) w' u1 ts) (k : SumR p o N F m (b - m) w' u2 us) (hu : Pl w2 u (mergeL p o ts us)) : SumR p o N F a (b - a) w2 u (mergeL p o ts us) := by
  have e : cat F a (b - a) = cat F a (m - a) ++ cat F m (b - m) := by
    rw [show b - a = (m - a) + (b - m) by omega, cat_add, show a + (m - a) = m by omega]
  refine ⟨hu, merge_canon hp ts us h.canon k.canon, ?_, ?_, h.bd.merge k.bd⟩
  · rw [e]
    exact (merge_same ts us h.canon.len k.canon.len).trans (h.same.append k.same)
  · rw [e, List.length_append]
    have := merge_length (p := p) (o := o) ts us
    have := h.len
    have := k.len
    omega

set_option maxRecDepth 100000 in
set_option maxHeartbeats 2000000 in
theorem sumOfS_any (p n o v : Int) (N M L : Nat) (F : Nat → List Tm) (pb : Nat) (w0 : World) (hp : 2 ≤ p ∧ p ≤ 101) (ho : o = 1 ∨ o = 2) (hN0 : 0 < N) (hN : N ≤ 3) (hF : ∀ i, i < M → Canon p o N (F i) ∧ Bd (F i) ∧ (F i).length ≤ L) (hM : M ≤ 4000000) (hL : M * L ≤ 4000000)
    (H : ∀ i w', i < M → Below w0.heap.size w0 w' → Calls Tryd.prog 55 #[.int .i64 i, .pointer (some ⟨pb, 0, none⟩)] w' fun e w'' => ∃ u, e = .returned u ∧ Pl w'' u (F i) ∧ Below w'.heap.size w' w'') :
    ∀ (K a b : Nat) (w : World), b - a ≤ K → a ≤ b → b ≤ M → Below w0.heap.size w0 w →
      Calls Tryd.prog 54 #[ringV p n o v, .int .i64 a, .int .i64 b, .func (.func 55) #[] #[.pointer (some ⟨pb, 0, none⟩)]] w fun e w' => ∃ u ts, e = .returned u ∧ SumR p o N F a (b - a) w' u ts ∧ Below w.heap.size w w' := by
  intro K
  induction K with
  | zero =>
    intro a b w hk hab hbM hw0
    have e : b = a := by omega
    subst e
    go_enter Tryd.func54, Tryd.ntmps54
    go_wp2
    go_ret
    refine ⟨_, [], rfl, ⟨Pl.empty _, ⟨fun t ht => by simp at ht, trivial, fun t ht => by simp at ht⟩, ?_, by simp, fun t ht => by simp at ht⟩, below_oneG⟩
    rw [Nat.sub_self, cat_zero]; exact Same.refl _ _
  | succ K ih =>
    intro a b w hk hab hbM hw0
    have HH := hid H
    have HF := hid hF
    have IH := hid ih
    have HW0 := hid hw0
    have HO := hid ho
    have HP := hid hp
    clear H hF ih hw0 ho hp
    by_cases h0 : b = a
    · subst h0
      go_enter Tryd.func54, Tryd.ntmps54
      go_wp2
      go_ret
      refine ⟨_, [], rfl, ⟨Pl.empty _, ⟨fun t ht => by simp at ht, trivial, fun t ht => by simp at ht⟩, ?_, by simp, fun t ht => by simp at ht⟩, below_oneG⟩
      rw [Nat.sub_self, cat_zero]; exact Same.refl _ _
    · by_cases h1 : b = a + 1
      · subst h1
        have HONE : Hid (cat F a (a + 1 - a) = F a) := by show _ = _; rw [show a + 1 - a = 1 by omega, cat_one]
        have HFA := hid (HF.out a (by omega))
        go_enter Tryd.func54, Tryd.ntmps54
        go_wp2_with (go_at_call 55; refine (HH.out a _ (by omega) (HW0.out.trans (below_oneG.mono HW0.out.size))).mono ?_; rintro e w1 ⟨u, rfl, hu, hb1⟩; have HU := hid hu; have HB1 := hid hb1; obtain ⟨ua, uc, rfl, _, _⟩ := hu; clear hb1)
        go_ret
        refine ⟨_, _, rfl, ⟨HU.out, HFA.out.1, ?_, ?_, HFA.out.2.1⟩, below_oneG.trans (HB1.out.mono (by simp))⟩
        · rw [HONE.out]; exact Same.refl _ _
        · rw [HONE.out]; exact Nat.le_refl _
      · obtain ⟨m, hmid, hm1, hm2⟩ : ∃ m : Nat, ((a : Int) + (b : Int)) / 2 = (m : Int) ∧ a < m ∧ m < b := ⟨(a + b) / 2, by omega, by omega, by omega⟩
        have hne : ¬ (a : Int) = (b : Int) := by omega
        have hne1 : ¬ (a : Int) + 1 = (b : Int) := by omega
        have HLEN : Hid ((cat F a (m - a)).length + (cat F m (b - m)).length ≤ 8000000) := by
          have l1 := cat_len (F := F) (L := L) (m - a) a (fun i hi => (HF.out i (by omega)).2.2)
          have l2 := cat_len (F := F) (L := L) (b - m) m (fun i hi => (HF.out i (by omega)).2.2)
          have l3 := mul_le4 (k := m - a) (M := M) (L := L) (by omega) hL
          have l4 := mul_le4 (k := b - m) (M := M) (L := L) (by omega) hL
          show _ ≤ _
          omega
        obtain ⟨w1, hw1⟩ : ∃ w1, w1 = w.alloc (.cells #[.int .i64 p, .int .i64 n, .int .i64 o, .int .i64 v] 23) := ⟨_, rfl⟩
        have hbx : BoxAt w1 w.heap.size p n o v := by rw [hw1]; exact BoxAt.new w p n o v _
        have hbw : Below w.heap.size w w1 := by rw [hw1]; exact below_oneG
        obtain ⟨bx, bx0, bx1, bx2, bx3⟩ := hbx
        have HBW := hid hbw
        have HW1 := hid (HW0.out.trans (hbw.mono HW0.out.size))
        have KEEP : Hid (∀ W, Below w1.heap.size w1 W → (Hid (Below w1.heap.size w1 W) ∧ W.cell? ⟨w.heap.size, 0, none⟩ = some (.int .i64 p) ∧ W.cell? ⟨w.heap.size, 1, none⟩ = some (.int .i64 n) ∧ W.cell? ⟨w.heap.size, 2, none⟩ = some (.int .i64 o) ∧ W.cell? ⟨w.heap.size, 3, none⟩ = some (.int .i64 v))) :=
          fun W hb => ⟨hb, cell_keep bx0 hb, cell_keep bx1 hb, cell_keep bx2 hb, cell_keep bx3 hb⟩
        go_enter Tryd.func54, Tryd.ntmps54
        go_wp2_with fail
        rw [← hw1]
        clear hw1 hbw bx0 bx1 bx2 bx3 bx h0 h1
        go_region_held (fun W => Hid (Below w1.heap.size w1 W) ∧ W.cell? ⟨w.heap.size, 0, none⟩ = some (.int .i64 p) ∧ W.cell? ⟨w.heap.size, 1, none⟩ = some (.int .i64 n) ∧ W.cell? ⟨w.heap.size, 2, none⟩ = some (.int .i64 o) ∧ W.cell? ⟨w.heap.size, 3, none⟩ = some (.int .i64 v))
          (first | exact KEEP.out _ (Below.refl _ _).drew | exact KEEP.out _ (below_step (by assumption) hb5 (Nat.le_refl _)) | exact KEEP.out _ (below_step (by assumption) hb6 (Nat.le_refl _)) | exact KEEP.out _ (below_step (by assumption) hb7 (Nat.le_refl _)))
          (first
            | (go_at_call_of 54 (Value.int IntKind.i64 (a : Int)); refine (IH.out a m _ (by omega) (by omega) (by omega) ?_).mono ?_; exact HW1.out.trans (((Below.refl _ _).drew).mono HW1.out.size); rintro e w5 ⟨u1, ts1, rfl, hr1, hb5⟩; have R1 := hid hr1; obtain ⟨ua1, uc1, rfl, _, _⟩ := hr1.pl; clear hr1)
            | (go_at_call_of 54 (Value.int IntKind.i64 (b : Int)); refine (IH.out m b _ (by omega) (by omega) (by omega) ?_).mono ?_; exact HW1.out.trans ((Hid.out (And.left (by assumption) : Hid (Below w1.heap.size w1 w5))).mono HW1.out.size); rintro e w6 ⟨u2, ts2, rfl, hr2, hb6⟩; have R2 := hid hr2; have R12 := hid (R1.out.below hb6); obtain ⟨ua2, uc2, rfl, _, _⟩ := hr2.pl; clear hr2)
            | (go_at_call 76; refine (bareMerge_any p n o v N _ _ ts1 ts2 _ HP.out HO.out hN0 hN (tok_of R12.out.canon R12.out.bd) (tok_of R2.out.canon R2.out.bd) ?_ R12.out.pl R2.out.pl).mono ?_; (have l1 := R12.out.len; have l2 := R2.out.len; have l3 := HLEN.out; omega); rintro e w7 ⟨u3, rfl, hu3, hb7⟩; have R3 := hid hu3; obtain ⟨ua3, uc3, rfl, _, _⟩ := hu3))
        have hb17 : Below w1.heap.size w1 w7 := Hid.out (And.left (by assumption))
        go_wp2
        go_ret
        exact ⟨_, _, rfl, SumR.merge HP.out.1 (by omega) (by omega) R12.out R2.out R3.out, HBW.out.trans (hb17.mono HBW.out.size)⟩

set_option maxRecDepth 100000 in
set_option maxHeartbeats 2000000 in
theorem sumOfP_any (p n o v : Int) (N M L : Nat) (F : Nat → List Tm) (rb fb gb : Nat) (w0 : World) (hp : 2 ≤ p ∧ p ≤ 101) (ho : o = 1 ∨ o = 2) (hN0 : 0 < N) (hN : N ≤ 3) (hF : ∀ i, i < M → Canon p o N (F i) ∧ Bd (F i) ∧ (F i).length ≤ L) (hM : M ≤ 4000000) (hL : M * L ≤ 4000000)
    (H : ∀ i w', i < M → Below w0.heap.size w0 w' → Calls Tryd.prog 58 #[.int .i64 i, .pointer (some ⟨rb, 0, none⟩), .pointer (some ⟨fb, 0, none⟩), .pointer (some ⟨gb, 0, none⟩)] w' fun e w'' => ∃ u, e = .returned u ∧ Pl w'' u (F i) ∧ Below w'.heap.size w' w'') :
    ∀ (K a b : Nat) (w : World), b - a ≤ K → a ≤ b → b ≤ M → Below w0.heap.size w0 w →
      Calls Tryd.prog 54 #[ringV p n o v, .int .i64 a, .int .i64 b, .func (.func 58) #[] #[.pointer (some ⟨rb, 0, none⟩), .pointer (some ⟨fb, 0, none⟩), .pointer (some ⟨gb, 0, none⟩)]] w fun e w' => ∃ u ts, e = .returned u ∧ SumR p o N F a (b - a) w' u ts ∧ Below w.heap.size w w' := by
  intro K
  induction K with
  | zero =>
    intro a b w hk hab hbM hw0
    have e : b = a := by omega
    subst e
    go_enter Tryd.func54, Tryd.ntmps54
    go_wp2
    go_ret
    refine ⟨_, [], rfl, ⟨Pl.empty _, ⟨fun t ht => by simp at ht, trivial, fun t ht => by simp at ht⟩, ?_, by simp, fun t ht => by simp at ht⟩, below_oneG⟩
    rw [Nat.sub_self, cat_zero]; exact Same.refl _ _
  | succ K ih =>
    intro a b w hk hab hbM hw0
    have HH := hid H
    have HF := hid hF
    have IH := hid ih
    have HW0 := hid hw0
    have HO := hid ho
    have HP := hid hp
    clear H hF ih hw0 ho hp
    by_cases h0 : b = a
    · subst h0
      go_enter Tryd.func54, Tryd.ntmps54
      go_wp2
      go_ret
      refine ⟨_, [], rfl, ⟨Pl.empty _, ⟨fun t ht => by simp at ht, trivial, fun t ht => by simp at ht⟩, ?_, by simp, fun t ht => by simp at ht⟩, below_oneG⟩
      rw [Nat.sub_self, cat_zero]; exact Same.refl _ _
    · by_cases h1 : b = a + 1
      · subst h1
        have HONE : Hid (cat F a (a + 1 - a) = F a) := by show _ = _; rw [show a + 1 - a = 1 by omega, cat_one]
        have HFA := hid (HF.out a (by omega))
        go_enter Tryd.func54, Tryd.ntmps54
        go_wp2_with (go_at_call 58; refine (HH.out a _ (by omega) (HW0.out.trans (below_oneG.mono HW0.out.size))).mono ?_; rintro e w1 ⟨u, rfl, hu, hb1⟩; have HU := hid hu; have HB1 := hid hb1; obtain ⟨ua, uc, rfl, _, _⟩ := hu; clear hb1)
        go_ret
        refine ⟨_, _, rfl, ⟨HU.out, HFA.out.1, ?_, ?_, HFA.out.2.1⟩, below_oneG.trans (HB1.out.mono (by simp))⟩
        · rw [HONE.out]; exact Same.refl _ _
        · rw [HONE.out]; exact Nat.le_refl _
      · obtain ⟨m, hmid, hm1, hm2⟩ : ∃ m : Nat, ((a : Int) + (b : Int)) / 2 = (m : Int) ∧ a < m ∧ m < b := ⟨(a + b) / 2, by omega, by omega, by omega⟩
        have hne : ¬ (a : Int) = (b : Int) := by omega
        have hne1 : ¬ (a : Int) + 1 = (b : Int) := by omega
        have HLEN : Hid ((cat F a (m - a)).length + (cat F m (b - m)).length ≤ 8000000) := by
          have l1 := cat_len (F := F) (L := L) (m - a) a (fun i hi => (HF.out i (by omega)).2.2)
          have l2 := cat_len (F := F) (L := L) (b - m) m (fun i hi => (HF.out i (by omega)).2.2)
          have l3 := mul_le4 (k := m - a) (M := M) (L := L) (by omega) hL
          have l4 := mul_le4 (k := b - m) (M := M) (L := L) (by omega) hL
          show _ ≤ _
          omega
        obtain ⟨w1, hw1⟩ : ∃ w1, w1 = w.alloc (.cells #[.int .i64 p, .int .i64 n, .int .i64 o, .int .i64 v] 23) := ⟨_, rfl⟩
        have hbx : BoxAt w1 w.heap.size p n o v := by rw [hw1]; exact BoxAt.new w p n o v _
        have hbw : Below w.heap.size w w1 := by rw [hw1]; exact below_oneG
        obtain ⟨bx, bx0, bx1, bx2, bx3⟩ := hbx
        have HBW := hid hbw
        have HW1 := hid (HW0.out.trans (hbw.mono HW0.out.size))
        have KEEP : Hid (∀ W, Below w1.heap.size w1 W → (Hid (Below w1.heap.size w1 W) ∧ W.cell? ⟨w.heap.size, 0, none⟩ = some (.int .i64 p) ∧ W.cell? ⟨w.heap.size, 1, none⟩ = some (.int .i64 n) ∧ W.cell? ⟨w.heap.size, 2, none⟩ = some (.int .i64 o) ∧ W.cell? ⟨w.heap.size, 3, none⟩ = some (.int .i64 v))) :=
          fun W hb => ⟨hb, cell_keep bx0 hb, cell_keep bx1 hb, cell_keep bx2 hb, cell_keep bx3 hb⟩
        go_enter Tryd.func54, Tryd.ntmps54
        go_wp2_with fail
        rw [← hw1]
        clear hw1 hbw bx0 bx1 bx2 bx3 bx h0 h1
        go_region_held (fun W => Hid (Below w1.heap.size w1 W) ∧ W.cell? ⟨w.heap.size, 0, none⟩ = some (.int .i64 p) ∧ W.cell? ⟨w.heap.size, 1, none⟩ = some (.int .i64 n) ∧ W.cell? ⟨w.heap.size, 2, none⟩ = some (.int .i64 o) ∧ W.cell? ⟨w.heap.size, 3, none⟩ = some (.int .i64 v))
          (first | exact KEEP.out _ (Below.refl _ _).drew | exact KEEP.out _ (below_step (by assumption) hb5 (Nat.le_refl _)) | exact KEEP.out _ (below_step (by assumption) hb6 (Nat.le_refl _)) | exact KEEP.out _ (below_step (by assumption) hb7 (Nat.le_refl _)))
          (first
            | (go_at_call_of 54 (Value.int IntKind.i64 (a : Int)); refine (IH.out a m _ (by omega) (by omega) (by omega) ?_).mono ?_; exact HW1.out.trans (((Below.refl _ _).drew).mono HW1.out.size); rintro e w5 ⟨u1, ts1, rfl, hr1, hb5⟩; have R1 := hid hr1; obtain ⟨ua1, uc1, rfl, _, _⟩ := hr1.pl; clear hr1)
            | (go_at_call_of 54 (Value.int IntKind.i64 (b : Int)); refine (IH.out m b _ (by omega) (by omega) (by omega) ?_).mono ?_; exact HW1.out.trans ((Hid.out (And.left (by assumption) : Hid (Below w1.heap.size w1 w5))).mono HW1.out.size); rintro e w6 ⟨u2, ts2, rfl, hr2, hb6⟩; have R2 := hid hr2; have R12 := hid (R1.out.below hb6); obtain ⟨ua2, uc2, rfl, _, _⟩ := hr2.pl; clear hr2)
            | (go_at_call 76; refine (bareMerge_any p n o v N _ _ ts1 ts2 _ HP.out HO.out hN0 hN (tok_of R12.out.canon R12.out.bd) (tok_of R2.out.canon R2.out.bd) ?_ R12.out.pl R2.out.pl).mono ?_; (have l1 := R12.out.len; have l2 := R2.out.len; have l3 := HLEN.out; omega); rintro e w7 ⟨u3, rfl, hu3, hb7⟩; have R3 := hid hu3; obtain ⟨ua3, uc3, rfl, _, _⟩ := hu3))
        have hb17 : Below w1.heap.size w1 w7 := Hid.out (And.left (by assumption))
        go_wp2
        go_ret
        exact ⟨_, _, rfl, SumR.merge HP.out.1 (by omega) (by omega) R12.out R2.out R3.out, HBW.out.trans (hb17.mono HBW.out.size)⟩
end Go.Proofs.YtilogbggilchaaaDoor
