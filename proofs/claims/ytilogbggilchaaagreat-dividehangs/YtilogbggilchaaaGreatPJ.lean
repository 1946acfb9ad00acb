/- sumOf, by halves. -/
import Derived.Test.YtilogbggilchaaaGreatPI
namespace Go.Proofs.YtilogbggilchaaaGreat
set_option linter.unusedSimpArgs false
set_option linter.unusedVariables false
open Go.RowKit
def Bd (ts : List Tm) : Prop := ∀ t ∈ ts, ∀ x ∈ t.2, 0 ≤ x ∧ x ≤ 40000
theorem Bd.merge {p o : Int} {f g : List Tm} (hf : Bd f) (hg : Bd g) : Bd (mergeL p o f g) := by
  intro x hx
  obtain ⟨t, ht, e⟩ := merge_mem f g x hx
  rw [e]
  exact (List.mem_append.1 ht).elim (hf t) (hg t)
theorem tok_of {p o : Int} {N : Nat} {ts : List Tm} (h : Canon p o N ts) (hb : Bd ts) : ∀ t ∈ ts, Tok p N t := fun t ht => ⟨h.len t ht, hb t ht, by have := h.coef t ht; omega, (h.coef t ht).2⟩
theorem cat_len {F : Nat → List Tm} {L : Nat} : ∀ (k a : Nat), (∀ i, i < a + k → (F i).length ≤ L) → (cat F a k).length ≤ k * L
  | 0, a, _ => by simp [cat]
  | k + 1, a, h => by
    rw [Nat.add_comm k 1, cat_add, cat_one, List.length_append]
    have h1 := h a (by omega)
    have h2 := cat_len k (a + 1) (fun i hi => h i (by omega))
    rw [Nat.add_mul]; omega
theorem mul_le4 {k M L : Nat} (h : k ≤ M) (hm : M * L ≤ 1200000000000) : k * L ≤ 1200000000000 := Nat.le_trans (Nat.mul_le_mul_right L h) hm
structure SumR (p o : Int) (N : Nat) (F : Nat → List Tm) (a k : Nat) (w' : World) (u : Value) (ts : List Tm) : Prop where
  pl : Pl w' u ts
  canon : Canon p o N ts
  same : Same p ts (cat F a k)
  len : ts.length ≤ (cat F a k).length
  bd : Bd ts
theorem SumR.below {p o : Int} {N : Nat} {F : Nat → List Tm} {a k : Nat} {w' w2 : World} {u : Value} {ts : List Tm} (h : SumR p o N F a k w' u ts) (hb : Below w'.heap.size w' w2) : SumR p o N F a k w2 u ts := ⟨h.pl.below hb, h.canon, h.same, h.len, h.bd⟩
theorem SumR.merge {p o : Int} {N : Nat} {F : Nat → List Tm} {a m b : Nat} {w' w2 : World} {u u1 u2 : Value} {ts us : List Tm} (hp : 2 ≤ p) (hm : a ≤ m) (hb : m ≤ b) (h : SumR p o N F a (m - a) w' u1 ts) (k : SumR p o N F m (b - m) w' u2 us) (hu : Pl w2 u (mergeL p o ts us)) : SumR p o N F a (b - a) w2 u (mergeL p o ts us) := by
  have e : cat F a (b - a) = cat F a (m - a) ++ cat F m (b - m) := by
    rw [show b - a = (m - a) + (b - m) by omega, cat_add, show a + (m - a) = m by omega]
  refine ⟨hu, merge_canon hp ts us h.canon k.canon, ?_, ?_, h.bd.merge k.bd⟩
  · rw [e]
    exact (merge_same ts us h.canon.len k.canon.len).trans (h.same.append k.same)
  · rw [e, List.length_append]
    have := merge_length (p := p) (o := o) ts us
    have := h.len
    have := k.len
    omega

set_option maxRecDepth 100000 in
set_option maxHeartbeats 2000000 in
theorem sumOfS_any (p n o v : Int) (N M L : Nat) (F : Nat → List Tm) (pb : Nat) (w0 : World) (hp : 2 ≤ p ∧ p ≤ 101) (ho : o = 1 ∨ o = 2) (hN0 : 0 < N) (hN : N ≤ 3) (hF : ∀ i, i < M → Canon p o N (F i) ∧ Bd (F i) ∧ (F i).length ≤ L) (hM : M ≤ 1200000000000) (hL : M * L ≤ 1200000000000)
    (H : ∀ i w', i < M → Below w0.heap.size w0 w' → Calls Tryz.prog 115 #[.int .i64 i, .pointer (some ⟨pb, 0, none⟩)] w' fun e w'' => ∃ u, e = .returned u ∧ Pl w'' u (F i) ∧ Below w'.heap.size w' w'') :
    ∀ (K a b : Nat) (w : World), b - a ≤ K → a ≤ b → b ≤ M → Below w0.heap.size w0 w →
      Calls Tryz.prog 114 #[ringV p n o v, .int .i64 a, .int .i64 b, .func (.func 115) #[] #[.pointer (some ⟨pb, 0, none⟩)]] w fun e w' => ∃ u ts, e = .returned u ∧ SumR p o N F a (b - a) w' u ts ∧ Below w.heap.size w w' := by
  intro K
  induction K with
  | zero =>
    intro a b w hk hab hbM hw0
    have e : b = a := by omega
    subst e
    go_enter Tryz.func114, Tryz.ntmps114
    go_wp2
    go_ret
    refine ⟨_, [], rfl, ⟨Pl.empty _, ⟨fun t ht => by simp at ht, trivial, fun t ht => by simp at ht⟩, ?_, by simp, fun t ht => by simp at ht⟩, below_oneG⟩
    rw [Nat.sub_self, cat_zero]; exact Same.refl _ _
  | succ K ih =>
    intro a b w hk hab hbM hw0
    have HH := hid H
    have HF := hid hF
    have IH := hid ih
    have HW0 := hid hw0
    have HO := hid ho
    have HP := hid hp
    clear H hF ih hw0 ho hp
    by_cases h0 : b = a
    · subst h0
      go_enter Tryz.func114, Tryz.ntmps114
      go_wp2
      go_ret
      refine ⟨_, [], rfl, ⟨Pl.empty _, ⟨fun t ht => by simp at ht, trivial, fun t ht => by simp at ht⟩, ?_, by simp, fun t ht => by simp at ht⟩, below_oneG⟩
      rw [Nat.sub_self, cat_zero]; exact Same.refl _ _
    · by_cases h1 : b = a + 1
      · subst h1
        have HONE : Hid (cat F a (a + 1 - a) = F a) := by show _ = _; rw [show a + 1 - a = 1 by omega, cat_one]
        have HFA := hid (HF.out a (by omega))
        go_enter Tryz.func114, Tryz.ntmps114
        go_wp2_with (go_at_call 115; refine (HH.out a _ (by omega) (HW0.out.trans (below_oneG.mono HW0.out.size))).mono ?_; rintro e w1 ⟨u, rfl, hu, hb1⟩; have HU := hid hu; have HB1 := hid hb1; obtain ⟨ua, uc, rfl, _, _⟩ := hu; clear hb1)
        go_ret
        refine ⟨_, _, rfl, ⟨HU.out, HFA.out.1, ?_, ?_, HFA.out.2.1⟩, below_oneG.trans (HB1.out.mono (by simp))⟩
        · rw [HONE.out]; exact Same.refl _ _
        · rw [HONE.out]; exact Nat.le_refl _
      · obtain ⟨m, hmid, hm1, hm2⟩ : ∃ m : Nat, ((a : Int) + (b : Int)) / 2 = (m : Int) ∧ a < m ∧ m < b := ⟨(a + b) / 2, by omega, by omega, by omega⟩
        have hne : ¬ (a : Int) = (b : Int) := by omega
        have hne1 : ¬ (a : Int) + 1 = (b : Int) := by omega
        have HLEN : Hid ((cat F a (m - a)).length + (cat F m (b - m)).length ≤ 2400000000000) := by
          have l1 := cat_len (F := F) (L := L) (m - a) a (fun i hi => (HF.out i (by omega)).2.2)
          have l2 := cat_len (F := F) (L := L) (b - m) m (fun i hi => (HF.out i (by omega)).2.2)
          have l3 := mul_le4 (k := m - a) (M := M) (L := L) (by omega) hL
          have l4 := mul_le4 (k := b - m) (M := M) (L := L) (by omega) hL
          show _ ≤ _
          omega
        obtain ⟨w1, hw1⟩ : ∃ w1, w1 = w.alloc (.cells #[.int .i64 p, .int .i64 n, .int .i64 o, .int .i64 v] 23) := ⟨_, rfl⟩
        have hbx : BoxAt w1 w.heap.size p n o v := by rw [hw1]; exact BoxAt.new w p n o v _
        have hbw : Below w.heap.size w w1 := by rw [hw1]; exact below_oneG
        obtain ⟨bx, bx0, bx1, bx2, bx3⟩ := hbx
        have HBW := hid hbw
        have HW1 := hid (HW0.out.trans (hbw.mono HW0.out.size))
        have KEEP : Hid (∀ W, Below w1.heap.size w1 W → (Hid (Below w1.heap.size w1 W) ∧ W.cell? ⟨w.heap.size, 0, none⟩ = some (.int .i64 p) ∧ W.cell? ⟨w.heap.size, 1, none⟩ = some (.int .i64 n) ∧ W.cell? ⟨w.heap.size, 2, none⟩ = some (.int .i64 o) ∧ W.cell? ⟨w.heap.size, 3, none⟩ = some (.int .i64 v))) :=
          fun W hb => ⟨hb, cell_keep bx0 hb, cell_keep bx1 hb, cell_keep bx2 hb, cell_keep bx3 hb⟩
        go_enter Tryz.func114, Tryz.ntmps114
        go_wp2_with fail
        rw [← hw1]
        clear hw1 hbw bx0 bx1 bx2 bx3 bx h0 h1
        go_region_held (fun W => Hid (Below w1.heap.size w1 W) ∧ W.cell? ⟨w.heap.size, 0, none⟩ = some (.int .i64 p) ∧ W.cell? ⟨w.heap.size, 1, none⟩ = some (.int .i64 n) ∧ W.cell? ⟨w.heap.size, 2, none⟩ = some (.int .i64 o) ∧ W.cell? ⟨w.heap.size, 3, none⟩ = some (.int .i64 v))
          (first | exact KEEP.out _ (Below.refl _ _).drew | exact KEEP.out _ (below_step (by assumption) hb5 (Nat.le_refl _)) | exact KEEP.out _ (below_step (by assumption) hb6 (Nat.le_refl _)) | exact KEEP.out _ (below_step (by assumption) hb7 (Nat.le_refl _)))
          (first
            | (go_at_call_of 114 (Value.int IntKind.i64 (a : Int)); refine (IH.out a m _ (by omega) (by omega) (by omega) ?_).mono ?_; exact HW1.out.trans (((Below.refl _ _).drew).mono HW1.out.size); rintro e w5 ⟨u1, ts1, rfl, hr1, hb5⟩; have R1 := hid hr1; obtain ⟨ua1, uc1, rfl, _, _⟩ := hr1.pl; clear hr1)
            | (go_at_call_of 114 (Value.int IntKind.i64 (b : Int)); refine (IH.out m b _ (by omega) (by omega) (by omega) ?_).mono ?_; exact HW1.out.trans ((Hid.out (And.left (by assumption) : Hid (Below w1.heap.size w1 w5))).mono HW1.out.size); rintro e w6 ⟨u2, ts2, rfl, hr2, hb6⟩; have R2 := hid hr2; have R12 := hid (R1.out.below hb6); obtain ⟨ua2, uc2, rfl, _, _⟩ := hr2.pl; clear hr2)
            | (go_at_call 131; refine (bareMerge_any p n o v N _ _ ts1 ts2 _ HP.out HO.out hN0 hN (tok_of R12.out.canon R12.out.bd) (tok_of R2.out.canon R2.out.bd) ?_ R12.out.pl R2.out.pl).mono ?_; (have l1 := R12.out.len; have l2 := R2.out.len; have l3 := HLEN.out; omega); rintro e w7 ⟨u3, rfl, hu3, hb7⟩; have R3 := hid hu3; obtain ⟨ua3, uc3, rfl, _, _⟩ := hu3))
        have hb17 : Below w1.heap.size w1 w7 := Hid.out (And.left (by assumption))
        go_wp2
        go_ret
        exact ⟨_, _, rfl, SumR.merge HP.out.1 (by omega) (by omega) R12.out R2.out R3.out, HBW.out.trans (hb17.mono HBW.out.size)⟩

set_option maxRecDepth 100000 in
set_option maxHeartbeats 2000000 in
theorem sumOfP_any (p n o v : Int) (N M L : Nat) (F : Nat → List Tm) (rb fb gb : Nat) (w0 : World) (hp : 2 ≤ p ∧ p ≤ 101) (ho : o = 1 ∨ o = 2) (hN0 : 0 < N) (hN : N ≤ 3) (hF : ∀ i, i < M → Canon p o N (F i) ∧ Bd (F i) ∧ (F i).length ≤ L) (hM : M ≤ 1200000000000) (hL : M * L ≤ 1200000000000)
    (H : ∀ i w', i < M → Below w0.heap.size w0 w' → Calls Tryz.prog 129 #[.int .i64 i, .pointer (some ⟨rb, 0, none⟩), .pointer (some ⟨fb, 0, none⟩), .pointer (some ⟨gb, 0, none⟩)] w' fun e w'' => ∃ u, e = .returned u ∧ Pl w'' u (F i) ∧ Below w'.heap.size w' w'') :
    ∀ (K a b : Nat) (w : World), b - a ≤ K → a ≤ b → b ≤ M → Below w0.heap.size w0 w →
      Calls Tryz.prog 114 #[ringV p n o v, .int .i64 a, .int .i64 b, .func (.func 129) #[] #[.pointer (some ⟨rb, 0, none⟩), .pointer (some ⟨fb, 0, none⟩), .pointer (some ⟨gb, 0, none⟩)]] w fun e w' => ∃ u ts, e = .returned u ∧ SumR p o N F a (b - a) w' u ts ∧ Below w.heap.size w w' := by
  intro K
  induction K with
  | zero =>
    intro a b w hk hab hbM hw0
    have e : b = a := by omega
    subst e
    go_enter Tryz.func114, Tryz.ntmps114
    go_wp2
    go_ret
    refine ⟨_, [], rfl, ⟨Pl.empty _, ⟨fun t ht => by simp at ht, trivial, fun t ht => by simp at ht⟩, ?_, by simp, fun t ht => by simp at ht⟩, below_oneG⟩
    rw [Nat.sub_self, cat_zero]; exact Same.refl _ _
  | succ K ih =>
    intro a b w hk hab hbM hw0
    have HH := hid H
    have HF := hid hF
    have IH := hid ih
    have HW0 := hid hw0
    have HO := hid ho
    have HP := hid hp
    clear H hF ih hw0 ho hp
    by_cases h0 : b = a
    · subst h0
      go_enter Tryz.func114, Tryz.ntmps114
      go_wp2
      go_ret
      refine ⟨_, [], rfl, ⟨Pl.empty _, ⟨fun t ht => by simp at ht, trivial, fun t ht => by simp at ht⟩, ?_, by simp, fun t ht => by simp at ht⟩, below_oneG⟩
      rw [Nat.sub_self, cat_zero]; exact Same.refl _ _
    · by_cases h1 : b = a + 1
      · subst h1
        have HONE : Hid (cat F a (a + 1 - a) = F a) := by show _ = _; rw [show a + 1 - a = 1 by omega, cat_one]
        have HFA := hid (HF.out a (by omega))
        go_enter Tryz.func114, Tryz.ntmps114
        go_wp2_with (go_at_call 129; refine (HH.out a _ (by omega) (HW0.out.trans (below_oneG.mono HW0.out.size))).mono ?_; rintro e w1 ⟨u, rfl, hu, hb1⟩; have HU := hid hu; have HB1 := hid hb1; obtain ⟨ua, uc, rfl, _, _⟩ := hu; clear hb1)
        go_ret
        refine ⟨_, _, rfl, ⟨HU.out, HFA.out.1, ?_, ?_, HFA.out.2.1⟩, below_oneG.trans (HB1.out.mono (by simp))⟩
        · rw [HONE.out]; exact Same.refl _ _
        · rw [HONE.out]; exact Nat.le_refl _
      · obtain ⟨m, hmid, hm1, hm2⟩ : ∃ m : Nat, ((a : Int) + (b : Int)) / 2 = (m : Int) ∧ a < m ∧ m < b := ⟨(a + b) / 2, by omega, by omega, by omega⟩
        have hne : ¬ (a : Int) = (b : Int) := by omega
        have hne1 : ¬ (a : Int) + 1 = (b : Int) := by omega
        have HLEN : Hid ((cat F a (m - a)).length + (cat F m (b - m)).length ≤ 2400000000000) := by
          have l1 := cat_len (F := F) (L := L) (m - a) a (fun i hi => (HF.out i (by omega)).2.2)
          have l2 := cat_len (F := F) (L := L) (b - m) m (fun i hi => (HF.out i (by omega)).2.2)
          have l3 := mul_le4 (k := m - a) (M := M) (L := L) (by omega) hL
          have l4 := mul_le4 (k := b - m) (M := M) (L := L) (by omega) hL
          show _ ≤ _
          omega
        obtain ⟨w1, hw1⟩ : ∃ w1, w1 = w.alloc (.cells #[.int .i64 p, .int .i64 n, .int .i64 o, .int .i64 v] 23) := ⟨_, rfl⟩
        have hbx : BoxAt w1 w.heap.size p n o v := by rw [hw1]; exact BoxAt.new w p n o v _
        have hbw : Below w.heap.size w w1 := by rw [hw1]; exact below_oneG
        obtain ⟨bx, bx0, bx1, bx2, bx3⟩ := hbx
        have HBW := hid hbw
        have HW1 := hid (HW0.out.trans (hbw.mono HW0.out.size))
        have KEEP : Hid (∀ W, Below w1.heap.size w1 W → (Hid (Below w1.heap.size w1 W) ∧ W.cell? ⟨w.heap.size, 0, none⟩ = some (.int .i64 p) ∧ W.cell? ⟨w.heap.size, 1, none⟩ = some (.int .i64 n) ∧ W.cell? ⟨w.heap.size, 2, none⟩ = some (.int .i64 o) ∧ W.cell? ⟨w.heap.size, 3, none⟩ = some (.int .i64 v))) :=
          fun W hb => ⟨hb, cell_keep bx0 hb, cell_keep bx1 hb, cell_keep bx2 hb, cell_keep bx3 hb⟩
        go_enter Tryz.func114, Tryz.ntmps114
        go_wp2_with fail
        rw [← hw1]
        clear hw1 hbw bx0 bx1 bx2 bx3 bx h0 h1
        go_region_held (fun W => Hid (Below w1.heap.size w1 W) ∧ W.cell? ⟨w.heap.size, 0, none⟩ = some (.int .i64 p) ∧ W.cell? ⟨w.heap.size, 1, none⟩ = some (.int .i64 n) ∧ W.cell? ⟨w.heap.size, 2, none⟩ = some (.int .i64 o) ∧ W.cell? ⟨w.heap.size, 3, none⟩ = some (.int .i64 v))
          (first | exact KEEP.out _ (Below.refl _ _).drew | exact KEEP.out _ (below_step (by assumption) hb5 (Nat.le_refl _)) | exact KEEP.out _ (below_step (by assumption) hb6 (Nat.le_refl _)) | exact KEEP.out _ (below_step (by assumption) hb7 (Nat.le_refl _)))
          (first
            | (go_at_call_of 114 (Value.int IntKind.i64 (a : Int)); refine (IH.out a m _ (by omega) (by omega) (by omega) ?_).mono ?_; exact HW1.out.trans (((Below.refl _ _).drew).mono HW1.out.size); rintro e w5 ⟨u1, ts1, rfl, hr1, hb5⟩; have R1 := hid hr1; obtain ⟨ua1, uc1, rfl, _, _⟩ := hr1.pl; clear hr1)
            | (go_at_call_of 114 (Value.int IntKind.i64 (b : Int)); refine (IH.out m b _ (by omega) (by omega) (by omega) ?_).mono ?_; exact HW1.out.trans ((Hid.out (And.left (by assumption) : Hid (Below w1.heap.size w1 w5))).mono HW1.out.size); rintro e w6 ⟨u2, ts2, rfl, hr2, hb6⟩; have R2 := hid hr2; have R12 := hid (R1.out.below hb6); obtain ⟨ua2, uc2, rfl, _, _⟩ := hr2.pl; clear hr2)
            | (go_at_call 131; refine (bareMerge_any p n o v N _ _ ts1 ts2 _ HP.out HO.out hN0 hN (tok_of R12.out.canon R12.out.bd) (tok_of R2.out.canon R2.out.bd) ?_ R12.out.pl R2.out.pl).mono ?_; (have l1 := R12.out.len; have l2 := R2.out.len; have l3 := HLEN.out; omega); rintro e w7 ⟨u3, rfl, hu3, hb7⟩; have R3 := hid hu3; obtain ⟨ua3, uc3, rfl, _, _⟩ := hu3))
        have hb17 : Below w1.heap.size w1 w7 := Hid.out (And.left (by assumption))
        go_wp2
        go_ret
        exact ⟨_, _, rfl, SumR.merge HP.out.1 (by omega) (by omega) R12.out R2.out R3.out, HBW.out.trans (hb17.mono HBW.out.size)⟩
theorem cat_getD (fss : List (List Tm)) : cat (fun i => fss.getD i []) 0 fss.length = fss.flatten := by
  have e : (List.range fss.length).map (fun i => fss.getD i []) = fss := by
    apply List.ext_getElem?
    intro i
    by_cases hi : i < fss.length
    · simp [hi]
    · rw [List.getElem?_eq_none (by simp; omega), List.getElem?_eq_none (by omega)]
  unfold cat
  rw [← List.range_eq_range', List.flatMap_def, e]
theorem cat_prod (p : Int) (fs gs : List Tm) : cat (fun i => prodT p (fs.getD i noT) gs) 0 fs.length = prodL p fs gs := by
  have e : (List.range fs.length).map (fun i => prodT p (fs.getD i noT) gs) = fs.map fun t => prodT p t gs := by
    apply List.ext_getElem?
    intro i
    by_cases hi : i < fs.length
    · simp [hi]
    · rw [List.getElem?_eq_none (by simp; omega), List.getElem?_eq_none (by simp; omega)]
  unfold cat Go.Proofs.YtilogbggilchaaaGreat.prodL
  rw [← List.range_eq_range', List.flatMap_def, e, List.flatMap_def]
theorem okl_flatten {p o : Int} {N : Nat} {fss : List (List Tm)} (h : ∀ f ∈ fss, Canon p o N f) : Okl p N fss.flatten := by
  constructor
  · intro t ht
    obtain ⟨f, hf, ht⟩ := List.mem_flatten.1 ht
    exact (h f hf).len t ht
  · intro t ht
    obtain ⟨f, hf, ht⟩ := List.mem_flatten.1 ht
    have := (h f hf).coef t ht
    omega

set_option maxHeartbeats 1000000 in
theorem sumFn_any (i pb b off len cap : Nat) (vi : Value) (ts : List Tm) (w : World) (hi : i < len) (hc0 : w.cell? ⟨pb, 0, none⟩ = some (.slice (some ⟨b, off, none⟩) len cap)) (hc1 : w.cell? ⟨b, off + i, none⟩ = some vi) (hm : ts.length ≤ 1200000000000) (hl : ∀ t ∈ ts, t.2.length ≤ 400) (hs : Pl w vi ts) :
    Calls Tryz.prog 115 #[.int .i64 i, .pointer (some ⟨pb, 0, none⟩)] w fun e w' => ∃ u, e = .returned u ∧ Pl w' u ts ∧ Below w.heap.size w w' := by
  have HS := hid hs
  have HL := hid hl
  obtain ⟨a, c, rfl, _, _⟩ := hs
  clear hl
  go_enter Tryz.func115, Tryz.ntmps115
  go_wp2_with (go_at_call 116; refine (bareClone_any _ ts _ hm HL.out HS.out).mono ?_; rintro e w1 ⟨u, rfl, hu, hb1⟩; have HU := hid hu; have HB := hid hb1; obtain ⟨ua, uc, rfl, _, _⟩ := hu; clear hb1)
  go_ret
  exact ⟨_, rfl, HU.out, HB.out⟩

theorem getD_memL {α : Type} (xs : List (List α)) (k : Nat) (h : k < xs.length) : xs.getD k [] ∈ xs := by
  rw [List.getD_eq_getElem?_getD, List.getElem?_eq_getElem h]; simp

set_option maxRecDepth 100000 in
set_option maxHeartbeats 1000000 in
theorem bareSum_any (p n o v : Int) (N L : Nat) (pv : Value) (fss : List (List Tm)) (w : World) (hp : 2 ≤ p ∧ p ≤ 101) (ho : o = 1 ∨ o = 2) (hN0 : 0 < N) (hN : N ≤ 3) (hF : ∀ f ∈ fss, Canon p o N f ∧ Bd f ∧ f.length ≤ L) (hM : fss.length ≤ 1200000000000) (hL : fss.length * L ≤ 1200000000000) (hv : Vl w pv fss) :
    Calls Tryz.prog 88 #[ringV p n o v, pv] w fun e w' => ∃ u, e = .returned u ∧ Pl w' u (colL p o fss.flatten) ∧ Below w.heap.size w w' := by
  have HV := hid hv
  have HF := hid hF
  have HO := hid ho
  have HP := hid hp
  have HML := hid (And.intro hM hL)
  obtain ⟨a, cap, rfl, hc⟩ := hv
  obtain ⟨w0, hw0⟩ : ∃ w0, w0 = (w.alloc (.cells #[.int .i64 p, .int .i64 n, .int .i64 o, .int .i64 v] 23)).alloc (.cells #[.slice a fss.length cap] 24) := ⟨_, rfl⟩
  have hb0 : Below w.heap.size w w0 := by rw [hw0]; exact below_two
  have hpb : w0.cell? ⟨w.heap.size + 1, 0, none⟩ = some (.slice a fss.length cap) := by rw [hw0]; simp [go_sem]
  have HH : Hid (∀ i w', i < fss.length → Below w0.heap.size w0 w' → Calls Tryz.prog 115 #[.int .i64 i, .pointer (some ⟨w.heap.size + 1, 0, none⟩)] w' fun e w'' => ∃ u, e = .returned u ∧ Pl w'' u (fss.getD i []) ∧ Below w'.heap.size w' w'') := by
    intro i w' hi hb
    obtain ⟨b, off, e, hlt, hat⟩ := hc (by omega)
    subst e
    obtain ⟨vi, hvi, hpl⟩ := hat i hi
    have hbw : Below w.heap.size w w' := hb0.trans (hb.mono hb0.size)
    have hfi := HF.out _ (getD_memL fss i hi)
    have hL1 : (fss.getD i []).length ≤ 1200000000000 := by
      have h1 := hfi.2.2
      have h2 : L ≤ fss.length * L := Nat.le_mul_of_pos_left L (by omega)
      omega
    exact sumFn_any i _ b off fss.length cap vi _ w' hi (cell_keep hpb hb) (by rw [hbw.cell (p := ⟨b, off + i, none⟩) hlt]; exact hvi) hL1 (fun t ht => by have := hfi.1.len t ht; omega) (hpl.below hbw)
  clear hF ho hp hc hpb hM hL
  have HB0 := hid hb0
  go_enter Tryz.func88, Tryz.ntmps88
  go_wp2_with fail
  rw [← hw0]
  refine (sumOfS_any p n o v N fss.length L (fun i => fss.getD i []) _ w0 HP.out HO.out hN0 hN (fun i hi => HF.out _ (getD_memL fss i hi)) HML.out.1 HML.out.2 HH.out fss.length 0 fss.length w0 (by omega) (by omega) (Nat.le_refl _) (Below.refl _ _)).mono ?_
  rintro e w1 ⟨u, ts, rfl, hr, hb1⟩
  have HR := hid hr
  obtain ⟨ua, uc, rfl, _, _⟩ := hr.pl
  clear hr
  go_wp2
  go_ret
  refine ⟨_, rfl, ?_, HB0.out.trans (hb1.mono HB0.out.size)⟩
  have hs := HR.out.same
  rw [Nat.sub_zero, cat_getD] at hs
  have e := col_of_canon HP.out.1 (okl_flatten (fun f hf => (HF.out f hf).1)).len (okl_flatten (fun f hf => (HF.out f hf).1)).coef HR.out.canon hs
  rw [← e]
  exact HR.out.pl
def Bd2 (ts : List Tm) : Prop := ∀ t ∈ ts, ∀ x ∈ t.2, 0 ≤ x ∧ x ≤ 20000
theorem Bd2.bd {ts : List Tm} (h : Bd2 ts) : Bd ts := fun t ht x hx => by have := h t ht x hx; omega
theorem getD_memT (ts : List Tm) (k : Nat) (h : k < ts.length) : ts.getD k noT ∈ ts := by
  rw [List.getD_eq_getElem?_getD, List.getElem?_eq_getElem h]; simp
theorem zip_bd : ∀ (a b : List Int), (∀ x ∈ a, 0 ≤ x ∧ x ≤ 20000) → (∀ x ∈ b, 0 ≤ x ∧ x ≤ 20000) → ∀ x ∈ zipI (· + ·) a b, 0 ≤ x ∧ x ≤ 40000
  | [], _, _, _, x, hx => by simp [zipI] at hx
  | _ :: _, [], _, _, x, hx => by simp [zipI] at hx
  | a :: ar, b :: br, ha, hb, x, hx => by
    simp only [zipI, List.mem_cons] at hx
    rcases hx with rfl | hx
    · have := ha a (by simp); have := hb b (by simp); omega
    · exact zip_bd ar br (fun y hy => ha y (by simp [hy])) (fun y hy => hb y (by simp [hy])) x hx
theorem prodT_bd {p : Int} {t : Tm} {gs : List Tm} (ht : ∀ x ∈ t.2, 0 ≤ x ∧ x ≤ 20000) (hg : Bd2 gs) : Bd (prodT p t gs) := by
  intro u hu
  simp only [prodT, List.mem_map] at hu
  obtain ⟨g, hgm, rfl⟩ := hu
  exact zip_bd _ _ ht (hg g hgm)

set_option maxRecDepth 100000 in
set_option maxHeartbeats 1000000 in
theorem prodFn_any (p n o v : Int) (N i rb fb gb : Nat) (fv gv : Value) (fs gs : List Tm) (w : World) (hp : 2 ≤ p ∧ p ≤ 101) (hN0 : 0 < N) (hN : N ≤ 3) (hf : Canon p o N fs) (hg : Canon p o N gs) (bf : Bd2 fs) (bg : Bd2 gs) (hm : gs.length ≤ 1200000000000) (hi : i < fs.length)
    (hbx : BoxAt w rb p n o v) (hcf : w.cell? ⟨fb, 0, none⟩ = some fv) (hcg : w.cell? ⟨gb, 0, none⟩ = some gv) (pf : Pl w fv fs) (pg : Pl w gv gs) :
    Calls Tryz.prog 129 #[.int .i64 i, .pointer (some ⟨rb, 0, none⟩), .pointer (some ⟨fb, 0, none⟩), .pointer (some ⟨gb, 0, none⟩)] w fun e w' => ∃ u, e = .returned u ∧ Pl w' u (prodT p (fs.getD i noT) gs) ∧ Below w.heap.size w w' := by
  have HPG := hid pg
  obtain ⟨fa, fc, rfl, _, hfc⟩ := pf
  obtain ⟨ga, gc, rfl, _, _⟩ := pg
  obtain ⟨b, off, rfl, hlt, hat⟩ := hfc (by omega)
  obtain ⟨c0, ev, c1, hse⟩ := hat i hi
  obtain ⟨bx, bx0, bx1, bx2, bx3⟩ := hbx
  have HT := hid (And.intro (hf.coef _ (getD_memT fs i hi)) (And.intro (hf.len _ (getD_memT fs i hi)) (bf _ (getD_memT fs i hi))))
  have HG : Hid (∀ t ∈ gs, t.2.length = N ∧ (∀ x ∈ t.2, 0 ≤ x ∧ x ≤ 20000) ∧ 0 ≤ t.1 ∧ t.1 < p) := fun t ht => ⟨hg.len t ht, bg t ht, by have := hg.coef t ht; omega, (hg.coef t ht).2⟩
  generalize fs.getD i noT = t at c0 hse HT
  obtain ⟨tc, te⟩ := t
  have HSE := hid hse
  obtain ⟨ea, ec, rfl, _⟩ := hse
  have HP := hid hp
  simp only at c0 c1
  have hte0 : 0 < te.length := by have := HT.out.2.1; simp only at this; omega
  have hte3 : te.length ≤ 3 := by have := HT.out.2.1; simp only at this; omega
  have KEEP : Hid (∀ W, Below w.heap.size w W → (Hid (Below w.heap.size w W) ∧ W.cell? ⟨rb, 0, none⟩ = some (.int .i64 p) ∧ W.cell? ⟨rb, 1, none⟩ = some (.int .i64 n) ∧ W.cell? ⟨rb, 2, none⟩ = some (.int .i64 o) ∧ W.cell? ⟨rb, 3, none⟩ = some (.int .i64 v) ∧ W.cell? ⟨fb, 0, none⟩ = some (.slice (some ⟨b, off, none⟩) fs.length fc) ∧ W.cell? ⟨gb, 0, none⟩ = some (.slice ga gs.length gc) ∧ W.cell? ⟨b, off + i * 2, none⟩ = some (.int .i64 tc) ∧ W.cell? ⟨b, off + i * 2 + 1, none⟩ = some (.slice ea te.length ec))) :=
    fun W hb => ⟨hb, cell_keep bx0 hb, cell_keep bx1 hb, cell_keep bx2 hb, cell_keep bx3 hb, cell_keep hcf hb, cell_keep hcg hb, cell_keep c0 hb, cell_keep c1 hb⟩
  clear hf hg bf bg hfc hat hp
  go_enter Tryz.func129, Tryz.ntmps129
  go_wp2
  go_region_held (fun W => Hid (Below w.heap.size w W) ∧ W.cell? ⟨rb, 0, none⟩ = some (.int .i64 p) ∧ W.cell? ⟨rb, 1, none⟩ = some (.int .i64 n) ∧ W.cell? ⟨rb, 2, none⟩ = some (.int .i64 o) ∧ W.cell? ⟨rb, 3, none⟩ = some (.int .i64 v) ∧ W.cell? ⟨fb, 0, none⟩ = some (.slice (some ⟨b, off, none⟩) fs.length fc) ∧ W.cell? ⟨gb, 0, none⟩ = some (.slice ga gs.length gc) ∧ W.cell? ⟨b, off + i * 2, none⟩ = some (.int .i64 tc) ∧ W.cell? ⟨b, off + i * 2 + 1, none⟩ = some (.slice ea te.length ec))
    (first | exact KEEP.out _ (Below.refl _ _).drew | exact KEEP.out _ (below_step (by assumption) hb9 (Nat.le_refl _)))
    (first | (go_at_call 130; refine (bareScale_any p n o v tc _ te _ gs _ HP.out ⟨by have := HT.out.1; omega, HT.out.1.2⟩ hte0 hte3 HT.out.2.2 (fun t ht => ⟨(HG.out t ht).1.trans HT.out.2.1.symm, (HG.out t ht).2⟩) hm ?_ ?_).mono ?_; exact HSE.out.below (Below.refl _ _).drew; exact HPG.out.below (Below.refl _ _).drew; rintro e w9 ⟨u, rfl, hu, hb9⟩; have HU := hid hu; obtain ⟨ua, uc, rfl, _, _⟩ := hu))
  have hb19 : Below w.heap.size w w9 := Hid.out (And.left (by assumption))
  go_wp2
  go_ret
  exact ⟨_, rfl, HU.out, hb19⟩

structure Boxes (w w0 : World) (p n o v : Int) (fv gv : Value) : Prop where
  below : Below w.heap.size w w0
  box : BoxAt w0 w.heap.size p n o v
  cf : w0.cell? ⟨w.heap.size + 1, 0, none⟩ = some fv
  cg : w0.cell? ⟨w.heap.size + 1 + 1, 0, none⟩ = some gv

theorem prodDone {p n o v : Int} {N : Nat} {fv gv : Value} {fs gs : List Tm} {w w0 : World} (he : errP p = 0) (ho : o = 1 ∨ o = 2) (hN0 : 0 < N) (hN : N ≤ 3) (hf : Canon p o N fs) (hg : Canon p o N gs) (bf : Bd2 fs) (bg : Bd2 gs) (lf : fs.length ≤ 2000) (lg : gs.length ≤ 2000)
    (hb : Boxes w w0 p n o v fv gv) (pf : Pl w fv fs) (pg : Pl w gv gs) :
    Calls Tryz.prog 114 #[ringV p n o v, .int .i64 0, .int .i64 fs.length, .func (.func 129) #[] #[.pointer (some ⟨w.heap.size, 0, none⟩), .pointer (some ⟨w.heap.size + 1, 0, none⟩), .pointer (some ⟨w.heap.size + 1 + 1, 0, none⟩)]] w0 fun e w' =>
      ∃ u, e = .returned u ∧ Pl w' u (colL p o (prodL p fs gs)) ∧ Below w0.heap.size w0 w' := by
  have hp := errP_bd he
  have H : ∀ i w', i < fs.length → Below w0.heap.size w0 w' → Calls Tryz.prog 129 #[.int .i64 i, .pointer (some ⟨w.heap.size, 0, none⟩), .pointer (some ⟨w.heap.size + 1, 0, none⟩), .pointer (some ⟨w.heap.size + 1 + 1, 0, none⟩)] w' fun e w'' => ∃ u, e = .returned u ∧ Pl w'' u (prodT p (fs.getD i noT) gs) ∧ Below w'.heap.size w' w'' := by
    intro i w' hi hbw
    have hbb := hb.below.trans (hbw.mono hb.below.size)
    exact prodFn_any p n o v N i _ _ _ fv gv fs gs w' hp hN0 hN hf hg bf bg (by omega) hi (hb.box.below hbw) (cell_keep hb.cf hbw) (cell_keep hb.cg hbw) (pf.below hbb) (pg.below hbb)
  have hF : ∀ i, i < fs.length → Canon p o N (prodT p (fs.getD i noT) gs) ∧ Bd (prodT p (fs.getD i noT) gs) ∧ (prodT p (fs.getD i noT) gs).length ≤ 2000 := by
    intro i hi
    have hm := getD_memT fs i hi
    exact ⟨prodT_canon he (hf.coef _ hm) (hf.len _ hm) hg, prodT_bd (bf _ hm) bg, by simp [prodT]; omega⟩
  have hL : fs.length * 2000 ≤ 1200000000000 := by omega
  refine (sumOfP_any p n o v N fs.length 2000 (fun i => prodT p (fs.getD i noT) gs) _ _ _ w0 hp ho hN0 hN hF (by omega) hL H fs.length 0 fs.length w0 (by omega) (by omega) (Nat.le_refl _) (Below.refl _ _)).mono ?_
  rintro e w1 ⟨u, ts, rfl, hr, hb1⟩
  refine ⟨u, rfl, ?_, hb1⟩
  have hs := hr.same
  rw [Nat.sub_zero, cat_prod] at hs
  have ho := hf.okl.prod hp.1 hg.okl
  have e := col_of_canon hp.1 ho.len ho.coef hr.canon hs
  rw [← e]
  exact hr.pl

set_option maxRecDepth 100000 in
set_option maxHeartbeats 1000000 in
theorem bareProduct_any (p n o v : Int) (N : Nat) (fv gv : Value) (fs gs : List Tm) (w : World) (he : errP p = 0) (ho : o = 1 ∨ o = 2) (hN0 : 0 < N) (hN : N ≤ 3) (hf : Canon p o N fs) (hg : Canon p o N gs) (bf : Bd2 fs) (bg : Bd2 gs) (lf : fs.length ≤ 2000) (lg : gs.length ≤ 2000)
    (pf : Pl w fv fs) (pg : Pl w gv gs) :
    Calls Tryz.prog 113 #[ringV p n o v, fv, gv] w fun e w' => ∃ u, e = .returned u ∧ Pl w' u (colL p o (prodL p fs gs)) ∧ Below w.heap.size w w' := by
  have HPF := hid pf
  have HPG := hid pg
  have HALL := hid (And.intro he (And.intro ho (And.intro hf (And.intro hg (And.intro bf bg)))))
  obtain ⟨fa, fc, rfl, _, _⟩ := pf
  obtain ⟨ga, gc, rfl, _, _⟩ := pg
  clear he ho hf hg bf bg
  by_cases hlen : gs.length < fs.length
  · have HB : Hid (∀ T1 T2 T3, Boxes w ((((w.alloc (.cells #[.int .i64 p, .int .i64 n, .int .i64 o, .int .i64 v] T1)).alloc (.cells #[.slice ga gs.length gc] T2)).alloc (.cells #[.slice fa fs.length fc] T3))) p n o v (.slice ga gs.length gc) (.slice fa fs.length fc)) := by
      intro T1 T2 T3
      exact ⟨((below_two).alloc (by simp; omega) _), ⟨by simp; omega, by simp [go_sem], by simp [go_sem], by simp [go_sem], by simp [go_sem]⟩, by simp [go_sem], by simp [go_sem]⟩
    go_enter Tryz.func113, Tryz.ntmps113
    go_wp2_with fail
    refine (prodDone HALL.out.1 HALL.out.2.1 hN0 hN HALL.out.2.2.2.1 HALL.out.2.2.1 HALL.out.2.2.2.2.2 HALL.out.2.2.2.2.1 lg lf (HB.out _ _ _) HPG.out HPF.out).mono ?_
    rintro e w1 ⟨u, rfl, hu, hb1⟩
    rw [mul_swap (errP_bd HALL.out.1).1 HALL.out.2.2.2.1.okl HALL.out.2.2.1.okl] at hu
    have HU := hid hu
    have HB1 := hid ((HB.out _ _ _).below.trans (hb1.mono (HB.out _ _ _).below.size))
    obtain ⟨ua, uc, rfl, _, _⟩ := hu
    clear hb1
    go_wp2
    go_ret
    exact ⟨_, rfl, HU.out, HB1.out⟩
  · have HB : Hid (∀ T1 T2 T3, Boxes w ((((w.alloc (.cells #[.int .i64 p, .int .i64 n, .int .i64 o, .int .i64 v] T1)).alloc (.cells #[.slice fa fs.length fc] T2)).alloc (.cells #[.slice ga gs.length gc] T3))) p n o v (.slice fa fs.length fc) (.slice ga gs.length gc)) := by
      intro T1 T2 T3
      exact ⟨((below_two).alloc (by simp; omega) _), ⟨by simp; omega, by simp [go_sem], by simp [go_sem], by simp [go_sem], by simp [go_sem]⟩, by simp [go_sem], by simp [go_sem]⟩
    go_enter Tryz.func113, Tryz.ntmps113
    go_wp2_with fail
    refine (prodDone HALL.out.1 HALL.out.2.1 hN0 hN HALL.out.2.2.1 HALL.out.2.2.2.1 HALL.out.2.2.2.2.1 HALL.out.2.2.2.2.2 lf lg (HB.out _ _ _) HPF.out HPG.out).mono ?_
    rintro e w1 ⟨u, rfl, hu, hb1⟩
    have HU := hid hu
    have HB1 := hid ((HB.out _ _ _).below.trans (hb1.mono (HB.out _ _ _).below.size))
    obtain ⟨ua, uc, rfl, _, _⟩ := hu
    clear hb1
    go_wp2
    go_ret
    exact ⟨_, rfl, HU.out, HB1.out⟩
end Go.Proofs.YtilogbggilchaaaGreat
