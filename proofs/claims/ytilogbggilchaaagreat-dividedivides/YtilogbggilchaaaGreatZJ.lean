/- NewOrder. -/
import Derived.Test.YtilogbggilchaaaGreatZG
import Derived.Test.YtilogbggilchaaaGreatRC
namespace Go.Proofs.YtilogbggilchaaaGreat
set_option linter.unusedSimpArgs false
set_option linter.unusedVariables false
open Go.RowKit
theorem Tryz.infoI64Z : (Tryz.prog.info? 2).map (fun i => (i.zero, i.size, i.bytes)) = some (some (.int .i64 0), 1, 8) := by kernel_rfl
structure OrW (w wr : World) (p n o v k0 k1 k2 : Int) (sv : Value) (ss : List Int) : Prop where
  below : Below w.heap.size w wr
  box : BoxAt wr w.heap.size p n o v
  own : wr.ownsRow w.heap.size 104 5 (.slice (some ⟨w.heap.size + 1, 0, none⟩) 1 1) 1 [.int .u32 p, .int .i64 k0, .int .i64 k1, .int .i64 k2, sv]
  st : wr.ownsRow (w.heap.size + 1 + 1) 2 1 sv ss.length (ss.map (Value.int .i64))
  ge : w.heap.size + 1 + 1 ≤ wr.heap.size
theorem OrW.next {w wr w' : World} {p n o v k0 k1 k2 : Int} {sv : Value} {ss : List Int} (h : OrW w wr p n o v k0 k1 k2 sv ss) (hb : Below wr.heap.size wr w') : OrW w w' p n o v k0 k1 k2 sv ss :=
  ⟨h.below.trans (hb.mono h.below.size), h.box.below hb, ownBlock_lt h.own hb, ownBlock_lt h.st hb, Nat.le_trans h.ge hb.size⟩
theorem OrW.first (w : World) (p n o v : Int) : OrW w ((w.alloc (.cells #[.int .i64 p, .int .i64 n, .int .i64 o, .int .i64 v] 23)).alloc (.cells #[.int .u32 p, .int .i64 0, .int .i64 0, .int .i64 0, .slice none 0 0] 104)) p n o v 0 0 0 (.slice none 0 0) [] := by
  refine ⟨below_two, (BoxAt.new w p n o v _).below belowNew, ?_, World.ownsRow_nil _ _ _ _, by simp⟩
  exact ⟨by simp, .inr ⟨w.heap.size + 1, 1, _, rfl, by omega, by have := heap_alloc_new (w.alloc (.cells #[.int .i64 p, .int .i64 n, .int .i64 o, .int .i64 v] 23)) (.cells #[.int .u32 p, .int .i64 0, .int .i64 0, .int .i64 0, .slice none 0 0] 104); simpa using this, Nat.le_refl _, by decide, by simp, by simp⟩⟩
theorem OrW.put {w wr : World} {p n o v k0 k1 k2 l0 l1 l2 : Int} {sv sv2 : Value} {ss : List Int} (h : OrW w wr p n o v k0 k1 k2 sv ss) (j : Nat) (u : Value) (he : ([.int .u32 p, .int .i64 k0, .int .i64 k1, .int .i64 k2, sv] : List Value).set j u = [.int .u32 p, .int .i64 l0, .int .i64 l1, .int .i64 l2, sv2]) (hs : (wr.setCell ⟨w.heap.size + 1, j, none⟩ u).ownsRow (w.heap.size + 1 + 1) 2 1 sv2 ss.length (ss.map (Value.int .i64))) :
    OrW w (wr.setCell ⟨w.heap.size + 1, j, none⟩ u) p n o v l0 l1 l2 sv2 ss := by
  have s1 := h.own.stored j u
  rw [he] at s1
  have far := fun o => cell_far (o := o) (b := w.heap.size) s1.2 h.box.1 (by omega)
  obtain ⟨bl, b0, b1, b2, b3⟩ := h.box
  exact ⟨h.below.trans (grown_below s1.2 (by omega) h.below.size), ⟨Nat.lt_of_lt_of_le bl s1.2.size, by rw [far]; exact b0, by rw [far]; exact b1, by rw [far]; exact b2, by rw [far]; exact b3⟩, s1.1, hs, Nat.le_trans h.ge s1.2.size⟩
theorem OrW.putK {w wr : World} {p n o v k0 k1 k2 l0 l1 l2 : Int} {sv : Value} {ss : List Int} (h : OrW w wr p n o v k0 k1 k2 sv ss) (j : Nat) (u : Value) (he : ([.int .u32 p, .int .i64 k0, .int .i64 k1, .int .i64 k2, sv] : List Value).set j u = [.int .u32 p, .int .i64 l0, .int .i64 l1, .int .i64 l2, sv]) :
    OrW w (wr.setCell ⟨w.heap.size + 1, j, none⟩ u) p n o v l0 l1 l2 sv ss :=
  h.put j u he (h.st.kept (h.own.stored j u).2 (by
    cases ho : sv.ownBlock with
    | none => exact Or.inl rfl
    | some g => right; have := (World.ownsRow.lt h.st g ho).1; simp [Value.ownBlock]; omega))
theorem OrW.grow {w wr w5 : World} {p n o v k0 k1 k2 x : Int} {sv v5 : Value} {ss : List Int} (h : OrW w wr p n o v k0 k1 k2 sv ss) (h5 : w5.ownsRow (w.heap.size + 1 + 1) 2 1 v5 (ss.length + 1) (ss.map (Value.int .i64) ++ [.int .i64 x])) (hg : wr.grownBy w5 sv.ownBlock) :
    OrW w (w5.setCell ⟨w.heap.size + 1, 4, none⟩ v5) p n o v k0 k1 k2 v5 (ss ++ [x]) := by
  have hlt : ∀ g, sv.ownBlock = some g → w.heap.size + 1 + 1 ≤ g := fun g e => (World.ownsRow.lt h.st g e).1
  have o5 := h.own.kept hg (by
    right; intro e
    have := hlt (w.heap.size + 1) (by rw [← e]; rfl)
    omega)
  have b5 : Below (w.heap.size + 1) wr w5 := (Below.refl _ _).grown hg (Nat.le_trans (by omega) h.ge) (fun k hk => by have := hlt k hk; omega)
  have s1 := o5.stored 4 v5
  have b6 : Below (w.heap.size + 1) wr (w5.setCell ⟨w.heap.size + 1, 4, none⟩ v5) := b5.trans (grown_below s1.2 (Nat.le_refl _) (by have := h.ge; have := b5.size; omega))
  have far : ∀ o, (w5.setCell ⟨w.heap.size + 1, 4, none⟩ v5).cell? ⟨w.heap.size, o, none⟩ = wr.cell? ⟨w.heap.size, o, none⟩ := fun o => World.cell?_of_block (b6.block w.heap.size (by omega))
  obtain ⟨bl, b0, b1, b2, b3⟩ := h.box
  refine ⟨h.below.trans (b6.mono (by omega)), ⟨Nat.lt_of_lt_of_le bl b6.size, by rw [far]; exact b0, by rw [far]; exact b1, by rw [far]; exact b2, by rw [far]; exact b3⟩, by have h := s1.1; exact h, ?_, Nat.le_trans h.ge b6.size⟩
  have h6 := h5.kept s1.2 (by
    right; intro e
    have := (World.ownsRow.lt h5 (w.heap.size + 1) e).1
    omega)
  simpa using h6
theorem OrW.mid {w wr w5 : World} {p n o v k0 k1 k2 : Int} {sv : Value} {ss : List Int} (h : OrW w wr p n o v k0 k1 k2 sv ss) (hg : wr.grownBy w5 sv.ownBlock) : w5.ownsRow w.heap.size 104 5 (.slice (some ⟨w.heap.size + 1, 0, none⟩) 1 1) 1 [.int .u32 p, .int .i64 k0, .int .i64 k1, .int .i64 k2, sv] :=
  h.own.kept hg (by
    right; intro e
    have := (World.ownsRow.lt h.st (w.heap.size + 1) (by rw [← e]; rfl)).1
    omega)
theorem one_newD (wr : World) (x : Int) (T : TypeId) : ∀ j u, [Value.int .i64 x][j]? = some u → (wr.alloc (.cells #[.int .i64 x] T)).drew.cell? ((⟨wr.heap.size, 0, none⟩ : Addr).add j) = some u := by
  intro j u hj
  show (wr.alloc (.cells #[.int .i64 x] T)).cell? _ = _
  exact cell_one_new _ _ _ j u hj
theorem one_newE (wr : World) (x : Int) (T : TypeId) : ∀ j u, [Value.int .i64 x][j]? = some u → (wr.drew.alloc (.cells #[.int .i64 x] T)).cell? ((⟨wr.heap.size, 0, none⟩ : Addr).add j) = some u := by
  intro j u hj
  exact cell_one_new wr.drew _ _ j u hj
def WtN (o : Int) (n k i : Nat) : Int := if i < k ∧ i < n then WtK o i else 0
theorem wt_set (p o : Int) (n k : Nat) (sv : Value) (h : k < n) (h3 : n ≤ 3) : ([.int .u32 p, .int .i64 (WtN o n k 0), .int .i64 (WtN o n k 1), .int .i64 (WtN o n k 2), sv] : List Value).set (1 + k) (.int .i64 (WtK o k)) = [.int .u32 p, .int .i64 (WtN o n (k + 1) 0), .int .i64 (WtN o n (k + 1) 1), .int .i64 (WtN o n (k + 1) 2), sv] := by
  have hk : k = 0 ∨ k = 1 ∨ k = 2 := by omega
  have hn : n = 1 ∨ n = 2 ∨ n = 3 := by omega
  rcases hk with rfl | rfl | rfl <;> rcases hn with rfl | rfl | rfl <;> first | (exfalso; omega) | rfl

set_option maxRecDepth 100000 in
set_option maxHeartbeats 2000000 in
theorem newOrder_any (p o v : Int) (n R : Nat) (w : World) (hp : 2 ≤ p ∧ p ≤ 101) (ho : o = 1 ∨ o = 2) (hv : v = 1 ∨ v = 2) (hn : n ≤ 3) (hR : R ≤ 200) :
    Calls Tryz.prog 17 #[ringV p n o v, .int .i64 R, .int .i64 0] w fun e w' => ∃ ob sv, e = .returned (.pointer (some ⟨ob, 0, none⟩)) ∧ OrdB w' ob p (WtN o n n 0) (WtN o n n 1) (WtN o n n 2) sv ∧ Sl w' sv ((List.range R).map fun i : Nat => stK v (i : Int)) ∧ Below w.heap.size w w' := by
  have HO := hid ho
  have HV := hid hv
  obtain ⟨hp0, hp1⟩ := hp
  have hwp : IntKind.u32.wrap p = p := by rw [IntKind.wrap_u32]; omega
  have H0 := hid (OrW.first w p n o v)
  obtain ⟨w1, hw1⟩ : ∃ w1, w1 = (w.alloc (.cells #[.int .i64 p, .int .i64 n, .int .i64 o, .int .i64 v] 23)).alloc (.cells #[.int .u32 p, .int .i64 0, .int .i64 0, .int .i64 0, .slice none 0 0] 104) := ⟨_, rfl⟩
  rw [← hw1] at H0
  clear ho hv
  go_enter Tryz.func17, Tryz.ntmps17
  go_wp2_with fail
  rw [← hw1]
  clear hw1
  go_loopw [18] (fun i wr => ∃ k : Nat, k ≤ n ∧ i = .int .i64 k ∧ OrW w wr p n o v (WtN o n k 0) (WtN o n k 1) (WtN o n k 2) (.slice none 0 0) []) (fun i _ => n - (intOf i).toNat)
  case atStart => exact ⟨0, Nat.zero_le _, rfl, H0.out⟩
  case round =>
    clear H0
    obtain ⟨k, hk, rfl, ht⟩ := hrel
    have HT := hid ht
    clear ht
    by_cases hk2 : k < n
    · obtain ⟨_, b0, b1, b2, b3⟩ := HT.out.box
      have HWT := hid (fun (W : World) => weight_any o k W HO.out (by omega))
      have HSET := hid (wt_set p o n k (.slice none 0 0) hk2 hn)
      have z1 : ∃ u, wr.cell? ⟨w.heap.size + 1, 1 + k, none⟩ = some u := by
        have h := HT.out.own.cellAt (1 + k) (by omega)
        rw [List.getElem?_eq_getElem (by simp; omega)] at h
        exact ⟨_, h⟩
      obtain ⟨u, z1⟩ := z1
      have z2 := HT.out.own.frozenAt (1 + k)
      have hk3 : (k : Int) < 3 := by omega
      generalize WtK o k = wk at HWT HSET
      go_wp2
      go_region_with (go_at_call 55; refine (HWT.out _).mono ?_; rintro e w8 ⟨rfl, rfl⟩)
      all_goals
        go_wp2
        go_roundw
        case rel => exact ⟨k + 1, by omega, by go_num, by first | exact (HT.out.next (Below.refl _ _).drew).putK _ _ HSET.out | exact (HT.out.putK _ _ HSET.out).next (Below.refl _ _).drew⟩
        case measure => simp [intOf]; omega
    · have e : k = n := by omega
      subst e
      generalize hg0 : WtN o k k 0 = g0 at HT
      generalize hg1 : WtN o k k 1 = g1 at HT
      generalize hg2 : WtN o k k 2 = g2 at HT
      have HG := hid (And.intro hg0 (And.intro hg1 hg2))
      clear hg0 hg1 hg2
      go_wp2
      go_loopw [32] (fun i wr => ∃ (m : Nat) (sv : Value), m ≤ R ∧ i = .int .i64 m ∧ OrW w wr p k o v g0 g1 g2 sv ((List.range m).map fun i : Nat => stK v (i : Int))) (fun i _ => R - (intOf i).toNat)
      case atStart => exact ⟨0, _, Nat.zero_le _, rfl, HT.out⟩
      case round =>
        clear HT
        obtain ⟨m, sv, hm, rfl, ht⟩ := hrel
        have HT := hid ht
        clear ht
        by_cases hm2 : m < R
        · obtain ⟨_, b0, b1, b2, b3⟩ := HT.out.box
          have HSA := hid (fun (W : World) => start_any v m W HV.out (by omega))
          have HR : Hid (((List.range (m + 1)).map fun i : Nat => stK v (i : Int)) = ((List.range m).map fun i : Nat => stK v (i : Int)) ++ [stK v m]) := by
            show _ = _
            rw [List.range_succ]; simp
          have HL : Hid (((List.range m).map fun i : Nat => stK v (i : Int)).length = m) := by show _ = _; simp
          generalize ((List.range m).map fun i : Nat => stK v (i : Int)) = ss at HT HR HL
          generalize stK v m = x at HSA HR
          have z1 : wr.cell? ⟨w.heap.size + 1, 4, none⟩ = some sv := HT.out.own.cellAt 4 (by omega)
          have z2 := HT.out.own.frozenAt 4
          obtain ⟨ya, yc, hy⟩ := own_sl' HT.out.st
          rw [HL.out] at hy
          subst hy
          obtain ⟨i0, hi0, hz0, hz1, hz2⟩ : ∃ i0, Tryz.prog.info? 2 = some i0 ∧ i0.zero = some (.int .i64 0) ∧ i0.size = 1 ∧ i0.bytes = 8 := by
            have h := Tryz.infoI64Z
            cases hi : Tryz.prog.info? 2 with
            | none => rw [hi] at h; cases h
            | some i0 => rw [hi] at h; simp only [Option.map_some, Option.some.injEq, Prod.mk.injEq] at h; exact ⟨i0, rfl, h.1, h.2.1, h.2.2⟩
          have HI := hid (And.intro hi0 (And.intro hz0 (And.intro hz1 hz2)))
          clear hi0 hz0 hz1 hz2
          have HOWN : Hid (∀ W, Below wr.heap.size wr W → W.ownsRow (w.heap.size + 1 + 1) 2 1 (.slice ya m yc) ss.length (ss.map (Value.int .i64))) := fun W hb => ownBlock_lt HT.out.st hb
          go_wp2
          have HA := hid (HT.out.next ((belowNew (w := wr) (A := .cells #[.int .i64 x] 2)).drew))
          have HB := hid (HT.out.next (((Below.refl wr.heap.size wr).drew).alloc (Nat.le_refl _) (.cells #[.int .i64 x] 2)))
          have z3 : (wr.alloc (.cells #[.int .i64 x] 2)).cell? ⟨w.heap.size + 1, 4, none⟩ = some (.slice ya m yc) := HA.out.own.cellAt 4 (by omega)
          have z4 : (wr.drew.alloc (.cells #[.int .i64 x] 2)).cell? ⟨w.heap.size + 1, 4, none⟩ = some (.slice ya m yc) := HB.out.own.cellAt 4 (by omega)
          go_region_law (first
            | (refine step_append_own rfl (.tmp 39) (.tmp 44) 102 rfl (w.heap.size + 1 + 1) 2 i0 (.int .i64 0) 1 8 Tryz.underlying102 HI.out.1 HI.out.2.1 HI.out.2.2.1 HI.out.2.2.2 rfl (by decide) (.slice ya m yc) ss.length (ss.map (Value.int .i64)) (by simp [Act.eval, Act.put]) HA.out.st ⟨wr.heap.size, 0, none⟩ 1 1 [.int .i64 x] (by simp [Act.eval, Act.put]) rfl (one_newD wr x _) (one_cell1 _) (by unfold maxLen; have := HL.out; omega) (by have := HL.out; omega) HA.out.ge ?_; intro v5 w5 r1 r2 r3; obtain ⟨va5, vc5, hv5⟩ := own_sl' r1; subst hv5; have HM := hid (HA.out.grow r1 r2); have y1 : w5.cell? ⟨w.heap.size + 1, 4, none⟩ = some (.slice ya m yc) := (HA.out.mid r2).cellAt 4 (by omega); have y2 := (HA.out.mid r2).frozenAt 4; clear r1 r2 r3)
            | (refine step_append_own rfl (.tmp 39) (.tmp 44) 102 rfl (w.heap.size + 1 + 1) 2 i0 (.int .i64 0) 1 8 Tryz.underlying102 HI.out.1 HI.out.2.1 HI.out.2.2.1 HI.out.2.2.2 rfl (by decide) (.slice ya m yc) ss.length (ss.map (Value.int .i64)) (by simp [Act.eval, Act.put]) HB.out.st ⟨wr.heap.size, 0, none⟩ 1 1 [.int .i64 x] (by simp [Act.eval, Act.put]) rfl (one_newE wr x _) (one_cell1 _) (by unfold maxLen; have := HL.out; omega) (by have := HL.out; omega) HB.out.ge ?_; intro v5 w5 r1 r2 r3; obtain ⟨va5, vc5, hv5⟩ := own_sl' r1; subst hv5; have HM := hid (HB.out.grow r1 r2); have y1 : w5.cell? ⟨w.heap.size + 1, 4, none⟩ = some (.slice ya m yc) := (HB.out.mid r2).cellAt 4 (by omega); have y2 := (HB.out.mid r2).frozenAt 4; clear r1 r2 r3)
            | (go_simp; refine (HSA.out _).mono ?_; rintro e w8 ⟨rfl, rfl⟩; dsimp only))
          all_goals
            go_wp2
            go_roundw
            case rel => exact ⟨m + 1, _, by omega, by go_num, by rw [HR.out]; exact HM.out⟩
            case measure => simp [intOf]; omega
        · have e : m = R := by omega
          subst e
          go_wp2
          refine wp_loop_rounds 1 ?_
          rw [rounds_succ]
          go_wp2
          go_ret
          refine ⟨w.heap.size + 1, sv, rfl, ?_, ownsRow_sl HT.out.st, HT.out.below⟩
          rw [HG.out.1, HG.out.2.1, HG.out.2.2]
          have ho := HT.out.own
          have hl := HT.out.ge
          exact ⟨by omega, ho.cellAt 0 (by omega), ho.cellAt 1 (by omega), ho.cellAt 2 (by omega), ho.cellAt 3 (by omega), ho.cellAt 4 (by omega)⟩
end Go.Proofs.YtilogbggilchaaaGreat
