/- merge of flat vectors. -/
import Derived.Test.YtilogbggilchaaaGreatZB
namespace Go.Proofs.YtilogbggilchaaaGreat
set_option linter.unusedSimpArgs false
set_option linter.unusedVariables false
open Go.RowKit
structure Mrk (p : Int) (C : Nat) (w1 wr : World) (g : Nat) (L : List Ft) (fv gv : Value) (fs gs ds : List Ft) : Prop where
  pf : Fv w1 fv fs
  pg : Fv w1 gv gs
  own : wr.ownsRow w1.heap.size 52 7 (.slice (some ⟨g, 0, none⟩) ds.length C) ds.length (flatF ds)
  below : Below w1.heap.size w1 wr
  eq : L = ds ++ mergeK p fs gs
  room : ds.length + fs.length + gs.length ≤ C
  cf : ∀ t ∈ fs, 0 ≤ t.c ∧ t.c < p
  cg : ∀ t ∈ gs, 0 ≤ t.c ∧ t.c < p
theorem Mrk.next {p : Int} {C : Nat} {w1 wr w' : World} {g : Nat} {L : List Ft} {fv gv : Value} {fs gs ds : List Ft} (h : Mrk p C w1 wr g L fv gv fs gs ds) (hb : Below wr.heap.size wr w') : Mrk p C w1 w' g L fv gv fs gs ds :=
  ⟨h.pf, h.pg, ownBlock_lt h.own hb, h.below.trans (hb.mono h.below.size), h.eq, h.room, h.cf, h.cg⟩
theorem Mrk.takeF {p : Int} {C : Nat} {w1 w2 w' : World} {g : Nat} {L : List Ft} {fv gv fv' : Value} {t u : Ft} {fs gs ds : List Ft} (h : Mrk p C w1 w2 g L fv gv (t :: fs) (u :: gs) ds) (ho : u.k < t.k)
    (hown : w'.ownsRow w1.heap.size 52 7 (.slice (some ⟨g, 0, none⟩) (ds.length + 1) C) (ds.length + 1) (flatF ds ++ encF t)) (hg : w2.grownBy w' (some g)) (hgw : w1.heap.size ≤ g) (hf : Fv w1 fv' fs) :
    Mrk p C w1 w' g L fv' gv fs (u :: gs) (ds ++ [t]) := by
  refine ⟨hf, h.pg, ?_, h.below.trans (grown_below hg hgw h.below.size), ?_, ?_, fun t ht => h.cf t (by simp [ht]), h.cg⟩
  · rw [flatF_snoc, List.length_append]; exact hown
  · rw [h.eq, mergeK_gt ho]; simp
  · have := h.room; simp only [List.length_append, List.length_cons, List.length_nil] at this ⊢; omega
theorem Mrk.takeG {p : Int} {C : Nat} {w1 w2 w' : World} {g : Nat} {L : List Ft} {fv gv gv' : Value} {t u : Ft} {fs gs ds : List Ft} (h : Mrk p C w1 w2 g L fv gv (t :: fs) (u :: gs) ds) (ho : t.k < u.k)
    (hown : w'.ownsRow w1.heap.size 52 7 (.slice (some ⟨g, 0, none⟩) (ds.length + 1) C) (ds.length + 1) (flatF ds ++ encF u)) (hg : w2.grownBy w' (some g)) (hgw : w1.heap.size ≤ g) (hf : Fv w1 gv' gs) :
    Mrk p C w1 w' g L fv gv' (t :: fs) gs (ds ++ [u]) := by
  refine ⟨h.pf, hf, ?_, h.below.trans (grown_below hg hgw h.below.size), ?_, ?_, h.cf, fun t ht => h.cg t (by simp [ht])⟩
  · rw [flatF_snoc, List.length_append]; exact hown
  · rw [h.eq, mergeK_lt ho]; simp
  · have := h.room; simp only [List.length_append, List.length_cons, List.length_nil] at this ⊢; omega
theorem Mrk.both {p : Int} {C : Nat} {w1 w2 w' : World} {g : Nat} {L : List Ft} {fv gv fv' gv' : Value} {t u : Ft} {fs gs ds : List Ft} (h : Mrk p C w1 w2 g L fv gv (t :: fs) (u :: gs) ds) (ho : t.k = u.k) (hc : (t.c + u.c) % p ≠ 0)
    (hown : w'.ownsRow w1.heap.size 52 7 (.slice (some ⟨g, 0, none⟩) (ds.length + 1) C) (ds.length + 1) (flatF ds ++ encF { t with c := (t.c + u.c) % p })) (hg : w2.grownBy w' (some g)) (hgw : w1.heap.size ≤ g) (hf : Fv w1 fv' fs) (hf2 : Fv w1 gv' gs) :
    Mrk p C w1 w' g L fv' gv' fs gs (ds ++ [{ t with c := (t.c + u.c) % p }]) := by
  refine ⟨hf, hf2, ?_, h.below.trans (grown_below hg hgw h.below.size), ?_, ?_, fun t ht => h.cf t (by simp [ht]), fun t ht => h.cg t (by simp [ht])⟩
  · rw [flatF_snoc, List.length_append]; exact hown
  · rw [h.eq, mergeK_eq ho hc]; simp
  · have := h.room; simp only [List.length_append, List.length_cons, List.length_nil] at this ⊢; omega
theorem Mrk.drop {p : Int} {C : Nat} {w1 w2 : World} {g : Nat} {L : List Ft} {fv gv fv' gv' : Value} {t u : Ft} {fs gs ds : List Ft} (h : Mrk p C w1 w2 g L fv gv (t :: fs) (u :: gs) ds) (ho : t.k = u.k) (hc : (t.c + u.c) % p = 0) (hf : Fv w1 fv' fs) (hf2 : Fv w1 gv' gs) :
    Mrk p C w1 w2 g L fv' gv' fs gs ds := by
  refine ⟨hf, hf2, h.own, h.below, ?_, ?_, fun t ht => h.cf t (by simp [ht]), fun t ht => h.cg t (by simp [ht])⟩
  · rw [h.eq, mergeK_no ho hc]
  · have := h.room; simp only [List.length_cons] at this ⊢; omega
theorem seven_new (w : World) (t : Ft) (T : TypeId) : ∀ j u, (encF t)[j]? = some u → (w.alloc (.cells #[.int .i64 t.k, .int .u16 t.a, .int .u16 t.b, .int .u16 t.d, .int .u16 t.z, .int .u8 t.pl, .int .u8 t.c] T)).cell? ((⟨w.heap.size, 0, none⟩ : Addr).add j) = some u := by
  intro j u hj
  have hj7 : j < 7 := by apply Nat.lt_of_not_le; intro hle; rw [List.getElem?_eq_none (by simpa [encF] using hle)] at hj; simp at hj
  have : j = 0 ∨ j = 1 ∨ j = 2 ∨ j = 3 ∨ j = 4 ∨ j = 5 ∨ j = 6 := by omega
  rcases this with rfl | rfl | rfl | rfl | rfl | rfl | rfl <;> simp [encF] at hj <;> subst hj <;> simp [Addr.add, go_sem]

theorem wpList_append_fts {P : Program} {w : World} {ops : Array Oper} {rest : List Oper} {o : Oper} {a : Act} {Q : Exit → Act → World → Prop} (hgd : o.guard = none) (s x : Operand) (t : TypeId)
    (ho : o.op = .call { callee := .builtin .append, args := #[s, x], argTypes := #[t, t] })
    (base : Nat) (e : TypeId) (i : TypeInfo) (h1 : P.underlying t = some (.slice e)) (h2 : P.info? e = some i) (h4 : i.size = 7)
    (g k cap : Nat) (xs : List Value) (hs : a.eval s = .slice (some ⟨g, 0, none⟩) k cap) (hown : w.ownsRow base e 7 (.slice (some ⟨g, 0, none⟩) k cap) k xs)
    (us : List Ft) (ua : Option Addr) (uc : Nat) (hx : a.eval x = .slice ua us.length uc) (hcs : 0 < us.length → ∃ b off, ua = some ⟨b, off, none⟩ ∧ ∀ j u, (flatF us)[j]? = some u → w.cell? ⟨b, off + j, none⟩ = some u) (b1 : k + us.length ≤ cap)
    (hK : ∀ w', w'.ownsRow base e 7 (.slice (some ⟨g, 0, none⟩) (k + us.length) cap) (k + us.length) (xs ++ flatF us) → w.grownBy w' (some g) → wpList P ops Q rest (a.put o.dst (.slice (some ⟨g, 0, none⟩) (k + us.length) cap)) w') :
    wpList P ops Q (o :: rest) a w := by
  by_cases h0 : 0 < us.length
  · obtain ⟨b, off, rfl, hc⟩ := hcs h0
    refine wpList_append_fits w hgd s x t ho base e i 7 h1 h2 h4 g k cap xs hs hown ⟨b, off, none⟩ us.length uc (flatF us) hx (flatF_len us) (fun j u hj => ?_) (flatF_one us) b1 hK
    have := hc j u hj
    by_cases hj0 : j = 0
    · subst hj0; simpa [Addr.add] using this
    · simpa [Addr.add, hj0] using this
  · have e0 : us = [] := List.length_eq_zero_iff.1 (by omega)
    subst e0
    cases ua with
    | none =>
      refine wpList_append_none_c hgd s x t ho base e i 7 h1 h2 _ k uc xs hs hown hx ?_
      exact hK w (by simpa [flatF] using hown) (grown_refl _ _)
    | some ad =>
      refine wpList_append_fits w hgd s x t ho base e i 7 h1 h2 h4 g k cap xs hs hown ad 0 uc [] hx (by simp) (fun j u hj => by simp at hj) (fun u hu => by simp at hu) b1 hK
theorem Mrk.finish {p : Int} {C : Nat} {w1 wr w2 w3 : World} {g : Nat} {L : List Ft} {fv gv : Value} {fs gs ds : List Ft} (h : Mrk p C w1 wr g L fv gv fs gs ds) (he : fs = [] ∨ gs = []) (g2 : wr.grownBy w2 (some g)) (g3 : w2.grownBy w3 (some g))
    (hown : w3.ownsRow w1.heap.size 52 7 (.slice (some ⟨g, 0, none⟩) (ds.length + fs.length + gs.length) C) (ds.length + fs.length + gs.length) (flatF ds ++ flatF fs ++ flatF gs)) (hgw : w1.heap.size ≤ g) :
    Fv w3 (.slice (some ⟨g, 0, none⟩) (ds.length + fs.length + gs.length) C) L ∧ Below w1.heap.size w1 w3 := by
  refine ⟨?_, h.below.trans (grown_below (grown_trans g2 g3) hgw h.below.size)⟩
  have e1 : (ds ++ fs ++ gs).length = ds.length + fs.length + gs.length := by simp only [List.length_append]
  have e2 : flatF (ds ++ fs ++ gs) = flatF ds ++ flatF fs ++ flatF gs := by rw [flatF_append, flatF_append]
  have k := own_fv (w := w3) (B := w1.heap.size) (v := .slice (some ⟨g, 0, none⟩) (ds.length + fs.length + gs.length) C) (ts := ds ++ fs ++ gs) (by rw [e1, e2]; exact hown)
  have e3 : ds ++ fs ++ gs = L := by
    rw [h.eq]
    rcases he with he | he
    · subst he; rw [mergeK_nilL]; simp
    · subst he; rw [mergeK_nilR]; simp
  rw [e3] at k
  exact k
theorem box7 {w : World} {B : Nat} (hB : B ≤ w.heap.size) (t : Ft) : (w.alloc (.cells #[.int .i64 t.k, .int .u16 t.a, .int .u16 t.b, .int .u16 t.d, .int .u16 t.z, .int .u8 t.pl, .int .u8 t.c] 52)).ownsRow B 52 7 (.slice (some ⟨w.heap.size, 0, none⟩) 1 1) 1 (encF t) :=
  ⟨by simp [encF], .inr ⟨w.heap.size, 1, _, rfl, hB, heap_alloc_new w _, Nat.le_refl _, by decide, by simp, by simp [encF]⟩⟩
set_option maxRecDepth 100000 in
set_option maxHeartbeats 2000000 in
theorem flatMerge_any (ob : Nat) (p k0 k1 k2 : Int) (sv fv gv : Value) (fs gs : List Ft) (w : World) (hob : OrdB w ob p k0 k1 k2 sv) (hp : 2 ≤ p ∧ p ≤ 101) (cf : ∀ t ∈ fs, 0 ≤ t.c ∧ t.c < p) (cg : ∀ t ∈ gs, 0 ≤ t.c ∧ t.c < p)
    (hm : fs.length + gs.length ≤ 2000000000000) (hf : Fv w fv fs) (hg : Fv w gv gs) :
    Calls Tryz.prog 96 #[.pointer (some ⟨ob, 0, none⟩), fv, gv] w fun e w' => ∃ u, e = .returned u ∧ Fv w' u (mergeK p fs gs) ∧ Below w.heap.size w w' := by
  have HF := hid hf
  have HG := hid hg
  have HCF := hid cf
  have HCG := hid cg
  have HOB := hid hob
  obtain ⟨hp1, hp2⟩ := hp
  obtain ⟨fa, fc, rfl, _, _⟩ := hf
  obtain ⟨ga, gc, rfl, _, _⟩ := hg
  clear cf cg hob
  obtain ⟨i0, hi, hz0, hz1, hz2⟩ := info_parts Tryz.infoFt
  go_enter Tryz.func96, Tryz.ntmps96
  go_wp2_with (at_make; refine wpList_make_own _ rfl _ _ 64 rfl w.heap.size 52 i0 _ 7 Tryz.underlying64 hi hz0 hz1 .i64 .i64 _ (fs.length + gs.length) rfl rfl (by simp) (by rw [hz2]; omega) (by unfold maxLen; omega) (by simp) ?_; intro w1 hown hgrow; have HX : Hid (Mrk p (fs.length + gs.length) w w1 w.heap.size (mergeK p fs gs) (.slice fa fs.length fc) (.slice ga gs.length gc) fs gs []) := ⟨HF.out, HG.out, hown, ⟨hgrow.os, hgrow.tape, hgrow.output, hgrow.size, fun k hk => hgrow.block k hk (by simp)⟩, by simp, by simp, HCF.out, HCG.out⟩; clear hown hgrow)
  have HI := hid (And.intro hi (And.intro hz1 hz2))
  clear hi hz0 hz1 hz2 HF HG HCF HCG
  go_loopw [1, 2, 7] (fun x y z wr => ∃ (fs1 gs1 ds : List Ft), z = .slice (some ⟨w.heap.size, 0, none⟩) ds.length (fs.length + gs.length) ∧ Mrk p (fs.length + gs.length) w wr w.heap.size (mergeK p fs gs) x y fs1 gs1 ds) (fun x y _ _ => slLen x + slLen y)
  case atStart => exact ⟨fs, gs, [], rfl, HX.out⟩
  case round =>
    clear HX
    obtain ⟨fs1, gs1, ds, rfl, hm1⟩ := hrel
    have HM := hid hm1
    clear hm1
    by_cases hfin : fs1 = [] ∨ gs1 = []
    · have HR := hid HM.out.room
      have HFIN := hid hfin
      have HXF := hid HM.out.pf
      have HXG := hid HM.out.pg
      obtain ⟨xa, xc, hxv, _, hucs⟩ := HM.out.pf
      obtain ⟨ya, yc, hyv, _, hvcs⟩ := HM.out.pg
      have HU1 : Hid (0 < fs1.length → ∃ b off, xa = some ⟨b, off, none⟩ ∧ ∀ j u, (flatF fs1)[j]? = some u → wr.cell? ⟨b, off + j, none⟩ = some u) := fun h => by
        obtain ⟨b, off, e, hlt, hc⟩ := hucs h
        exact ⟨b, off, e, fun j u hj => cell_keep (hc j u hj) HM.out.below⟩
      have HV1 : Hid (∀ w2, wr.grownBy w2 (some w.heap.size) → 0 < gs1.length → ∃ b off, ya = some ⟨b, off, none⟩ ∧ ∀ j u, (flatF gs1)[j]? = some u → w2.cell? ⟨b, off + j, none⟩ = some u) := fun w2 hg2 h => by
        obtain ⟨b, off, e, hlt, hc⟩ := hvcs h
        exact ⟨b, off, e, fun j u hj => cell_keep (hc j u hj) (HM.out.below.trans (grown_below hg2 (Nat.le_refl _) HM.out.below.size))⟩
      have hzero : fs1.length = 0 ∨ gs1.length = 0 := by
        rcases hfin with h | h
        · left; rw [h]; rfl
        · right; rw [h]; rfl
      subst hxv
      subst hyv
      clear hucs hvcs hfin
      have r1a : ds.length + fs1.length ≤ fs.length + gs.length := by have := HR.out; omega
      have r2a : ds.length + fs1.length + gs1.length ≤ fs.length + gs.length := HR.out
      by_cases hu0 : 0 < fs1.length
      · have hv0 : ¬ 0 < gs1.length := by omega
        go_wp2_with (at_builtin; first
          | (refine wpList_append_fts rfl (.tmp 89) (.tmp 90) 64 rfl w.heap.size 52 i0 Tryz.underlying64 HI.out.1 HI.out.2.1 w.heap.size ds.length (fs.length + gs.length) (flatF ds) rfl HM.out.own fs1 _ _ rfl HU1.out r1a ?_; intro w2 r1 r2; have R1 := hid r1; have R2 := hid r2; clear r1 r2)
          | (refine wpList_append_fts rfl (.tmp 91) (.tmp 92) 64 rfl w.heap.size 52 i0 Tryz.underlying64 HI.out.1 HI.out.2.1 w.heap.size (ds.length + fs1.length) (fs.length + gs.length) (flatF ds ++ flatF fs1) rfl R1.out gs1 _ _ rfl (HV1.out _ R2.out) r2a ?_; intro w3 r3 r4; have R3 := hid r3; have R4 := hid r4; clear r3 r4))
        go_ret
        have F := HM.out.finish HFIN.out R2.out R4.out R3.out (Nat.le_refl _)
        exact ⟨_, rfl, F.1, F.2⟩
      · go_wp2_with (at_builtin; first
          | (refine wpList_append_fts rfl (.tmp 89) (.tmp 90) 64 rfl w.heap.size 52 i0 Tryz.underlying64 HI.out.1 HI.out.2.1 w.heap.size ds.length (fs.length + gs.length) (flatF ds) rfl HM.out.own fs1 _ _ rfl HU1.out r1a ?_; intro w2 r1 r2; have R1 := hid r1; have R2 := hid r2; clear r1 r2)
          | (refine wpList_append_fts rfl (.tmp 91) (.tmp 92) 64 rfl w.heap.size 52 i0 Tryz.underlying64 HI.out.1 HI.out.2.1 w.heap.size (ds.length + fs1.length) (fs.length + gs.length) (flatF ds ++ flatF fs1) rfl R1.out gs1 _ _ rfl (HV1.out _ R2.out) r2a ?_; intro w3 r3 r4; have R3 := hid r3; have R4 := hid r4; clear r3 r4))
        go_ret
        have F := HM.out.finish HFIN.out R2.out R4.out R3.out (Nat.le_refl _)
        exact ⟨_, rfl, F.1, F.2⟩
    · cases fs1 with
      | nil => exact absurd (Or.inl rfl) hfin
      | cons t fs2 =>
      cases gs1 with
      | nil => exact absurd (Or.inr rfl) hfin
      | cons u gs2 =>
        clear hfin
        obtain ⟨b, off, fcap, rfl, hfc, hlt, hft, hone, hpl⟩ := HM.out.pf.head
        obtain ⟨b2, off2, gcap, rfl, hgc, hlt2, hgt, hone2, hpl2⟩ := HM.out.pg.head
        have HP := hid (And.intro hone hpl)
        have HP2 := hid (And.intro hone2 hpl2)
        have HT := hid (HM.out.cf t (by simp))
        have HU := hid (HM.out.cg u (by simp))
        have hroom : ds.length + 1 ≤ fs.length + gs.length := by have := HM.out.room; simp only [List.length_cons] at this; omega
        have hle : (1 : Int) ≤ (fs2.length : Int) + 1 := by omega
        have hle2 : (1 : Int) ≤ (gs2.length : Int) + 1 := by omega
        obtain ⟨A, hA, hplA⟩ := Fv.tail HP.out
        have HPA := hid hplA
        obtain ⟨A2, hA2, hplA2⟩ := Fv.tail HP2.out
        have HPA2 := hid hplA2
        obtain ⟨c0, c1, c2, c3, c4, c5, c6⟩ := hft.keep HM.out.below
        obtain ⟨d0, d1, d2, d3, d4, d5, d6⟩ := hgt.keep HM.out.below
        clear hplA hplA2 hft hgt hone hone2 hpl hpl2
        have CT : Hid (∀ W, Below wr.heap.size wr W → FtAt W b off t ∧ FtAt W b2 off2 u) := fun W h => ⟨FtAt.keep ⟨c0, c1, c2, c3, c4, c5, c6⟩ h, FtAt.keep ⟨d0, d1, d2, d3, d4, d5, d6⟩ h⟩
        by_cases hk1 : u.k < t.k
        · go_wp2
          go_quiet (fail)
          have HM9 := hid (HM.out.next (below_drewN (Below.refl wr.heap.size wr) nq))
          obtain ⟨⟨e0, e1, e2, e3, e4, e5, e6⟩, _⟩ := CT.out _ (below_drewN (Below.refl wr.heap.size wr) nq)
          have HOWN := hid (ownBlock_lt HM9.out.own ((Below.refl (wr.drewN nq).heap.size (wr.drewN nq)).drew.alloc (Nat.le_refl _) (.cells #[.int .i64 t.k, .int .u16 t.a, .int .u16 t.b, .int .u16 t.d, .int .u16 t.z, .int .u8 t.pl, .int .u8 t.c] 52)))
          go_wp2
          go_region_law (refine step_append_fits rfl (.tmp 63) (.tmp 67) 64 rfl w.heap.size 52 i0 7 Tryz.underlying64 HI.out.1 HI.out.2.1 w.heap.size ds.length (fs.length + gs.length) (flatF ds) (by simp [Act.eval, Act.put]) HOWN.out ⟨wr.heap.size, 0, none⟩ 1 1 (encF t) (by simp [Act.eval, Act.put]) rfl (seven_new _ _ _) (encF_one t) hroom ?_; intro w' r1 r2; have R1 := hid (And.intro r1 r2); clear r1 r2)
          all_goals
            simp only [List.getElem_toArray, List.getElem_cons_succ, List.getElem_cons_zero]
            simp only [Act.put, List.setIfInBounds_toArray, List.set_cons_zero, List.set_cons_succ]
            go_wp2
            go_roundw
            case rel => exact ⟨fs2, u :: gs2, ds ++ [t], by simp, (HM9.out.next ((Below.refl (wr.drewN nq).heap.size (wr.drewN nq)).drew.alloc (Nat.le_refl _) _)).takeF hk1 R1.out.1 R1.out.2 (Nat.le_refl _) HPA.out⟩
            case measure => simp [slLen]
        · go_wp2
          go_quiet (fail)
          have HBQ := hid (below_drewN (Below.refl wr.heap.size wr) nq)
          generalize wr.drewN nq = wq at HBQ ⊢
          have HMQ := hid (HM.out.next HBQ.out)
          obtain ⟨⟨c0, c1, c2, c3, c4, c5, c6⟩, d0, d1, d2, d3, d4, d5, d6⟩ := CT.out _ HBQ.out
          clear HM
          by_cases hk2 : t.k < u.k
          · go_wp2
            go_quiet (fail)
            have HBP := hid (below_drewN (Below.refl wq.heap.size wq) nq)
            generalize wq.drewN nq = wp at HBP ⊢
            have HM9 := hid (HMQ.out.next HBP.out)
            obtain ⟨⟨c0, c1, c2, c3, c4, c5, c6⟩, d0, d1, d2, d3, d4, d5, d6⟩ := CT.out _ (HBQ.out.trans (HBP.out.mono HBQ.out.size))
            have HOWN := hid (ownBlock_lt HM9.out.own ((Below.refl wp.heap.size wp).drew.alloc (Nat.le_refl _) (.cells #[.int .i64 u.k, .int .u16 u.a, .int .u16 u.b, .int .u16 u.d, .int .u16 u.z, .int .u8 u.pl, .int .u8 u.c] 52)))
            go_wp2
            go_region_law (refine step_append_fits rfl (.tmp 81) (.tmp 85) 64 rfl w.heap.size 52 i0 7 Tryz.underlying64 HI.out.1 HI.out.2.1 w.heap.size ds.length (fs.length + gs.length) (flatF ds) (by simp [Act.eval, Act.put]) HOWN.out ⟨wp.heap.size, 0, none⟩ 1 1 (encF u) (by simp [Act.eval, Act.put]) rfl (seven_new _ _ _) (encF_one u) hroom ?_; intro w' r1 r2; have R1 := hid (And.intro r1 r2); clear r1 r2)
            all_goals
              simp only [List.getElem_toArray, List.getElem_cons_succ, List.getElem_cons_zero]
              simp only [Act.put, List.setIfInBounds_toArray, List.set_cons_zero, List.set_cons_succ]
              go_wp2
              go_roundw
              case rel => exact ⟨t :: fs2, gs2, ds ++ [u], by simp, (HM9.out.next ((Below.refl wp.heap.size wp).drew.alloc (Nat.le_refl _) _)).takeG hk2 R1.out.1 R1.out.2 (Nat.le_refl _) HPA2.out⟩
              case measure => simp [slLen]
          · have hke : t.k = u.k := by omega
            have HKE := hid hke
            clear hke
            obtain ⟨ht1, ht2⟩ := HT.out
            obtain ⟨hu1, hu2⟩ := HU.out
            obtain ⟨q0, q1⟩ := mod_bd (a := t.c + u.c) ⟨hp1, hp2⟩
            have hpz : ¬ p = 0 := by omega
            go_wp2
            go_quiet (fail)
            have HBP := hid (below_drewN (Below.refl wq.heap.size wq) nq)
            generalize wq.drewN nq = wp at HBP ⊢
            have HM9 := hid (HMQ.out.next HBP.out)
            obtain ⟨⟨c0, c1, c2, c3, c4, c5, c6⟩, d0, d1, d2, d3, d4, d5, d6⟩ := CT.out _ (HBQ.out.trans (HBP.out.mono HBQ.out.size))
            obtain ⟨olt, o0, o1, o2, o3, o4⟩ := HOB.out.below HM9.out.below
            clear HMQ
            have OW0 := hid (box7 (w := wp) (B := wp.heap.size) (Nat.le_refl _) t)
            have HBT : Hid (Below wp.heap.size wp (wp.alloc (.cells #[.int .i64 t.k, .int .u16 t.a, .int .u16 t.b, .int .u16 t.d, .int .u16 t.z, .int .u8 t.pl, .int .u8 t.c] 52))) := below_oneG
            go_wp2
            generalize wp.alloc (.cells #[.int .i64 t.k, .int .u16 t.a, .int .u16 t.b, .int .u16 t.d, .int .u16 t.z, .int .u8 t.pl, .int .u8 t.c] 52) = wt at OW0 HBT ⊢
            obtain ⟨⟨c0, c1, c2, c3, c4, c5, c6⟩, d0, d1, d2, d3, d4, d5, d6⟩ := CT.out _ ((HBQ.out.trans (HBP.out.mono HBQ.out.size)).trans (HBT.out.mono (HBQ.out.trans (HBP.out.mono HBQ.out.size)).size))
            have p0 := cell_keep o0 HBT.out
            have y6 : wt.cell? ⟨wp.heap.size, 6, none⟩ = some (.int .u8 t.c) := OW0.out.cellAt 6 (by omega)
            have z6 : wt.frozen? ⟨wp.heap.size, 6, none⟩ = false := OW0.out.frozenAt 6
            go_region
            have OW1 : Hid ((wt.setCell ⟨wp.heap.size, 6, none⟩ (.int .u8 ((t.c + u.c) % p))).drew.ownsRow wp.heap.size 52 7 (.slice (some ⟨wp.heap.size, 0, none⟩) 1 1) 1 (encF { t with c := (t.c + u.c) % p })) := ownBlock_lt (OW0.out.stored 6 (.int .u8 ((t.c + u.c) % p))).1 (Below.refl _ _).drew
            have HBS : Hid (Below wp.heap.size wp (wt.setCell ⟨wp.heap.size, 6, none⟩ (.int .u8 ((t.c + u.c) % p))).drew) := (HBT.out.trans (grown_below (OW0.out.stored 6 (.int .u8 ((t.c + u.c) % p))).2 (Nat.le_refl _) HBT.out.size)).drew
            generalize (wt.setCell ⟨wp.heap.size, 6, none⟩ (.int .u8 ((t.c + u.c) % p))).drew = ws at OW1 HBS ⊢
            have HMS := hid (HM9.out.next HBS.out)
            have x0 : ws.cell? ⟨wp.heap.size, 0, none⟩ = some (.int .i64 t.k) := OW1.out.cellAt 0 (by omega)
            have x1 : ws.cell? ⟨wp.heap.size, 1, none⟩ = some (.int .u16 t.a) := OW1.out.cellAt 1 (by omega)
            have x2 : ws.cell? ⟨wp.heap.size, 2, none⟩ = some (.int .u16 t.b) := OW1.out.cellAt 2 (by omega)
            have x3 : ws.cell? ⟨wp.heap.size, 3, none⟩ = some (.int .u16 t.d) := OW1.out.cellAt 3 (by omega)
            have x4 : ws.cell? ⟨wp.heap.size, 4, none⟩ = some (.int .u16 t.z) := OW1.out.cellAt 4 (by omega)
            have x5 : ws.cell? ⟨wp.heap.size, 5, none⟩ = some (.int .u8 t.pl) := OW1.out.cellAt 5 (by omega)
            have x6 : ws.cell? ⟨wp.heap.size, 6, none⟩ = some (.int .u8 ((t.c + u.c) % p)) := OW1.out.cellAt 6 (by omega)
            clear y6 z6 c0 c1 c2 c3 c4 c5 c6 d0 d1 d2 d3 d4 d5 d6
            by_cases hz : (t.c + u.c) % p = 0
            · go_wp2
              go_quiet (fail)
              go_wp2
              go_roundw
              case rel => exact ⟨fs2, gs2, ds, rfl, (HMS.out.next (below_drewN (Below.refl _ _) _)).drop HKE.out hz HPA.out HPA2.out⟩
              case measure => simp [slLen]; omega
            · have HOWN := hid (ownBlock_lt HMS.out.own (belowNew (A := .cells #[.int .i64 t.k, .int .u16 t.a, .int .u16 t.b, .int .u16 t.d, .int .u16 t.z, .int .u8 t.pl, .int .u8 ((t.c + u.c) % p)] 52)))
              have hzb : ((t.c + u.c) % p != 0) = true := by simpa using hz
              go_wp2_with (at_builtin; refine wpList_append_fits _ rfl (.tmp 45) (.tmp 47) 64 rfl w.heap.size 52 i0 7 Tryz.underlying64 HI.out.1 HI.out.2.1 w.heap.size ds.length (fs.length + gs.length) (flatF ds) rfl HOWN.out ⟨ws.heap.size, 0, none⟩ 1 1 (encF { t with c := (t.c + u.c) % p }) rfl rfl (seven_new ws { t with c := (t.c + u.c) % p } _) (encF_one _) hroom ?_; intro w' r1 r2; have R1 := hid (And.intro r1 r2); clear r1 r2)
              go_quiet (fail)
              go_wp2
              go_roundw
              case rel => exact ⟨fs2, gs2, ds ++ [{ t with c := (t.c + u.c) % p }], by simp, ((HMS.out.next belowNew).both HKE.out hz R1.out.1 R1.out.2 (Nat.le_refl _) HPA.out HPA2.out).next (below_drewN (Below.refl _ _) _)⟩
              case measure => simp [slLen]; omega
end Go.Proofs.YtilogbggilchaaaGreat
