/- Scale of flat vectors. -/
import Derived.Test.YtilogbggilchaaaGreatZE
namespace Go.Proofs.YtilogbggilchaaaGreat
set_option linter.unusedSimpArgs false
set_option linter.unusedVariables false
open Go.RowKit
def mulF (p more : Int) (by_ t : Ft) : Ft := ⟨t.k + more, t.a + by_.a, t.b + by_.b, t.d + by_.d, t.z + by_.z, t.pl, t.c * by_.c % p⟩
structure Fok (p : Int) (t : Ft) : Prop where
  k : -1000000000000000000 ≤ t.k ∧ t.k ≤ 1000000000000000000
  a : 0 ≤ t.a ∧ t.a ≤ 30000
  b : 0 ≤ t.b ∧ t.b ≤ 30000
  d : 0 ≤ t.d ∧ t.d ≤ 30000
  z : 0 ≤ t.z ∧ t.z ≤ 30000
  pl : 0 ≤ t.pl ∧ t.pl ≤ 255
  c : 0 ≤ t.c ∧ t.c < p

structure HalfF (w wr : World) (g n : Nat) (us : List Ft) : Prop where
  own : ∃ rest, wr.ownsRow w.heap.size 52 7 (.slice (some ⟨g, 0, none⟩) n n) n (flatF us ++ rest) ∧ (flatF us ++ rest).length = n * 7
  below : Below w.heap.size w wr
  ge : w.heap.size ≤ g
theorem HalfF.next {w wr w' : World} {g n : Nat} {us : List Ft} (h : HalfF w wr g n us) (hb : Below wr.heap.size wr w') : HalfF w w' g n us := by
  obtain ⟨rest, h1, h2⟩ := h.own
  exact ⟨⟨rest, ownBlock_lt h1 hb, h2⟩, h.below.trans (hb.mono h.below.size), h.ge⟩
theorem HalfF.lt {w wr : World} {g n : Nat} {us : List Ft} (h : HalfF w wr g n us) : g < wr.heap.size := by
  obtain ⟨rest, h1, _⟩ := h.own
  exact (World.ownsRow.lt h1 g rfl).2
theorem HalfF.cell {w wr : World} {g n : Nat} {us : List Ft} (h : HalfF w wr g n us) (j : Nat) (hj : j < n * 7) : (∃ a, wr.cell? ⟨g, j, none⟩ = some a) ∧ wr.frozen? ⟨g, j, none⟩ = false := by
  obtain ⟨rest, h1, h2⟩ := h.own
  have e1 := h1.cellAt j (by omega)
  rw [List.getElem?_eq_getElem (by omega)] at e1
  exact ⟨⟨_, e1⟩, h1.frozenAt _⟩
theorem set_seven (l : List Value) (a b c d e f g : Value) : ∀ r : List Value, 7 ≤ r.length → (((((((l ++ r).set l.length a).set (l.length + 1) b).set (l.length + 2) c).set (l.length + 3) d).set (l.length + 4) e).set (l.length + 5) f).set (l.length + 6) g = l ++ [a, b, c, d, e, f, g] ++ r.drop 7
  | [], h => by simp at h
  | [_], h => by simp at h
  | [_, _], h => by simp at h
  | [_, _, _], h => by simp at h
  | [_, _, _, _], h => by simp at h
  | [_, _, _, _, _], h => by simp at h
  | [_, _, _, _, _, _], h => by simp at h
  | _ :: _ :: _ :: _ :: _ :: _ :: _ :: r, _ => by simp [List.set_append_right]
def put7 (wr : World) (g k : Nat) (t : Ft) : World := ((((((wr.setCell ⟨g, k * 7, none⟩ (.int .i64 t.k)).setCell ⟨g, k * 7 + 1, none⟩ (.int .u16 t.a)).setCell ⟨g, k * 7 + 2, none⟩ (.int .u16 t.b)).setCell ⟨g, k * 7 + 3, none⟩ (.int .u16 t.d)).setCell ⟨g, k * 7 + 4, none⟩ (.int .u16 t.z)).setCell ⟨g, k * 7 + 5, none⟩ (.int .u8 t.pl)).setCell ⟨g, k * 7 + 6, none⟩ (.int .u8 t.c)
theorem HalfF.put {w wr : World} {g n : Nat} {us : List Ft} (h : HalfF w wr g n us) (hk : us.length < n) (t : Ft) : HalfF w (put7 wr g us.length t) g n (us ++ [t]) := by
  obtain ⟨rest, h1, h2⟩ := h.own
  have s1 := h1.stored (us.length * 7) (.int .i64 t.k)
  have s2 := s1.1.stored (us.length * 7 + 1) (.int .u16 t.a)
  have s3 := s2.1.stored (us.length * 7 + 2) (.int .u16 t.b)
  have s4 := s3.1.stored (us.length * 7 + 3) (.int .u16 t.d)
  have s5 := s4.1.stored (us.length * 7 + 4) (.int .u16 t.z)
  have s6 := s5.1.stored (us.length * 7 + 5) (.int .u8 t.pl)
  have s7 := s6.1.stored (us.length * 7 + 6) (.int .u8 t.c)
  have hg := grown_trans (grown_trans (grown_trans (grown_trans (grown_trans (grown_trans s1.2 s2.2) s3.2) s4.2) s5.2) s6.2) s7.2
  rw [List.length_append, flatF_len] at h2
  refine ⟨⟨rest.drop 7, ?_, ?_⟩, h.below.trans (grown_below hg h.ge h.below.size), h.ge⟩
  · have e := set_seven (flatF us) (.int .i64 t.k) (.int .u16 t.a) (.int .u16 t.b) (.int .u16 t.d) (.int .u16 t.z) (.int .u8 t.pl) (.int .u8 t.c) rest (by omega)
    rw [flatF_len] at e
    have := s7.1
    rw [e] at this
    rw [flatF_snoc]
    exact this
  · rw [List.length_append, flatF_len, List.length_drop, List.length_append]; simp; omega
theorem HalfF.done {w wr : World} {g n : Nat} {us : List Ft} (h : HalfF w wr g n us) (hn : us.length = n) : Fv wr (.slice (some ⟨g, 0, none⟩) n n) us := by
  obtain ⟨rest, h1, h2⟩ := h.own
  rw [List.length_append, flatF_len] at h2
  have e : rest = [] := List.length_eq_zero_iff.1 (by omega)
  rw [e, List.append_nil] at h1
  subst hn
  exact own_fv h1
theorem HalfF.made {w w' : World} {n : Nat} {z : Array Value} (h : w'.ownsRow w.heap.size 52 7 (.slice (some ⟨w.heap.size, 0, none⟩) n n) n (madeCells z (n * 7)).toList) (hg : w.grownBy w' none) : HalfF w w' w.heap.size n [] :=
  ⟨⟨(madeCells z (n * 7)).toList, h, by simp [flatF, size_madeCells]⟩, ⟨hg.os, hg.tape, hg.output, hg.size, fun k hk => hg.block k hk (by simp)⟩, Nat.le_refl _⟩
theorem far7 {w : World} {g k b o : Nat} {t : Ft} (h : b ≠ g) : (put7 w g k t).cell? ⟨b, o, none⟩ = w.cell? ⟨b, o, none⟩ := by
  unfold put7
  rw [World.cell?_setCell_far _ _ _ _ (fun e => h e.symm), World.cell?_setCell_far _ _ _ _ (fun e => h e.symm), World.cell?_setCell_far _ _ _ _ (fun e => h e.symm), World.cell?_setCell_far _ _ _ _ (fun e => h e.symm), World.cell?_setCell_far _ _ _ _ (fun e => h e.symm), World.cell?_setCell_far _ _ _ _ (fun e => h e.symm), World.cell?_setCell_far _ _ _ _ (fun e => h e.symm)]
theorem take_snocF (fs : List Ft) (k : Nat) (h : k < fs.length) : fs.take (k + 1) = fs.take k ++ [fs.getD k noF] := by
  rw [List.take_succ_eq_append_getElem h]; simp [List.getD_eq_getElem?_getD, h]
theorem getD_memF (fs : List Ft) (k : Nat) (h : k < fs.length) : fs.getD k noF ∈ fs := by
  rw [List.getD_eq_getElem?_getD, List.getElem?_eq_getElem h]; simp

set_option maxRecDepth 100000 in
set_option maxHeartbeats 2000000 in
theorem flatScale_any (ob : Nat) (p k0 k1 k2 : Int) (sv fv : Value) (bt : Ft) (fs : List Ft) (w : World) (hob : OrdB w ob p k0 k1 k2 sv) (hp : 2 ≤ p ∧ p ≤ 101) (h0 : 0 ≤ k0 ∧ k0 ≤ 137438953472) (h1 : 0 ≤ k1 ∧ k1 ≤ 137438953472) (h2 : 0 ≤ k2 ∧ k2 ≤ 137438953472)
    (hbt : Fok p bt) (hfs : ∀ t ∈ fs, Fok p t) (hm : fs.length ≤ 2000000000000) (hf : Fv w fv fs) :
    Calls Tryz.prog 64 #[.pointer (some ⟨ob, 0, none⟩), ftV bt, fv] w fun e w' => ∃ u, e = .returned u ∧ Fv w' u (fs.map (mulF p (bt.a * k0 + bt.b * k1 + bt.d * k2) bt)) ∧ Below w.heap.size w w' := by
  have HF := hid hf
  have HFS := hid hfs
  have HBT0 := hid hbt
  have HP := hid hp
  have HAD := hid (fun (W : World) (hW : OrdB W ob p k0 k1 k2 sv) => added_any ob p k0 k1 k2 sv bt.a bt.b bt.d bt.z W hW (by have := hbt.a; omega) (by have := hbt.b; omega) (by have := hbt.d; omega) h0 h1 h2)
  have HMO : Hid (-9007061815787520 * 3 ≤ bt.a * k0 + bt.b * k1 + bt.d * k2 ∧ bt.a * k0 + bt.b * k1 + bt.d * k2 ≤ 9007061815787520 * 3) := by
    obtain ⟨m0, n0⟩ := mulK (a := bt.a) (k := k0) (by have := hbt.a; omega) h0
    obtain ⟨m1, n1⟩ := mulK (a := bt.b) (k := k1) (by have := hbt.b; omega) h1
    obtain ⟨m2, n2⟩ := mulK (a := bt.d) (k := k2) (by have := hbt.d; omega) h2
    exact ⟨by omega, by omega⟩
  generalize bt.a * k0 + bt.b * k1 + bt.d * k2 = more at HAD HMO ⊢
  obtain ⟨w1, hw1⟩ : ∃ w1, w1 = w.alloc (.cells #[.int .i64 bt.k, .int .u16 bt.a, .int .u16 bt.b, .int .u16 bt.d, .int .u16 bt.z, .int .u8 bt.pl, .int .u8 bt.c] 52) := ⟨_, rfl⟩
  have HB1 : Hid (Below w.heap.size w w1) := by rw [hw1]; exact below_oneG
  have HX : Hid (FtAt w1 w.heap.size 0 bt) := by
    rw [hw1]
    exact ft_at_of fun j u hj => by
      have h := seven_new w bt 52 j u hj
      by_cases hj0 : j = 0
      · subst hj0; simpa [Addr.add] using h
      · simpa [Addr.add, hj0] using h
  have HOB := hid (hob.below HB1.out)
  obtain ⟨fa, fc, rfl, _, _⟩ := hf
  clear hbt hfs hob h0 h1 h2 hp
  unfold ftV
  unfold exV at HAD
  obtain ⟨i0, hi, hz0, hz1, hz2⟩ := info_parts Tryz.infoFt
  obtain ⟨x0, x1, x2, x3, x4, x5, x6⟩ := HX.out
  simp only [Nat.zero_add] at x1 x2 x3 x4 x5 x6
  go_enter Tryz.func64, Tryz.ntmps64
  go_wp2_with fail
  rw [← hw1]
  clear hw1
  go_wp2_with (first
    | (go_at_call 97; refine (HAD.out _ HOB.out).mono ?_; rintro e w2 ⟨rfl, hb2⟩; have HB2 := hid hb2; clear hb2 x0 x1 x2 x3 x4 x5 x6)
    | (at_make; refine wpList_make_full _ rfl _ _ 64 rfl w2.heap.size 52 i0 _ 7 Tryz.underlying64 hi hz0 hz1 .i64 .i64 _ _ fs.length rfl rfl rfl rfl (by rw [hz2]; omega) (by unfold maxLen; omega) (Nat.le_refl _) ?_; intro w3 hown hgrow; have HH0 := hid (HalfF.made hown hgrow); clear hown hgrow))
  clear hi hz0 hz1 hz2
  go_loopw [20] (fun i wr => ∃ k : Nat, k ≤ fs.length ∧ i = .int .i64 k ∧ ∃ us : List Ft, us.length = k ∧ us = (fs.take k).map (mulF p more bt) ∧ HalfF w2 wr w2.heap.size fs.length us) (fun i _ => fs.length - (intOf i).toNat)
  case atStart => exact ⟨0, Nat.zero_le _, rfl, [], rfl, by simp, HH0.out⟩
  case round =>
    clear HH0
    obtain ⟨k, hk, rfl, us, hus, hut, hh⟩ := hrel
    have HH := hid hh
    have HUT := hid hut
    clear hh hut
    have HDN := hid (HB1.out.trans (HB2.out.mono HB1.out.size))
    have HDR := hid (HDN.out.trans (HH.out.below.mono HDN.out.size))
    by_cases hk2 : k < fs.length
    · obtain ⟨b, off, rfl, hlt, _, hat⟩ := HF.out.at k hk2
      have HTK := hid (take_snocF fs k hk2)
      have HFO := hid (HFS.out _ (getD_memF fs k hk2))
      generalize fs.getD k noF = t at hat HTK HFO
      obtain ⟨c0, c1, c2, c3, c4, c5, c6⟩ := hat.keep HDR.out
      subst hus
      have OT : Hid (FtAt (wr.alloc (.cells #[.int .i64 t.k, .int .u16 t.a, .int .u16 t.b, .int .u16 t.d, .int .u16 t.z, .int .u8 t.pl, .int .u8 t.c] 52)) wr.heap.size 0 t) := ft_at_of fun j u hj => by
        have h := seven_new wr t 52 j u hj
        by_cases hj0 : j = 0
        · subst hj0; simpa [Addr.add] using h
        · simpa [Addr.add, hj0] using h
      have HBT : Hid (Below wr.heap.size wr (wr.alloc (.cells #[.int .i64 t.k, .int .u16 t.a, .int .u16 t.b, .int .u16 t.d, .int .u16 t.z, .int .u8 t.pl, .int .u8 t.c] 52))) := below_oneG
      go_wp2
      generalize wr.alloc (.cells #[.int .i64 t.k, .int .u16 t.a, .int .u16 t.b, .int .u16 t.d, .int .u16 t.z, .int .u8 t.pl, .int .u8 t.c] 52) = wt at OT HBT ⊢
      clear c0 c1 c2 c3 c4 c5 c6
      have HDT := hid ((HB2.out.trans (HH.out.below.mono HB2.out.size)).trans (HBT.out.mono (HB2.out.trans (HH.out.below.mono HB2.out.size)).size))
      have HHT := hid (HH.out.next HBT.out)
      have KEEP : Hid (∀ W, Below wt.heap.size wt W → (W.cell? ⟨wr.heap.size, 0, none⟩ = some (.int .i64 t.k) ∧ W.cell? ⟨wr.heap.size, 1, none⟩ = some (.int .u16 t.a) ∧ W.cell? ⟨wr.heap.size, 2, none⟩ = some (.int .u16 t.b) ∧ W.cell? ⟨wr.heap.size, 3, none⟩ = some (.int .u16 t.d) ∧ W.cell? ⟨wr.heap.size, 4, none⟩ = some (.int .u16 t.z) ∧ W.cell? ⟨wr.heap.size, 5, none⟩ = some (.int .u8 t.pl) ∧ W.cell? ⟨wr.heap.size, 6, none⟩ = some (.int .u8 t.c) ∧ W.cell? ⟨w.heap.size, 1, none⟩ = some (.int .u16 bt.a) ∧ W.cell? ⟨w.heap.size, 2, none⟩ = some (.int .u16 bt.b) ∧ W.cell? ⟨w.heap.size, 3, none⟩ = some (.int .u16 bt.d) ∧ W.cell? ⟨w.heap.size, 4, none⟩ = some (.int .u16 bt.z) ∧ W.cell? ⟨w.heap.size, 6, none⟩ = some (.int .u8 bt.c) ∧ Hid (OrdB W ob p k0 k1 k2 sv))) := fun W h => by
        obtain ⟨y0, y1, y2, y3, y4, y5, y6⟩ := OT.out.keep h
        obtain ⟨z0, z1, z2, z3, z4, z5, z6⟩ := (HX.out.keep HDT.out).keep h
        simp only [Nat.zero_add] at y1 y2 y3 y4 y5 y6 z1 z2 z3 z4 z5 z6
        exact ⟨y0, y1, y2, y3, y4, y5, y6, z1, z2, z3, z4, z6, (HOB.out.below HDT.out).below h⟩
      have HNE : Hid (wr.heap.size ≠ w2.heap.size ∧ w.heap.size ≠ w2.heap.size ∧ ob ≠ w2.heap.size) := by
        have h1 := HH.out.lt
        have h2 := HOB.out.lt
        have h3 := HB2.out.size
        have h4 := cellLt HX.out.1
        simp only at h4
        exact ⟨by omega, by omega, by omega⟩
      have KEEPS : Hid (∀ W, (W.cell? ⟨wr.heap.size, 0, none⟩ = some (.int .i64 t.k) ∧ W.cell? ⟨wr.heap.size, 1, none⟩ = some (.int .u16 t.a) ∧ W.cell? ⟨wr.heap.size, 2, none⟩ = some (.int .u16 t.b) ∧ W.cell? ⟨wr.heap.size, 3, none⟩ = some (.int .u16 t.d) ∧ W.cell? ⟨wr.heap.size, 4, none⟩ = some (.int .u16 t.z) ∧ W.cell? ⟨wr.heap.size, 5, none⟩ = some (.int .u8 t.pl) ∧ W.cell? ⟨wr.heap.size, 6, none⟩ = some (.int .u8 t.c) ∧ W.cell? ⟨w.heap.size, 1, none⟩ = some (.int .u16 bt.a) ∧ W.cell? ⟨w.heap.size, 2, none⟩ = some (.int .u16 bt.b) ∧ W.cell? ⟨w.heap.size, 3, none⟩ = some (.int .u16 bt.d) ∧ W.cell? ⟨w.heap.size, 4, none⟩ = some (.int .u16 bt.z) ∧ W.cell? ⟨w.heap.size, 6, none⟩ = some (.int .u8 bt.c) ∧ Hid (OrdB W ob p k0 k1 k2 sv)) → ((((((((W.setCell ⟨w2.heap.size, us.length * 7, none⟩ (.int .i64 (t.k + more))).setCell ⟨w2.heap.size, us.length * 7 + 1, none⟩ (.int .u16 (t.a + bt.a))).setCell ⟨w2.heap.size, us.length * 7 + 2, none⟩ (.int .u16 (t.b + bt.b))).setCell ⟨w2.heap.size, us.length * 7 + 3, none⟩ (.int .u16 (t.d + bt.d))).setCell ⟨w2.heap.size, us.length * 7 + 4, none⟩ (.int .u16 (t.z + bt.z))).setCell ⟨w2.heap.size, us.length * 7 + 5, none⟩ (.int .u8 t.pl)).setCell ⟨w2.heap.size, us.length * 7 + 6, none⟩ (.int .u8 (t.c * bt.c % p))).cell? ⟨wr.heap.size, 0, none⟩ = some (.int .i64 t.k) ∧ (((((((W.setCell ⟨w2.heap.size, us.length * 7, none⟩ (.int .i64 (t.k + more))).setCell ⟨w2.heap.size, us.length * 7 + 1, none⟩ (.int .u16 (t.a + bt.a))).setCell ⟨w2.heap.size, us.length * 7 + 2, none⟩ (.int .u16 (t.b + bt.b))).setCell ⟨w2.heap.size, us.length * 7 + 3, none⟩ (.int .u16 (t.d + bt.d))).setCell ⟨w2.heap.size, us.length * 7 + 4, none⟩ (.int .u16 (t.z + bt.z))).setCell ⟨w2.heap.size, us.length * 7 + 5, none⟩ (.int .u8 t.pl)).setCell ⟨w2.heap.size, us.length * 7 + 6, none⟩ (.int .u8 (t.c * bt.c % p))).cell? ⟨wr.heap.size, 1, none⟩ = some (.int .u16 t.a) ∧ (((((((W.setCell ⟨w2.heap.size, us.length * 7, none⟩ (.int .i64 (t.k + more))).setCell ⟨w2.heap.size, us.length * 7 + 1, none⟩ (.int .u16 (t.a + bt.a))).setCell ⟨w2.heap.size, us.length * 7 + 2, none⟩ (.int .u16 (t.b + bt.b))).setCell ⟨w2.heap.size, us.length * 7 + 3, none⟩ (.int .u16 (t.d + bt.d))).setCell ⟨w2.heap.size, us.length * 7 + 4, none⟩ (.int .u16 (t.z + bt.z))).setCell ⟨w2.heap.size, us.length * 7 + 5, none⟩ (.int .u8 t.pl)).setCell ⟨w2.heap.size, us.length * 7 + 6, none⟩ (.int .u8 (t.c * bt.c % p))).cell? ⟨wr.heap.size, 2, none⟩ = some (.int .u16 t.b) ∧ (((((((W.setCell ⟨w2.heap.size, us.length * 7, none⟩ (.int .i64 (t.k + more))).setCell ⟨w2.heap.size, us.length * 7 + 1, none⟩ (.int .u16 (t.a + bt.a))).setCell ⟨w2.heap.size, us.length * 7 + 2, none⟩ (.int .u16 (t.b + bt.b))).setCell ⟨w2.heap.size, us.length * 7 + 3, none⟩ (.int .u16 (t.d + bt.d))).setCell ⟨w2.heap.size, us.length * 7 + 4, none⟩ (.int .u16 (t.z + bt.z))).setCell ⟨w2.heap.size, us.length * 7 + 5, none⟩ (.int .u8 t.pl)).setCell ⟨w2.heap.size, us.length * 7 + 6, none⟩ (.int .u8 (t.c * bt.c % p))).cell? ⟨wr.heap.size, 3, none⟩ = some (.int .u16 t.d) ∧ (((((((W.setCell ⟨w2.heap.size, us.length * 7, none⟩ (.int .i64 (t.k + more))).setCell ⟨w2.heap.size, us.length * 7 + 1, none⟩ (.int .u16 (t.a + bt.a))).setCell ⟨w2.heap.size, us.length * 7 + 2, none⟩ (.int .u16 (t.b + bt.b))).setCell ⟨w2.heap.size, us.length * 7 + 3, none⟩ (.int .u16 (t.d + bt.d))).setCell ⟨w2.heap.size, us.length * 7 + 4, none⟩ (.int .u16 (t.z + bt.z))).setCell ⟨w2.heap.size, us.length * 7 + 5, none⟩ (.int .u8 t.pl)).setCell ⟨w2.heap.size, us.length * 7 + 6, none⟩ (.int .u8 (t.c * bt.c % p))).cell? ⟨wr.heap.size, 4, none⟩ = some (.int .u16 t.z) ∧ (((((((W.setCell ⟨w2.heap.size, us.length * 7, none⟩ (.int .i64 (t.k + more))).setCell ⟨w2.heap.size, us.length * 7 + 1, none⟩ (.int .u16 (t.a + bt.a))).setCell ⟨w2.heap.size, us.length * 7 + 2, none⟩ (.int .u16 (t.b + bt.b))).setCell ⟨w2.heap.size, us.length * 7 + 3, none⟩ (.int .u16 (t.d + bt.d))).setCell ⟨w2.heap.size, us.length * 7 + 4, none⟩ (.int .u16 (t.z + bt.z))).setCell ⟨w2.heap.size, us.length * 7 + 5, none⟩ (.int .u8 t.pl)).setCell ⟨w2.heap.size, us.length * 7 + 6, none⟩ (.int .u8 (t.c * bt.c % p))).cell? ⟨wr.heap.size, 5, none⟩ = some (.int .u8 t.pl) ∧ (((((((W.setCell ⟨w2.heap.size, us.length * 7, none⟩ (.int .i64 (t.k + more))).setCell ⟨w2.heap.size, us.length * 7 + 1, none⟩ (.int .u16 (t.a + bt.a))).setCell ⟨w2.heap.size, us.length * 7 + 2, none⟩ (.int .u16 (t.b + bt.b))).setCell ⟨w2.heap.size, us.length * 7 + 3, none⟩ (.int .u16 (t.d + bt.d))).setCell ⟨w2.heap.size, us.length * 7 + 4, none⟩ (.int .u16 (t.z + bt.z))).setCell ⟨w2.heap.size, us.length * 7 + 5, none⟩ (.int .u8 t.pl)).setCell ⟨w2.heap.size, us.length * 7 + 6, none⟩ (.int .u8 (t.c * bt.c % p))).cell? ⟨wr.heap.size, 6, none⟩ = some (.int .u8 t.c) ∧ (((((((W.setCell ⟨w2.heap.size, us.length * 7, none⟩ (.int .i64 (t.k + more))).setCell ⟨w2.heap.size, us.length * 7 + 1, none⟩ (.int .u16 (t.a + bt.a))).setCell ⟨w2.heap.size, us.length * 7 + 2, none⟩ (.int .u16 (t.b + bt.b))).setCell ⟨w2.heap.size, us.length * 7 + 3, none⟩ (.int .u16 (t.d + bt.d))).setCell ⟨w2.heap.size, us.length * 7 + 4, none⟩ (.int .u16 (t.z + bt.z))).setCell ⟨w2.heap.size, us.length * 7 + 5, none⟩ (.int .u8 t.pl)).setCell ⟨w2.heap.size, us.length * 7 + 6, none⟩ (.int .u8 (t.c * bt.c % p))).cell? ⟨w.heap.size, 1, none⟩ = some (.int .u16 bt.a) ∧ (((((((W.setCell ⟨w2.heap.size, us.length * 7, none⟩ (.int .i64 (t.k + more))).setCell ⟨w2.heap.size, us.length * 7 + 1, none⟩ (.int .u16 (t.a + bt.a))).setCell ⟨w2.heap.size, us.length * 7 + 2, none⟩ (.int .u16 (t.b + bt.b))).setCell ⟨w2.heap.size, us.length * 7 + 3, none⟩ (.int .u16 (t.d + bt.d))).setCell ⟨w2.heap.size, us.length * 7 + 4, none⟩ (.int .u16 (t.z + bt.z))).setCell ⟨w2.heap.size, us.length * 7 + 5, none⟩ (.int .u8 t.pl)).setCell ⟨w2.heap.size, us.length * 7 + 6, none⟩ (.int .u8 (t.c * bt.c % p))).cell? ⟨w.heap.size, 2, none⟩ = some (.int .u16 bt.b) ∧ (((((((W.setCell ⟨w2.heap.size, us.length * 7, none⟩ (.int .i64 (t.k + more))).setCell ⟨w2.heap.size, us.length * 7 + 1, none⟩ (.int .u16 (t.a + bt.a))).setCell ⟨w2.heap.size, us.length * 7 + 2, none⟩ (.int .u16 (t.b + bt.b))).setCell ⟨w2.heap.size, us.length * 7 + 3, none⟩ (.int .u16 (t.d + bt.d))).setCell ⟨w2.heap.size, us.length * 7 + 4, none⟩ (.int .u16 (t.z + bt.z))).setCell ⟨w2.heap.size, us.length * 7 + 5, none⟩ (.int .u8 t.pl)).setCell ⟨w2.heap.size, us.length * 7 + 6, none⟩ (.int .u8 (t.c * bt.c % p))).cell? ⟨w.heap.size, 3, none⟩ = some (.int .u16 bt.d) ∧ (((((((W.setCell ⟨w2.heap.size, us.length * 7, none⟩ (.int .i64 (t.k + more))).setCell ⟨w2.heap.size, us.length * 7 + 1, none⟩ (.int .u16 (t.a + bt.a))).setCell ⟨w2.heap.size, us.length * 7 + 2, none⟩ (.int .u16 (t.b + bt.b))).setCell ⟨w2.heap.size, us.length * 7 + 3, none⟩ (.int .u16 (t.d + bt.d))).setCell ⟨w2.heap.size, us.length * 7 + 4, none⟩ (.int .u16 (t.z + bt.z))).setCell ⟨w2.heap.size, us.length * 7 + 5, none⟩ (.int .u8 t.pl)).setCell ⟨w2.heap.size, us.length * 7 + 6, none⟩ (.int .u8 (t.c * bt.c % p))).cell? ⟨w.heap.size, 4, none⟩ = some (.int .u16 bt.z) ∧ (((((((W.setCell ⟨w2.heap.size, us.length * 7, none⟩ (.int .i64 (t.k + more))).setCell ⟨w2.heap.size, us.length * 7 + 1, none⟩ (.int .u16 (t.a + bt.a))).setCell ⟨w2.heap.size, us.length * 7 + 2, none⟩ (.int .u16 (t.b + bt.b))).setCell ⟨w2.heap.size, us.length * 7 + 3, none⟩ (.int .u16 (t.d + bt.d))).setCell ⟨w2.heap.size, us.length * 7 + 4, none⟩ (.int .u16 (t.z + bt.z))).setCell ⟨w2.heap.size, us.length * 7 + 5, none⟩ (.int .u8 t.pl)).setCell ⟨w2.heap.size, us.length * 7 + 6, none⟩ (.int .u8 (t.c * bt.c % p))).cell? ⟨w.heap.size, 6, none⟩ = some (.int .u8 bt.c) ∧ Hid (OrdB (((((((W.setCell ⟨w2.heap.size, us.length * 7, none⟩ (.int .i64 (t.k + more))).setCell ⟨w2.heap.size, us.length * 7 + 1, none⟩ (.int .u16 (t.a + bt.a))).setCell ⟨w2.heap.size, us.length * 7 + 2, none⟩ (.int .u16 (t.b + bt.b))).setCell ⟨w2.heap.size, us.length * 7 + 3, none⟩ (.int .u16 (t.d + bt.d))).setCell ⟨w2.heap.size, us.length * 7 + 4, none⟩ (.int .u16 (t.z + bt.z))).setCell ⟨w2.heap.size, us.length * 7 + 5, none⟩ (.int .u8 t.pl)).setCell ⟨w2.heap.size, us.length * 7 + 6, none⟩ (.int .u8 (t.c * bt.c % p))) ob p k0 k1 k2 sv))) := fun W h => by
        obtain ⟨y0, y1, y2, y3, y4, y5, y6, z1, z2, z3, z4, z6, hO⟩ := h
        obtain ⟨n1, n2, n3⟩ := HNE.out
        have F : ∀ b o, b ≠ w2.heap.size → (((((((W.setCell ⟨w2.heap.size, us.length * 7, none⟩ (.int .i64 (t.k + more))).setCell ⟨w2.heap.size, us.length * 7 + 1, none⟩ (.int .u16 (t.a + bt.a))).setCell ⟨w2.heap.size, us.length * 7 + 2, none⟩ (.int .u16 (t.b + bt.b))).setCell ⟨w2.heap.size, us.length * 7 + 3, none⟩ (.int .u16 (t.d + bt.d))).setCell ⟨w2.heap.size, us.length * 7 + 4, none⟩ (.int .u16 (t.z + bt.z))).setCell ⟨w2.heap.size, us.length * 7 + 5, none⟩ (.int .u8 t.pl)).setCell ⟨w2.heap.size, us.length * 7 + 6, none⟩ (.int .u8 (t.c * bt.c % p))).cell? ⟨b, o, none⟩ = W.cell? ⟨b, o, none⟩ := fun b o h => far7 (t := mulF p more bt t) (k := us.length) h
        refine ⟨?_, ?_, ?_, ?_, ?_, ?_, ?_, ?_, ?_, ?_, ?_, ?_, ?_⟩
        · rw [F _ _ n1]; exact y0
        · rw [F _ _ n1]; exact y1
        · rw [F _ _ n1]; exact y2
        · rw [F _ _ n1]; exact y3
        · rw [F _ _ n1]; exact y4
        · rw [F _ _ n1]; exact y5
        · rw [F _ _ n1]; exact y6
        · rw [F _ _ n2]; exact z1
        · rw [F _ _ n2]; exact z2
        · rw [F _ _ n2]; exact z3
        · rw [F _ _ n2]; exact z4
        · rw [F _ _ n2]; exact z6
        · exact ⟨by simpa using hO.out.lt, by rw [F _ _ n3]; exact hO.out.c0, by rw [F _ _ n3]; exact hO.out.c1, by rw [F _ _ n3]; exact hO.out.c2, by rw [F _ _ n3]; exact hO.out.c3, by rw [F _ _ n3]; exact hO.out.c4⟩
      have HB0 : Hid (Below wt.heap.size wt wt.drew) := (Below.refl _ _).drew
      have HTM := hid (fun (W : World) => exTimes_any t.a t.b t.d t.z bt.a bt.b bt.d bt.z W (by have h1 := HFO.out.a; have h2 := HBT0.out.a; omega) (by have h1 := HFO.out.b; have h2 := HBT0.out.b; omega) (by have h1 := HFO.out.d; have h2 := HBT0.out.d; omega) (by have h1 := HFO.out.z; have h2 := HBT0.out.z; omega))
      unfold exV at HTM
      have HTI := hid (fun (W : World) (hW : OrdB W ob p k0 k1 k2 sv) => flatTimes_any ob p k0 k1 k2 sv t.c bt.c W hW HP.out (by have h1 := HFO.out.c; have h2 := HP.out; omega) (by have h1 := HBT0.out.c; have h2 := HP.out; omega))
      obtain ⟨mq0, mq1⟩ := HMO.out
      obtain ⟨kq0, kq1⟩ := HFO.out.k
      have hwk : IntKind.i64.wrap (t.k + more) = t.k + more := by rw [IntKind.wrap_i64]; omega
      clear mq0 mq1 kq0 kq1
      go_region_held (fun W => W.cell? ⟨wr.heap.size, 0, none⟩ = some (.int .i64 t.k) ∧ W.cell? ⟨wr.heap.size, 1, none⟩ = some (.int .u16 t.a) ∧ W.cell? ⟨wr.heap.size, 2, none⟩ = some (.int .u16 t.b) ∧ W.cell? ⟨wr.heap.size, 3, none⟩ = some (.int .u16 t.d) ∧ W.cell? ⟨wr.heap.size, 4, none⟩ = some (.int .u16 t.z) ∧ W.cell? ⟨wr.heap.size, 5, none⟩ = some (.int .u8 t.pl) ∧ W.cell? ⟨wr.heap.size, 6, none⟩ = some (.int .u8 t.c) ∧ W.cell? ⟨w.heap.size, 1, none⟩ = some (.int .u16 bt.a) ∧ W.cell? ⟨w.heap.size, 2, none⟩ = some (.int .u16 bt.b) ∧ W.cell? ⟨w.heap.size, 3, none⟩ = some (.int .u16 bt.d) ∧ W.cell? ⟨w.heap.size, 4, none⟩ = some (.int .u16 bt.z) ∧ W.cell? ⟨w.heap.size, 6, none⟩ = some (.int .u8 bt.c) ∧ Hid (OrdB W ob p k0 k1 k2 sv))
        (first | with_reducible exact KEEP.out _ HB0.out | with_reducible exact KEEP.out _ HB8.out | with_reducible exact KEEPS.out w9 (KEEP.out _ HB8.out))
        (first
          | (go_at_call 103; refine (HTM.out _).mono ?_; rintro e w8 ⟨rfl, hb8⟩; have HB8 := hid (HB0.out.trans (hb8.mono HB0.out.size)); have HH8 := hid (HHT.out.next HB8.out); obtain ⟨⟨v0, f0⟩, g0⟩ := HH8.out.cell (us.length * 7) (by omega); obtain ⟨⟨v1, f1⟩, g1⟩ := HH8.out.cell (us.length * 7 + 1) (by omega); obtain ⟨⟨v2, f2⟩, g2⟩ := HH8.out.cell (us.length * 7 + 2) (by omega); obtain ⟨⟨v3, f3⟩, g3⟩ := HH8.out.cell (us.length * 7 + 3) (by omega); obtain ⟨⟨v4, f4⟩, g4⟩ := HH8.out.cell (us.length * 7 + 4) (by omega); obtain ⟨⟨v5, f5⟩, g5⟩ := HH8.out.cell (us.length * 7 + 5) (by omega); obtain ⟨⟨v6, f6⟩, g6⟩ := HH8.out.cell (us.length * 7 + 6) (by omega); clear hb8)
          | (go_at_call 63; refine (HTI.out _ (KEEP.out _ HB8.out).2.2.2.2.2.2.2.2.2.2.2.2.out).mono ?_; rintro e w9 ⟨rfl, rfl⟩))
      all_goals
        go_wp2
        go_roundw
        case rel => exact ⟨us.length + 1, by omega, by go_num, us ++ [mulF p more bt t], by simp, by rw [HTK.out, List.map_append, ← HUT.out]; rfl, HH8.out.put hk2 (mulF p more bt t)⟩
        case measure => simp [intOf]; omega
    · have e : k = fs.length := by omega
      subst e
      go_wp2
      go_ret
      refine ⟨_, rfl, ?_, HDR.out⟩
      have h := HH.out.done hus
      rw [HUT.out, List.take_of_length_le (Nat.le_refl _)] at h
      exact h
end Go.Proofs.YtilogbggilchaaaGreat
