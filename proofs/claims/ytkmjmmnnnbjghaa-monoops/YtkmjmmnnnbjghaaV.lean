/- MonoOps, walked. -/
import Derived.Test.YtkmjmmnnnbjghaaU
namespace Go.Proofs.Ytkmjmmnnnbjghaa
set_option linter.unusedSimpArgs false
set_option linter.unusedVariables false
open Go.RowKit

/-- What is known of a world in the middle of the law. -/
structure Ops (w w' : World) (x y u1 u2 u3 : Value) (xs ys : List Int) (p n o v : Int) : Prop where
  below : Below w.heap.size w w'
  box : BoxAt w' w.heap.size p n o v
  sx : Sl w' x xs
  sy : Sl w' y ys
  s1 : Sl w' u1 (tgR (· + ·) p n o v xs ys)
  s2 : Sl w' u2 (ovR p n o v xs ys)
  s3 : Sl w' u3 (tgR lst p n o v xs ys)
theorem Ops.next {w w' w2 : World} {x y u1 u2 u3 : Value} {xs ys : List Int} {p n o v : Int} (h : Ops w w' x y u1 u2 u3 xs ys p n o v) (hb : Below w'.heap.size w' w2) : Ops w w2 x y u1 u2 u3 xs ys p n o v :=
  ⟨h.below.trans (hb.mono h.below.size), h.box.below hb, h.sx.below hb, h.sy.below hb, h.s1.below hb, h.s2.below hb, h.s3.below hb⟩

theorem tgR_no {g : Int → Int → Int} {p n o v : Int} {xs ys : List Int} (h : tgE g p n o v xs ys ≠ 0) : tgR g p n o v xs ys = [] := by unfold tgR; rw [if_neg h]
theorem ovR_no {p n o v : Int} {xs ys : List Int} (h : ovE p n o v xs ys ≠ 0) : ovR p n o v xs ys = [] := by unfold ovR; rw [if_neg h]
theorem two_len {p n o v : Int} {xs ys : List Int} (h : errAll p n o v [xs, ys] = 0) : xs.length = ys.length ∧ xs.length ≤ 3 := by
  obtain ⟨hr, hx, hy⟩ := errAll_two h
  obtain ⟨_, hn1, hn2, _⟩ := ring_ok hr
  obtain ⟨hlx, _⟩ := errM_ok hx
  obtain ⟨hly, _⟩ := errM_ok hy
  omega
theorem tgR_len (g : Int → Int → Int) (p n o v : Int) (xs ys : List Int) : (tgR g p n o v xs ys).length ≤ 3 := by
  by_cases h : tgE g p n o v xs ys = 0
  · obtain ⟨h1, _, h3⟩ := tg_ok h
    obtain ⟨h4, h5⟩ := two_len h1
    rw [h3, zipI_len _ _ _ h4]; exact h5
  · rw [tgR_no h]; simp
theorem ovR_len (p n o v : Int) (xs ys : List Int) : (ovR p n o v xs ys).length ≤ 3 := by
  by_cases h : ovE p n o v xs ys = 0
  · have h1 : errAll p n o v [xs, ys] = 0 := by
      unfold ovE at h
      by_cases h1 : errAll p n o v [xs, ys] = 0
      · exact h1
      · rw [if_neg h1] at h; exact absurd h h1
    obtain ⟨h4, h5⟩ := two_len h1
    have h3 : ovR p n o v xs ys = zipI (· - ·) xs ys := by unfold ovR; rw [if_pos h]
    rw [h3, zipI_len _ _ _ h4]; exact h5
  · rw [ovR_no h]; simp

/-- What is known of a world in the last statement. -/
structure Fin8 (w w' : World) (x y u1 u2 u3 t1 t2 t3 : Value) (xs ys L1 L2 L3 : List Int) (p n o v : Int) : Prop where
  ops : Ops w w' x y u1 u2 u3 xs ys p n o v
  l1 : Sl w' t1 L1
  l2 : Sl w' t2 L2
  l3 : Sl w' t3 L3
theorem Fin8.next {w w' w2 : World} {x y u1 u2 u3 t1 t2 t3 : Value} {xs ys L1 L2 L3 : List Int} {p n o v : Int} (h : Fin8 w w' x y u1 u2 u3 t1 t2 t3 xs ys L1 L2 L3 p n o v) (hb : Below w'.heap.size w' w2) : Fin8 w w2 x y u1 u2 u3 t1 t2 t3 xs ys L1 L2 L3 p n o v :=
  ⟨h.ops.next hb, h.l1.below hb, h.l2.below hb, h.l3.below hb⟩
abbrev Held8 (w w' : World) (x y u1 u2 u3 t1 t2 t3 : Value) (xs ys L1 L2 L3 : List Int) (p n o v : Int) : Prop :=
  w'.cell? ⟨w.heap.size, 0, none⟩ = some (.int .i64 p) ∧ w'.cell? ⟨w.heap.size, 1, none⟩ = some (.int .i64 n) ∧ w'.cell? ⟨w.heap.size, 2, none⟩ = some (.int .i64 o) ∧ w'.cell? ⟨w.heap.size, 3, none⟩ = some (.int .i64 v) ∧ Hid (Fin8 w w' x y u1 u2 u3 t1 t2 t3 xs ys L1 L2 L3 p n o v)
theorem Fin8.held {w w' : World} {x y u1 u2 u3 t1 t2 t3 : Value} {xs ys L1 L2 L3 : List Int} {p n o v : Int} (h : Fin8 w w' x y u1 u2 u3 t1 t2 t3 xs ys L1 L2 L3 p n o v) : Held8 w w' x y u1 u2 u3 t1 t2 t3 xs ys L1 L2 L3 p n o v :=
  ⟨h.ops.box.2.1, h.ops.box.2.2.1, h.ops.box.2.2.2.1, h.ops.box.2.2.2.2, h⟩
theorem Held8.fin {w w' : World} {x y u1 u2 u3 t1 t2 t3 : Value} {xs ys L1 L2 L3 : List Int} {p n o v : Int} (h : Held8 w w' x y u1 u2 u3 t1 t2 t3 xs ys L1 L2 L3 p n o v) : Fin8 w w' x y u1 u2 u3 t1 t2 t3 xs ys L1 L2 L3 p n o v := h.2.2.2.2
theorem Held8.next {w w' w2 : World} {x y u1 u2 u3 t1 t2 t3 : Value} {xs ys L1 L2 L3 : List Int} {p n o v : Int} (h : Held8 w w' x y u1 u2 u3 t1 t2 t3 xs ys L1 L2 L3 p n o v) (hb : Below w'.heap.size w' w2) : Held8 w w2 x y u1 u2 u3 t1 t2 t3 xs ys L1 L2 L3 p n o v :=
  (h.fin.next hb).held

/-! The contracts of the reference's, of slices. -/
theorem slOpen {w : World} {x y : Value} {xs ys : List Int} (hs : Sl w x xs) (hs2 : Sl w y ys) (h0 : 0 < xs.length) (hxy : xs.length = ys.length) :
    ∃ b off cap b2 off2 cap2, x = .slice (some ⟨b, off, none⟩) xs.length cap ∧ y = .slice (some ⟨b2, off2, none⟩) ys.length cap2 ∧ b < w.heap.size ∧ b2 < w.heap.size ∧ IntsAt w b off xs ∧ IntsAt w b2 off2 ys := by
  obtain ⟨a, cap, rfl, h1⟩ := hs
  obtain ⟨a2, cap2, rfl, h2⟩ := hs2
  obtain ⟨b, off, rfl, hlt, hc⟩ := h1 h0
  obtain ⟨b2, off2, rfl, hlt2, hc2⟩ := h2 (by omega)
  exact ⟨b, off, cap, b2, off2, cap2, rfl, rfl, hlt, hlt2, hc, hc2⟩
theorem putTimes_sl (x y : Value) (xs ys : List Int) (w : World) (h0 : 0 < xs.length) (hm : xs.length ≤ 3) (hxy : xs.length = ys.length) (hb : (∀ x ∈ xs, 0 ≤ x ∧ x ≤ 200) ∧ (∀ x ∈ ys, 0 ≤ x ∧ x ≤ 200)) (hs : Sl w x xs) (hs2 : Sl w y ys) :
    Calls Try.prog 27 #[x, y, .int .i64 1] w fun e w' => ∃ u, e = .returned u ∧ Sl w' u (zipI (· + ·) xs ys) ∧ Below w.heap.size w w' := by
  obtain ⟨b, off, cap, b2, off2, cap2, rfl, rfl, hlt, hlt2, hc, hc2⟩ := slOpen hs hs2 h0 hxy
  exact putTimes_any xs ys b off cap b2 off2 cap2 w hm hxy hb.1 hb.2 hlt hlt2 hc hc2
theorem putOver_sl (x y : Value) (xs ys : List Int) (w : World) (h0 : 0 < xs.length) (hm : xs.length ≤ 3) (hxy : xs.length = ys.length) (hb : (∀ x ∈ xs, 0 ≤ x ∧ x ≤ 200) ∧ (∀ x ∈ ys, 0 ≤ x ∧ x ≤ 200)) (hs : Sl w x xs) (hs2 : Sl w y ys) :
    Calls Try.prog 27 #[x, y, .int .i64 2] w fun e w' => ∃ u, e = .returned u ∧ Sl w' u (zipI (· - ·) xs ys) ∧ Below w.heap.size w w' := by
  obtain ⟨b, off, cap, b2, off2, cap2, rfl, rfl, hlt, hlt2, hc, hc2⟩ := slOpen hs hs2 h0 hxy
  exact putOver_any xs ys b off cap b2 off2 cap2 w hm hxy hb.1 hb.2 hlt hlt2 hc hc2
theorem putLeast_sl (x y : Value) (xs ys : List Int) (w : World) (h0 : 0 < xs.length) (hm : xs.length ≤ 3) (hxy : xs.length = ys.length) (hb : (∀ x ∈ xs, 0 ≤ x ∧ x ≤ 200) ∧ (∀ x ∈ ys, 0 ≤ x ∧ x ≤ 200)) (hs : Sl w x xs) (hs2 : Sl w y ys) :
    Calls Try.prog 27 #[x, y, .int .i64 3] w fun e w' => ∃ u, e = .returned u ∧ Sl w' u (zipI lst xs ys) ∧ Below w.heap.size w w' := by
  obtain ⟨b, off, cap, b2, off2, cap2, rfl, rfl, hlt, hlt2, hc, hc2⟩ := slOpen hs hs2 h0 hxy
  exact putLeast_any xs ys b off cap b2 off2 cap2 w hm hxy hb.1 hb.2 hlt hlt2 hc hc2
theorem degreeOf_sl (x : Value) (xs : List Int) (w : World) (h0 : 0 < xs.length) (hm : xs.length ≤ 3) (hb : ∀ x ∈ xs, 0 ≤ x ∧ x ≤ 400) (hs : Sl w x xs) :
    Calls Try.prog 29 #[x] w fun e w' => e = .returned (.int .i64 (sumI xs)) ∧ w' = w := by
  obtain ⟨a, cap, rfl, h1⟩ := hs
  obtain ⟨b, off, rfl, hlt, hc⟩ := h1 h0
  exact degreeOf_any xs b off cap w hb hm hc
theorem goesInto_sl (x y : Value) (xs ys : List Int) (w : World) (h0 : 0 < xs.length) (hm : xs.length ≤ 3) (hxy : xs.length = ys.length) (hs : Sl w x xs) (hs2 : Sl w y ys) :
    Calls Try.prog 30 #[y, x] w fun e w' => e = .returned (.bool (!lackB xs ys)) ∧ ∃ n, w' = w.drewN n := by
  obtain ⟨b, off, cap, b2, off2, cap2, rfl, rfl, hlt, hlt2, hc, hc2⟩ := slOpen hs hs2 h0 hxy
  exact goesInto_any xs ys b off cap b2 off2 cap2 w hm hxy hc hc2

set_option maxRecDepth 100000 in
set_option maxHeartbeats 2000000 in
theorem monoOps_any (p n o v : Int) (x y : Value) (xs ys : List Int) (w : World) (hs : Sl w x xs) (hs2 : Sl w y ys) :
    Calls Try.prog 6 #[ringV p n o v, x, y] w fun e w' => e = .returned (.bool true) ∧ Below w.heap.size w w' := by
  have HS := hid hs
  have HS2 := hid hs2
  obtain ⟨a1, cap1, rfl, _⟩ := hs
  obtain ⟨a2, cap2, rfl, _⟩ := hs2
  go_enter Try.func6, Try.ntmps6
  go_wp2_with fail
  refine (monoTimes_any p n o v _ _ xs ys _ (HS.out.below below_one) (HS2.out.below below_one)).mono ?_
  rintro e w1 ⟨u1, rfl, hu1, hb1⟩
  have hbb1 := hid (show Below w.heap.size w w1 from below_one.trans (hb1.mono (by simp)))
  have hbx := (BoxAt.new w p n o v 39).below hb1
  have HBX := hid hbx
  obtain ⟨c, c0, c1, c2, c3⟩ := hbx
  have HU1 := hid hu1
  obtain ⟨ua1, ucap1, rfl, _⟩ := hu1
  clear hb1
  go_wp2_with fail
  refine (monoOver_any p n o v _ _ xs ys _ (HS.out.below hbb1.out) (HS2.out.below hbb1.out)).mono ?_
  rintro e w2 ⟨u2, rfl, hu2, hb2⟩
  have hbb2 := hid (hbb1.out.trans (hb2.mono hbb1.out.size))
  clear c c0 c1 c2 c3
  have hbx := HBX.out.below hb2
  have HBX := hid hbx
  obtain ⟨c, c0, c1, c2, c3⟩ := hbx
  have HU1 := hid (HU1.out.below hb2)
  have HU2 := hid hu2
  obtain ⟨ua2, ucap2, rfl, _⟩ := hu2
  clear hb2 hbb1
  go_wp2_with fail
  refine (monoLeast_any p n o v _ _ xs ys _ (HS.out.below hbb2.out) (HS2.out.below hbb2.out)).mono ?_
  rintro e w3 ⟨u3, rfl, hu3, hb3⟩
  have hbb3 := hid (hbb2.out.trans (hb3.mono hbb2.out.size))
  have HU3 := hid hu3
  have OPS := hid (Ops.mk hbb3.out (HBX.out.below hb3) (HS.out.below hbb3.out) (HS2.out.below hbb3.out) (HU1.out.below hb3) (HU2.out.below hb3) hu3)
  obtain ⟨ua3, ucap3, rfl, _⟩ := hu3
  clear c c0 c1 c2 c3 hb3 hbb2 hbb3 HU1 HU2 HU3 HBX
  obtain ⟨c, c0, c1, c2, c3⟩ := OPS.out.box
  go_wp2_with fail
  refine (order_any p n o v _ _ xs ys _ OPS.out.sx OPS.out.sy).mono ?_
  rintro e w4 ⟨rfl, hb4⟩
  have OPS := hid (OPS.out.next hb4)
  clear c c0 c1 c2 c3 hb4
  obtain ⟨c, c0, c1, c2, c3⟩ := OPS.out.box
  go_wp2_with fail
  refine (checkMonos_any p n o v [xs, ys] _ _ _ _ (by simp) (by simp) ?_).mono ?_
  · exact (OPS.out.sx.below below_one).sls2 (OPS.out.sy.below below_one) (by simp [go_sem]) (by simp [go_sem])
  rintro e w5 ⟨rfl, hb5⟩
  have OPS := hid (OPS.out.next (below_one.trans (hb5.mono (by simp))))
  clear c c0 c1 c2 c3 hb5
  obtain ⟨c, c0, c1, c2, c3⟩ := OPS.out.box
  go_upto_if 60 with fail
  go_cut [14, 15, 16, 17, 18, 19, 20, 21, 22] (fun s14 s15 s16 s17 s18 s19 s20 s21 s22 wc => s14 = .int .i64 (errAll p n o v [xs, ys]) ∧ s15 = .int .i64 (errAll p n o v [xs, ys]) ∧ s16 = .int .i64 (tgE (· + ·) p n o v xs ys) ∧ s17 = .int .i64 (ovE p n o v xs ys) ∧ s18 = .int .i64 (tgE lst p n o v xs ys) ∧ s22 = .int .i64 (ordA p n o v xs ys) ∧ Ops w wc (.slice a1 xs.length cap1) (.slice a2 ys.length cap2) (.slice ua1 (tgR (· + ·) p n o v xs ys).length ucap1) (.slice ua2 (ovR p n o v xs ys).length ucap2) (.slice ua3 (tgR lst p n o v xs ys).length ucap3) xs ys p n o v ∧
    ∃ L1 L2 L3 : List Int, Sl wc s19 L1 ∧ Sl wc s20 L2 ∧ Sl wc s21 L3 ∧ (tgE (· + ·) p n o v xs ys = 0 → tgR (· + ·) p n o v xs ys = L1) ∧ (ovE p n o v xs ys = 0 → ovR p n o v xs ys = L2) ∧ (tgE lst p n o v xs ys = 0 → tgR lst p n o v xs ys = L3))
  case first =>
    cases hz : (errAll p n o v [xs, ys] == 0)
    · have hz0 : errAll p n o v [xs, ys] ≠ 0 := by simpa using hz
      have f1 : ∀ g, tgE g p n o v xs ys = errAll p n o v [xs, ys] := fun g => by unfold tgE; rw [if_neg hz0]
      have f2 : ovE p n o v xs ys = errAll p n o v [xs, ys] := by unfold ovE; rw [if_neg hz0]
      have f3 : ordA p n o v xs ys = 0 := by unfold ordA; rw [if_neg hz0]
      have F := hid (And.intro hz0 (And.intro f1 (And.intro f2 f3)))
      clear f1 f2 f3 hz0
      go_wp2_with fail
      go_meet
      case rel =>
        refine ⟨rfl, rfl, by rw [F.out.2.1], by rw [F.out.2.2.1], by rw [F.out.2.1], by rw [F.out.2.2.2], OPS.out, [], [], [], Sl.empty _, Sl.empty _, Sl.empty _, ?_, ?_, ?_⟩
        · intro h; rw [F.out.2.1] at h; exact absurd h F.out.1
        · intro h; rw [F.out.2.2.1] at h; exact absurd h F.out.1
        · intro h; rw [F.out.2.1] at h; exact absurd h F.out.1
    · have hz0 : errAll p n o v [xs, ys] = 0 := by simpa using hz
      obtain ⟨hr, hx, hy⟩ := errAll_two hz0
      obtain ⟨_, hn1, hn2, ho, _⟩ := ring_ok hr
      obtain ⟨hlx, hbx, _⟩ := errM_ok hx
      obtain ⟨hly, hby, _⟩ := errM_ok hy
      have h0 : 0 < xs.length := by omega
      have hm : xs.length ≤ 3 := by omega
      have HXY := hid (show xs.length = ys.length by omega)
      have HB := hid (And.intro hbx hby)
      have HB4 := hid (And.intro (show ∀ x ∈ xs, 0 ≤ x ∧ x ≤ 400 from fun x h => by have := hbx x h; omega) (show ∀ x ∈ ys, 0 ≤ x ∧ x ≤ 400 from fun x h => by have := hby x h; omega))
      have HO := hid ho
      have HZ := hid hz0
      have L1 := hid (And.intro (zipI_len (· + ·) xs ys HXY.out) (zipI_mem (g := (· + ·)) (a := 0) (b := 400) (by intro x y h1 h2; show 0 ≤ x + y ∧ x + y ≤ 400; omega) hbx hby))
      have L3 := hid (And.intro (zipI_len lst xs ys HXY.out) (zipI_mem (g := lst) (a := 0) (b := 400) (by intro x y h1 h2; unfold lst; split <;> omega) hbx hby))
      have FO := hid (show ordA p n o v xs ys = ordS o xs ys by unfold ordA; rw [if_pos hz0])
      have FT : Hid (∀ g, (200 < sumI (zipI g xs ys) → tgE g p n o v xs ys = 2) ∧ (¬ 200 < sumI (zipI g xs ys) → tgE g p n o v xs ys = 0 ∧ tgR g p n o v xs ys = zipI g xs ys)) := by
        intro g
        refine ⟨fun h => by unfold tgE; rw [if_pos hz0, if_pos h], fun h => ?_⟩
        have e1 : tgE g p n o v xs ys = 0 := by unfold tgE; rw [if_pos hz0, if_neg h]
        exact ⟨e1, by unfold tgR; rw [if_pos e1]⟩
      have FV : Hid ((lackB xs ys = true → ovE p n o v xs ys = 5) ∧ (lackB xs ys = false → ovE p n o v xs ys = 0 ∧ ovR p n o v xs ys = zipI (· - ·) xs ys)) := by
        refine ⟨fun h => by unfold ovE; rw [if_pos hz0, if_pos h], fun h => ?_⟩
        have e1 : ovE p n o v xs ys = 0 := by unfold ovE; rw [if_pos hz0, if_neg (by simp [h])]
        exact ⟨e1, by unfold ovR; rw [if_pos e1]⟩
      clear hz0 hr hx hy hlx hly hbx hby ho
      rw [HZ.out]
      go_upto_region 10 with fail
      go_cut [19, 21, 22] (fun s19 s21 s22 wc => s22 = .int .i64 (ordS o xs ys) ∧ Sl wc s19 (zipI (· + ·) xs ys) ∧ Sl wc s21 (zipI lst xs ys) ∧ Ops w wc (.slice a1 xs.length cap1) (.slice a2 ys.length cap2) (.slice ua1 (tgR (· + ·) p n o v xs ys).length ucap1) (.slice ua2 (ovR p n o v xs ys).length ucap2) (.slice ua3 (tgR lst p n o v xs ys).length ucap3) xs ys p n o v)
      case first =>
        go_region_with (first
          | (go_at_call_of 27 (Value.int IntKind.i64 1); refine (putTimes_sl _ _ xs ys _ h0 hm HXY.out HB.out (OPS.out.sx.below (Below.refl _ _).drew) (OPS.out.sy.below (Below.refl _ _).drew)).mono ?_; rintro e w6 ⟨t1, rfl, ht1, hb6⟩; have O6 := hid (OPS.out.next (((Below.refl _ _).drew).trans (hb6.mono (by simp)))); have T6 := hid ht1; obtain ⟨ta1, tc1, rfl, _⟩ := ht1; obtain ⟨d, d0, d1, d2, d3⟩ := O6.out.box; clear hb6)
          | (go_at_call_of 27 (Value.int IntKind.i64 3); refine (putLeast_sl _ _ xs ys _ h0 hm HXY.out HB.out O6.out.sx O6.out.sy).mono ?_; rintro e w7 ⟨t3, rfl, ht3, hb7⟩; have O7 := hid (O6.out.next hb7); have T7 := hid (T6.out.below hb7); have U7 := hid ht3; obtain ⟨ta3, tc3, rfl, _⟩ := ht3; obtain ⟨f, f0, f1, f2, f3⟩ := O7.out.box; clear hb7)
          | (go_at_call 28; refine (orderOf_any p n o v _ _ xs ys _ HO.out h0 hm HXY.out HB4.out.1 HB4.out.2 O7.out.sx O7.out.sy).mono ?_; rintro e w8 ⟨rfl, hb8⟩; have O8 := hid (O7.out.next hb8); have T8 := hid (T7.out.below hb8); have U8 := hid (U7.out.below hb8); clear hb8))
        all_goals
          go_wp2_with fail
          go_meet
          case rel => exact ⟨rfl, T8.out, U8.out, O8.out⟩
      case rest =>
      obtain ⟨rfl, ht1, ht3, hops⟩ := hcut
      have OPS := hid hops
      have T1 := hid ht1
      have T3 := hid ht3
      obtain ⟨ta1, tc1, rfl, _⟩ := ht1
      obtain ⟨ta3, tc3, rfl, _⟩ := ht3
      clear c c0 c1 c2 c3 hops hz
      obtain ⟨wk, hwk⟩ : ∃ wk : World, wk = wc := ⟨_, rfl⟩
      subst hwk
      go_wp2_with fail
      refine (degreeOf_sl _ (zipI (· + ·) xs ys) _ (by rw [L1.out.1]; exact h0) (by rw [L1.out.1]; exact hm) L1.out.2 T1.out).mono ?_
      rintro e w' ⟨rfl, hw'⟩
      subst w'
      go_upto_if 73 with fail
      go_cut [16] (fun s16 wx => s16 = .int .i64 (tgE (· + ·) p n o v xs ys) ∧ wx = wk)
      case first =>
        by_cases k1 : 200 < sumI (zipI (· + ·) xs ys)
        · go_wp2_with fail
          go_meet
          case rel => exact ⟨by rw [(FT.out _).1 k1], rfl⟩
        · go_wp2_with fail
          go_meet
          case rel => exact ⟨by rw [((FT.out (· + ·)).2 (by omega)).1], rfl⟩
      case rest =>
      obtain ⟨rfl, hwx⟩ := hcut
      subst wc
      go_wp2_with fail
      refine (degreeOf_sl _ (zipI lst xs ys) _ (by rw [L3.out.1]; exact h0) (by rw [L3.out.1]; exact hm) L3.out.2 T3.out).mono ?_
      rintro e w' ⟨rfl, hw'⟩
      subst w'
      go_upto_if 76 with fail
      go_cut [18] (fun s18 wx => s18 = .int .i64 (tgE lst p n o v xs ys) ∧ wx = wk)
      case first =>
        by_cases k3 : 200 < sumI (zipI lst xs ys)
        · go_wp2_with fail
          go_meet
          case rel => exact ⟨by rw [(FT.out _).1 k3], rfl⟩
        · go_wp2_with fail
          go_meet
          case rel => exact ⟨by rw [((FT.out lst).2 (by omega)).1], rfl⟩
      case rest =>
      obtain ⟨rfl, hwx⟩ := hcut
      subst wc
      have G1 : Hid (tgE (· + ·) p n o v xs ys = 0 → tgR (· + ·) p n o v xs ys = zipI (· + ·) xs ys) := fun h => (tg_ok h).2.2
      have G3 : Hid (tgE lst p n o v xs ys = 0 → tgR lst p n o v xs ys = zipI lst xs ys) := fun h => (tg_ok h).2.2
      go_wp2_with fail
      refine (goesInto_sl _ _ xs ys _ h0 hm HXY.out OPS.out.sx OPS.out.sy).mono ?_
      rintro e wd ⟨rfl, hd⟩
      have hbd := below_ndraws (Below.refl wk.heap.size wk) hd
      have OPD := hid (OPS.out.next hbd)
      have T1D := hid (T1.out.below hbd)
      have T3D := hid (T3.out.below hbd)
      clear hd hbd T1 T3 OPS
      cases kl : lackB xs ys
      · go_wp2_with fail
        refine (putOver_sl _ _ xs ys _ h0 hm HXY.out HB.out OPD.out.sx OPD.out.sy).mono ?_
        rintro e wq ⟨t2, rfl, ht2, hbq⟩
        have T2Q := hid ht2
        obtain ⟨ta2, tc2, rfl, _⟩ := ht2
        have OPQ := hid (OPD.out.next hbq)
        have T1Q := hid (T1D.out.below hbq)
        have T3Q := hid (T3D.out.below hbq)
        clear hbq T1D T3D OPD
        go_wp2_with fail
        go_meet
        case rel => exact ⟨by rw [HZ.out], by rw [HZ.out], rfl, by rw [(FV.out.2 kl).1], rfl, by rw [FO.out], OPQ.out, _, _, _, T1Q.out, T2Q.out, T3Q.out, G1.out, fun _ => (FV.out.2 kl).2, G3.out⟩
      · go_wp2_with fail
        go_meet
        case rel => exact ⟨by rw [HZ.out], by rw [HZ.out], rfl, by rw [FV.out.1 kl], rfl, by rw [FO.out], OPD.out, _, [], _, T1D.out, Sl.empty _, T3D.out, G1.out, (fun h => by rw [FV.out.1 kl] at h; omega), G3.out⟩
  case rest =>
  obtain ⟨rfl, rfl, rfl, rfl, rfl, rfl, hops, M1, M2, M3, hl1, hl2, hl3, g1, g2, g3⟩ := hcut
  have FIN := hid (Fin8.mk hops hl1 hl2 hl3)
  have GG := hid (And.intro g1 (And.intro g2 g3))
  obtain ⟨ta1, tc1, rfl, _⟩ := hl1
  obtain ⟨ta2, tc2, rfl, _⟩ := hl2
  obtain ⟨ta3, tc3, rfl, _⟩ := hl3
  clear c c0 c1 c2 c3 hops g1 g2 g3 OPS
  obtain ⟨c, c0, c1, c2, c3⟩ := FIN.out.ops.box
  go_upto_region 18 with fail
  go_region_held (fun W => Held8 w W (.slice a1 xs.length cap1) (.slice a2 ys.length cap2) (.slice ua1 (tgR (· + ·) p n o v xs ys).length ucap1) (.slice ua2 (ovR p n o v xs ys).length ucap2) (.slice ua3 (tgR lst p n o v xs ys).length ucap3) (.slice ta1 M1.length tc1) (.slice ta2 M2.length tc2) (.slice ta3 M3.length tc3) xs ys M1 M2 M3 p n o v)
    (first | exact Held8.next (by assumption) hbn | exact Held8.next (by assumption) below_one | exact (FIN.out.next (Below.refl _ _).drew).held)
    (first
      | (go_at_call 31; refine (monoBegun_any _).mono ?_; rintro e w9 ⟨rfl, hbn⟩)
      | (go_at_call 32; refine (ring_any p n o v _).mono ?_; rintro e w9 ⟨rfl, hbn⟩)
      | (go_at_call 33; refine (checkRing_any p n o v _).mono ?_; rintro e w9 ⟨rfl, hbn⟩)
      | (go_at_call 34; refine (monoCheck_any p n o v _ xs _ ?_).mono ?_; exact (Held8.fin (by assumption)).ops.sx; rintro e w9 ⟨rfl, hbn⟩)
      | (go_at_call 26; refine (checkMonos_any p n o v [xs] _ _ _ _ (by simp) ?_ ?_).mono ?_; (focus (first | (simp; done) | (have := hbn.size; simp at this; omega))); exact Sl.sls1 (v := Value.slice a1 xs.length cap1) (Held8.fin (by assumption)).ops.sx (by first | (simp [go_sem]; done) | (rw [hbn.cell (by simp)]; simp [go_sem])); rintro e w9 ⟨rfl, hbn⟩)
      | (go_at_call_of 35 (Value.slice ua1 (tgR (· + ·) p n o v xs ys).length ucap1); refine (monoIs_any _ _ (tgR (· + ·) p n o v xs ys) _ M1 _ (tgR_len _ _ _ _ _ _ _) ?_ ?_ GG.out.1 tgR_no).mono ?_; exact (Held8.fin (by assumption)).ops.s1; exact (Held8.fin (by assumption)).l1; rintro e w9 ⟨rfl, hbn⟩)
      | (go_at_call_of 35 (Value.slice ua2 (ovR p n o v xs ys).length ucap2); refine (monoIs_any _ _ (ovR p n o v xs ys) _ M2 _ (ovR_len _ _ _ _ _ _) ?_ ?_ GG.out.2.1 ovR_no).mono ?_; exact (Held8.fin (by assumption)).ops.s2; exact (Held8.fin (by assumption)).l2; rintro e w9 ⟨rfl, hbn⟩)
      | (go_at_call_of 35 (Value.slice ua3 (tgR lst p n o v xs ys).length ucap3); refine (monoIs_any _ _ (tgR lst p n o v xs ys) _ M3 _ (tgR_len _ _ _ _ _ _ _) ?_ ?_ GG.out.2.2 tgR_no).mono ?_; exact (Held8.fin (by assumption)).ops.s3; exact (Held8.fin (by assumption)).l3; rintro e w9 ⟨rfl, hbn⟩))
  all_goals
    have HF := hid (Held8.fin (by assumption) : Fin8 w _ (.slice a1 xs.length cap1) (.slice a2 ys.length cap2) (.slice ua1 (tgR (· + ·) p n o v xs ys).length ucap1) (.slice ua2 (ovR p n o v xs ys).length ucap2) (.slice ua3 (tgR lst p n o v xs ys).length ucap3) (.slice ta1 M1.length tc1) (.slice ta2 M2.length tc2) (.slice ta3 M3.length tc3) xs ys M1 M2 M3 p n o v)
    go_wp2
    go_ret
    exact ⟨rfl, HF.out.ops.below⟩

end Go.Proofs.Ytkmjmmnnnbjghaa
