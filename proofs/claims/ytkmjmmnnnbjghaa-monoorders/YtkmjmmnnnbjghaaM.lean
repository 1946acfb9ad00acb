/- MonoOrders, walked. -/
import Derived.Test.YtkmjmmnnnbjghaaL
import Derived.Deep.DeepCutAuto
namespace Go.Proofs.Ytkmjmmnnnbjghaa
set_option linter.unusedSimpArgs false
set_option linter.unusedVariables false
open Go.RowKit

def ordA (p n o v : Int) (xs ys : List Int) : Int := if errAll p n o v [xs, ys] = 0 then ordS o xs ys else 0
theorem order_any (p n o v : Int) (x y : Value) (xs ys : List Int) (w : World) (hs : Sl w x xs) (hs2 : Sl w y ys) :
    Calls Try.prog 25 #[ringV p n o v, x, y] w fun e w' => e = .returned (.tuple #[.int .i64 (ordA p n o v xs ys), .int .i64 (errAll p n o v [xs, ys])]) ∧ Below w.heap.size w w' := by
  by_cases h : errAll p n o v [xs, ys] = 0
  · have e : ordA p n o v xs ys = ordS o xs ys := by unfold ordA; rw [if_pos h]
    rw [e, h]
    exact order_ok p n o v x y xs ys w hs hs2 h
  · have e : ordA p n o v xs ys = 0 := by unfold ordA; rw [if_neg h]
    rw [e]
    exact order_bad p n o v x y xs ys w hs hs2 (by simpa using h)

/-- A ring that is boxed at this block. -/
def BoxAt (w : World) (b : Nat) (p n o v : Int) : Prop :=
  b < w.heap.size ∧ w.cell? ⟨b, 0, none⟩ = some (.int .i64 p) ∧ w.cell? ⟨b, 1, none⟩ = some (.int .i64 n) ∧ w.cell? ⟨b, 2, none⟩ = some (.int .i64 o) ∧ w.cell? ⟨b, 3, none⟩ = some (.int .i64 v)
theorem BoxAt.below {w w' : World} {b : Nat} {p n o v : Int} (h : BoxAt w b p n o v) (hb : Below w.heap.size w w') : BoxAt w' b p n o v := by
  obtain ⟨h0, h1, h2, h3, h4⟩ := h
  exact ⟨Nat.lt_of_lt_of_le h0 hb.size, by rw [hb.cell (p := ⟨b, 0, none⟩) h0]; exact h1, by rw [hb.cell (p := ⟨b, 1, none⟩) h0]; exact h2, by rw [hb.cell (p := ⟨b, 2, none⟩) h0]; exact h3, by rw [hb.cell (p := ⟨b, 3, none⟩) h0]; exact h4⟩
theorem BoxAt.new (w : World) (p n o v : Int) (T : TypeId) : BoxAt (w.alloc (.cells #[.int .i64 p, .int .i64 n, .int .i64 o, .int .i64 v] T)) w.heap.size p n o v :=
  ⟨by simp, by simp, by simp, by simp, by simp⟩

/-- What is known of a world in the middle of the law. -/
structure Mid (w w' : World) (x y z : Value) (xs ys zs : List Int) (p n o v : Int) : Prop where
  below : Below w.heap.size w w'
  box : BoxAt w' w.heap.size p n o v
  sx : Sl w' x xs
  sy : Sl w' y ys
  sz : Sl w' z zs
theorem Mid.next {w w' w2 : World} {x y z : Value} {xs ys zs : List Int} {p n o v : Int} (h : Mid w w' x y z xs ys zs p n o v) (hb : Below w'.heap.size w' w2) : Mid w w2 x y z xs ys zs p n o v :=
  ⟨h.below.trans (hb.mono h.below.size), h.box.below hb, h.sx.below hb, h.sy.below hb, h.sz.below hb⟩

set_option maxHeartbeats 1000000 in
theorem monoOrders_bad (p n o v : Int) (x y z : Value) (xs ys zs : List Int) (w : World) (hs : Sl w x xs) (hs2 : Sl w y ys) (hs3 : Sl w z zs)
    (hbad : ¬ (errAll p n o v [xs, ys] = 0 ∧ errAll p n o v [ys, xs] = 0 ∧ errAll p n o v [ys, zs] = 0 ∧ errAll p n o v [xs, zs] = 0)) :
    Calls Try.prog 7 #[ringV p n o v, x, y, z] w fun e w' => e = .returned (.bool true) ∧ Below w.heap.size w w' := by
  have HS := hid hs
  have HS2 := hid hs2
  have HS3 := hid hs3
  obtain ⟨a1, cap1, rfl, _⟩ := hs
  obtain ⟨a2, cap2, rfl, _⟩ := hs2
  obtain ⟨a3, cap3, rfl, _⟩ := hs3
  have HB : Hid ((errAll p n o v [xs, ys] != 0) = true ∨ ((errAll p n o v [xs, ys] != 0) = false ∧ (errAll p n o v [ys, xs] != 0) = true) ∨ ((errAll p n o v [xs, ys] != 0) = false ∧ (errAll p n o v [ys, xs] != 0) = false ∧ (errAll p n o v [ys, zs] != 0) = true) ∨ ((errAll p n o v [xs, ys] != 0) = false ∧ (errAll p n o v [ys, xs] != 0) = false ∧ (errAll p n o v [ys, zs] != 0) = false ∧ (errAll p n o v [xs, zs] != 0) = true)) := by
    unfold Hid
    by_cases h1 : errAll p n o v [xs, ys] = 0
    · by_cases h2 : errAll p n o v [ys, xs] = 0
      · by_cases h3 : errAll p n o v [ys, zs] = 0
        · by_cases h4 : errAll p n o v [xs, zs] = 0
          · exact absurd ⟨h1, h2, h3, h4⟩ hbad
          · simp [h1, h2, h3, h4]
        · simp [h1, h2, h3]
      · simp [h1, h2]
    · simp [h1]
  clear hbad
  rcases HB.out with h1 | ⟨h1, h2⟩ | ⟨h1, h2, h3⟩ | ⟨h1, h2, h3, h4⟩
  all_goals
    clear HB
    go_enter Try.func7, Try.ntmps7
    go_wp2_with fail
    refine (monoBegun_any _).mono ?_
    rintro e w1 ⟨rfl, hb1⟩
    have mid : Mid w w1 _ _ _ xs ys zs p n o v := Mid.mk (below_one.trans (hb1.mono (by simp))) ((BoxAt.new w p n o v _).below hb1) (HS.out.below (below_one.trans (hb1.mono (by simp)))) (HS2.out.below (below_one.trans (hb1.mono (by simp)))) (HS3.out.below (below_one.trans (hb1.mono (by simp))))
    have MID := hid mid
    obtain ⟨c, c0, c1, c2, c3⟩ := mid.box
    clear hb1 mid
    go_wp2_with fail
    refine (order_any p n o v _ _ xs ys _ MID.out.sx MID.out.sy).mono ?_
    rintro e w2 ⟨rfl, hb⟩
    have MID2 := hid (MID.out.next hb)
    clear MID c c0 c1 c2 c3 hb
    obtain ⟨c, c0, c1, c2, c3⟩ := MID2.out.box
    go_wp2_with fail
    refine (order_any p n o v _ _ ys xs _ MID2.out.sy MID2.out.sx).mono ?_
    rintro e w3 ⟨rfl, hb⟩
    have MID3 := hid (MID2.out.next hb)
    clear MID2 c c0 c1 c2 c3 hb
    obtain ⟨c, c0, c1, c2, c3⟩ := MID3.out.box
    go_wp2_with fail
    refine (order_any p n o v _ _ ys zs _ MID3.out.sy MID3.out.sz).mono ?_
    rintro e w4 ⟨rfl, hb⟩
    have MID4 := hid (MID3.out.next hb)
    clear MID3 c c0 c1 c2 c3 hb
    obtain ⟨c, c0, c1, c2, c3⟩ := MID4.out.box
    go_wp2_with fail
    refine (order_any p n o v _ _ xs zs _ MID4.out.sx MID4.out.sz).mono ?_
    rintro e w5 ⟨rfl, hb⟩
    have MID5 := hid (MID4.out.next hb)
    clear MID4 c c0 c1 c2 c3 hb
    go_wp2
    go_ret
    exact ⟨rfl, MID5.out.below⟩

end Go.Proofs.Ytkmjmmnnnbjghaa
