/- checkAll. -/
import Derived.Test.YtilogbggilchaaaDoorD
namespace Go.Proofs.YtilogbggilchaaaDoor
set_option linter.unusedSimpArgs false
set_option linter.unusedVariables false
open Go.RowKit
theorem bcell {W w1 : World} (hb : Below W.heap.size W w1) : (∀ b o, b < W.heap.size → w1.cell? ⟨b, o, none⟩ = W.cell? ⟨b, o, none⟩) ∧ (∀ b o, b < W.heap.size → w1.frozen? ⟨b, o, none⟩ = W.frozen? ⟨b, o, none⟩) :=
  ⟨fun b o h => hb.cell (p := ⟨b, o, none⟩) h, fun b o h => hb.frozen (p := ⟨b, o, none⟩) h⟩

def firstErr (n : Int) : List (List Int) → Int
  | [] => 0
  | xs :: r => if errM n xs = 0 then firstErr n r else errM n xs

def SlsAt (w : World) (b off : Nat) (xss : List (List Int)) : Prop :=
  ∀ i, i < xss.length → ∃ v, w.cell? ⟨b, off + i, none⟩ = some v ∧ Sl w v (xss.getD i [])

theorem SlsAt.below {w w' : World} {b off : Nat} {xss : List (List Int)} (h : SlsAt w b off xss) (hlt : b < w.heap.size) (hb : Below w.heap.size w w') : SlsAt w' b off xss := by
  intro i hi
  obtain ⟨v, hc, hs⟩ := h i hi
  exact ⟨v, by rw [hb.cell (p := ⟨b, off + i, none⟩) hlt]; exact hc, hs.below hb⟩

theorem firstErr_drop (n : Int) (xss : List (List Int)) (k : Nat) (h : k < xss.length) :
    firstErr n (xss.drop k) = if errM n (xss.getD k []) = 0 then firstErr n (xss.drop (k + 1)) else errM n (xss.getD k []) := by
  rw [List.drop_eq_getElem_cons h]
  simp [firstErr, List.getD_eq_getElem?_getD, h]

def errAll (p n o v : Int) (xss : List (List Int)) : Int := if errR p n o v = 0 then firstErr n xss else errR p n o v

theorem ring_ok {p n o v : Int} (h : errR p n o v = 0) : errP p = 0 ∧ 1 ≤ n ∧ n ≤ 3 ∧ (o = 1 ∨ o = 2) ∧ (v = 1 ∨ v = 2) := by
  unfold errR at h
  by_cases h1 : errP p = 0
  · rw [if_neg (by simp [h1])] at h
    by_cases h2 : n < 1 ∨ 3 < n
    · rw [if_pos h2] at h; omega
    · rw [if_neg h2] at h
      by_cases h3 : (o ≠ 1 ∧ o ≠ 2) ∨ (v ≠ 1 ∧ v ≠ 2)
      · rw [if_pos h3] at h; omega
      · exact ⟨h1, by omega, by omega, by omega, by omega⟩
  · rw [if_pos h1] at h; exact absurd h h1

set_option maxHeartbeats 400000 in
theorem checkAll_any (p n o v : Int) (xss : List (List Int)) (b off cap : Nat) (w : World) (hl : xss.length ≤ 2) (hlt : b < w.heap.size) (hs : SlsAt w b off xss) :
    Calls Tryd.prog 78 #[ringV p n o v, .slice (some ⟨b, off, none⟩) xss.length cap] w fun e w' => e = .returned (.int .i64 (errAll p n o v xss)) ∧ Below w.heap.size w w' := by
  have HS := hid hs
  clear hs
  cases hp : (errR p n o v != 0)
  · have hp0 : errR p n o v = 0 := by simpa using hp
    obtain ⟨_, hn1, hn2, _⟩ := ring_ok hp0
    have he : errAll p n o v xss = firstErr n xss := by unfold errAll; rw [if_pos hp0]
    rw [he]; clear he hp0
    go_enter Tryd.func78, Tryd.ntmps78
    go_wp2_with (go_at_call 62; refine (ring_any _ _ _ _ _).mono ?_; rintro e w1 ⟨rfl, hb1⟩)
    have hb0 : Below w.heap.size w w1 := ((Below.refl _ _).alloc (Nat.le_refl _) _).trans (hb1.mono (by simp))
    obtain ⟨hcl, _⟩ := bcell hb1
    have hbox : w1.cell? ⟨w.heap.size, 1, none⟩ = some (.int .i64 n) := by rw [hcl _ _ (by simp)]; simp [go_sem]
    have HS1 := hid (HS.out.below hlt hb0)
    clear hcl HS
    go_loop [16] (fun i => ∃ k : Nat, k ≤ xss.length ∧ i = .int .i64 k ∧ firstErr n xss = firstErr n (xss.drop k)) (fun i => xss.length - (intOf i).toNat)
    case atStart => exact ⟨0, Nat.zero_le _, rfl, by simp⟩
    case round =>
      obtain ⟨k, hk, rfl, hf⟩ := hrel
      have HF := hid hf
      clear hf
      by_cases hk2 : k < xss.length
      · obtain ⟨vv, hcell, hsl⟩ := HS1.out k hk2
        have HSL := hid hsl
        have HD := hid (firstErr_drop n xss k hk2)
        clear hsl
        generalize xss.getD k [] = xs at HSL HD
        obtain ⟨a, cc, hvv, _⟩ := HSL.out
        subst hvv
        cases hz : (errM n xs != 0)
        · go_wp2_with (go_at_call 92; refine (checkExp_any _ _ xs _ ⟨hn1, hn2⟩ HSL.out).mono ?_; rintro e w' ⟨rfl, rfl⟩)
          go_round
          case rel => exact ⟨k + 1, by omega, by go_num, by rw [HF.out, HD.out, if_pos (by simpa using hz)]⟩
          case measure => simp [intOf]; omega
        · go_wp2_with (go_at_call 92; refine (checkExp_any _ _ xs _ ⟨hn1, hn2⟩ HSL.out).mono ?_; rintro e w' ⟨rfl, rfl⟩)
          go_ret
          exact ⟨ret_int (by rw [HF.out, HD.out, if_neg (by simpa using hz)]), hb0⟩
      · go_wp2
        go_ret
        exact ⟨ret_int (by rw [HF.out, List.drop_eq_nil_of_le (by omega)]; rfl), hb0⟩
  · have he : errAll p n o v xss = errR p n o v := by unfold errAll; rw [if_neg (by simpa using hp)]
    rw [he]; clear he
    go_enter Tryd.func78, Tryd.ntmps78
    go_wp2_with (go_at_call 62; refine (ring_any _ _ _ _ _).mono ?_; rintro e w1 ⟨rfl, hb1⟩)
    go_ret
    exact ⟨rfl, ((Below.refl _ _).alloc (Nat.le_refl _) _).trans (hb1.mono (by simp))⟩
end Go.Proofs.YtilogbggilchaaaDoor
