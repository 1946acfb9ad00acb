/- checkAll. -/
import Derived.Test.YtilogbggilchaaaDoorC
namespace Go.Proofs.YtilogbggilchaaaDoor
set_option linter.unusedSimpArgs false
set_option linter.unusedVariables false
open Go.RowKit
theorem bcell {W w1 : World} (hb : Below W.heap.size W w1) : (∀ b o, b < W.heap.size → w1.cell? ⟨b, o, none⟩ = W.cell? ⟨b, o, none⟩) ∧ (∀ b o, b < W.heap.size → w1.frozen? ⟨b, o, none⟩ = W.frozen? ⟨b, o, none⟩) :=
  ⟨fun b o h => hb.cell (p := ⟨b, o, none⟩) h, fun b o h => hb.frozen (p := ⟨b, o, none⟩) h⟩

def firstErr (n : Int) : List (List Int) → Int
  | [] => 0
  | xs :: r => if errM n xs = 0 then firstErr n r else errM n xs

def SlsAt (w : World) (b off : Nat) (xss : List (List Int)) : Prop :=
  ∀ i, i < xss.length → ∃ v, w.cell? ⟨b, off + i, none⟩ = some v ∧ Sl w v (xss.getD i [])

theorem SlsAt.below {w w' : World} {b off : Nat} {xss : List (List Int)} (h : SlsAt w b off xss) (hlt : b < w.heap.size) (hb : Below w.heap.size w w') : SlsAt w' b off xss := by
  intro i hi
  obtain ⟨v, hc, hs⟩ := h i hi
  exact ⟨v, by rw [hb.cell (p := ⟨b, off + i, none⟩) hlt]; exact hc, hs.below hb⟩

theorem firstErr_drop (n : Int) (xss : List (List Int)) (k : Nat) (h : k < xss.length) :
    firstErr n (xss.drop k) = if errM n (xss.getD k []) = 0 then firstErr n (xss.drop (k + 1)) else errM n (xss.getD k []) := by
  rw [List.drop_eq_getElem_cons h]
  simp [firstErr, List.getD_eq_getElem?_getD, h]

def errAll (p n o v : Int) (xss : List (List Int)) : Int := if errR p n o v = 0 then firstErr n xss else errR p n o v

theorem ring_ok {p n o v : Int} (h : errR p n o v = 0) : errP p = 0 ∧ 1 ≤ n ∧ n ≤ 3 ∧ (o = 1 ∨ o = 2) ∧ (v = 1 ∨ v = 2) := by
  unfold errR at h
  by_cases h1 : errP p = 0
  · rw [if_neg (by simp [h1])] at h
    by_cases h2 : n < 1 ∨ 3 < n
    · rw [if_pos h2] at h; omega
    · rw [if_neg h2] at h
      by_cases h3 : (o ≠ 1 ∧ o ≠ 2) ∨ (v ≠ 1 ∧ v ≠ 2)
      · rw [if_pos h3] at h; omega
      · exact ⟨h1, by omega, by omega, by omega, by omega⟩
  · rw [if_pos h1] at h; exact absurd h h1

set_option maxHeartbeats 400000 in
theorem checkAll_any (p n o v : Int) (xss : List (List Int)) (b off cap : Nat) (w : World) (hl : xss.length ≤ 2) (hlt : b < w.heap.size) (hs : SlsAt w b off xss) :
    Calls Tryd.prog 78 #[ringV p n o v, .slice (some ⟨b, off, none⟩) xss.length cap] w fun e w' => e = .returned (.int .i64 (errAll p n o v xss)) ∧ Below w.heap.size w w' := by
  have HS := hid hs
  clear hs
  cases hp : (errR p n o v != 0)
  · have hp0 : errR p n o v = 0 := by simpa using hp
    obtain ⟨_, hn1, hn2, _⟩ := ring_ok hp0
    have he : errAll p n o v xss = firstErr n xss := by unfold errAll; rw [if_pos hp0]
    rw [he]; clear he hp0
    go_enter Tryd.func78, Tryd.ntmps78
    go_wp2_with (go_at_call 62; refine (ring_any _ _ _ _ _).mono ?_; rintro e w1 ⟨rfl, hb1⟩)
    have hb0 : Below w.heap.size w w1 := ((Below.refl _ _).alloc (Nat.le_refl _) _).trans (hb1.mono (by simp))
    obtain ⟨hcl, _⟩ := bcell hb1
    have hbox : w1.cell? ⟨w.heap.size, 1, none⟩ = some (.int .i64 n) := by rw [hcl _ _ (by simp)]; simp [go_sem]
    have HS1 := hid (HS.out.below hlt hb0)
    clear hcl HS
    go_loop [16] (fun i => ∃ k : Nat, k ≤ xss.length ∧ i = .int .i64 k ∧ firstErr n xss = firstErr n (xss.drop k)) (fun i => xss.length - (intOf i).toNat)
    case atStart => exact ⟨0, Nat.zero_le _, rfl, by simp⟩
    case round =>
      obtain ⟨k, hk, rfl, hf⟩ := hrel
      have HF := hid hf
      clear hf
      by_cases hk2 : k < xss.length
      · obtain ⟨vv, hcell, hsl⟩ := HS1.out k hk2
        have HSL := hid hsl
        have HD := hid (firstErr_drop n xss k hk2)
        clear hsl
        generalize xss.getD k [] = xs at HSL HD
        obtain ⟨a, cc, hvv, _⟩ := HSL.out
        subst hvv
        cases hz : (errM n xs != 0)
        · go_wp2_with (go_at_call 92; refine (checkExp_any _ _ xs _ ⟨hn1, hn2⟩ HSL.out).mono ?_; rintro e w' ⟨rfl, rfl⟩)
          go_round
          case rel => exact ⟨k + 1, by omega, by go_num, by rw [HF.out, HD.out, if_pos (by simpa using hz)]⟩
          case measure => simp [intOf]; omega
        · go_wp2_with (go_at_call 92; refine (checkExp_any _ _ xs _ ⟨hn1, hn2⟩ HSL.out).mono ?_; rintro e w' ⟨rfl, rfl⟩)
          go_ret
          exact ⟨ret_int (by rw [HF.out, HD.out, if_neg (by simpa using hz)]), hb0⟩
      · go_wp2
        go_ret
        exact ⟨ret_int (by rw [HF.out, List.drop_eq_nil_of_le (by omega)]; rfl), hb0⟩
  · have he : errAll p n o v xss = errR p n o v := by unfold errAll; rw [if_neg (by simpa using hp)]
    rw [he]; clear he
    go_enter Tryd.func78, Tryd.ntmps78
    go_wp2_with (go_at_call 62; refine (ring_any _ _ _ _ _).mono ?_; rintro e w1 ⟨rfl, hb1⟩)
    go_ret
    exact ⟨rfl, ((Below.refl _ _).alloc (Nat.le_refl _) _).trans (hb1.mono (by simp))⟩
def lexC : List Int → List Int → Int
  | x :: xs, y :: ys => if cmpI x y = 0 then lexC xs ys else cmpI x y
  | _, _ => 0
def revC (xs ys : List Int) : Int := lexC ys.reverse xs.reverse

theorem lexC_drop (xs ys : List Int) (k : Nat) (h : k < xs.length) (h2 : k < ys.length) :
    lexC (xs.drop k) (ys.drop k) = if cmpI (xs.getD k 0) (ys.getD k 0) = 0 then lexC (xs.drop (k + 1)) (ys.drop (k + 1)) else cmpI (xs.getD k 0) (ys.getD k 0) := by
  rw [List.drop_eq_getElem_cons h, List.drop_eq_getElem_cons h2]
  simp [lexC, List.getD_eq_getElem?_getD, h, h2]
theorem take_rev (xs : List Int) (k : Nat) (h : k < xs.length) : (xs.take (k + 1)).reverse = xs.getD k 0 :: (xs.take k).reverse := by
  rw [List.take_succ_eq_append_getElem h, List.reverse_append]
  simp [List.getD_eq_getElem?_getD, h]
theorem lexC_take (xs ys : List Int) (k : Nat) (h : k < xs.length) (h2 : k < ys.length) :
    lexC (ys.take (k + 1)).reverse (xs.take (k + 1)).reverse = if cmpI (ys.getD k 0) (xs.getD k 0) = 0 then lexC (ys.take k).reverse (xs.take k).reverse else cmpI (ys.getD k 0) (xs.getD k 0) := by
  rw [take_rev xs k h, take_rev ys k h2]; simp [lexC]

set_option maxHeartbeats 400000 in
theorem lexCompare_any (xs ys : List Int) (b off cap b2 off2 cap2 : Nat) (w : World) (hm : xs.length ≤ 3) (hxy : xs.length = ys.length) (hc : IntsAt w b off xs) (hc2 : IntsAt w b2 off2 ys) :
    Calls Tryd.prog 91 #[.slice (some ⟨b, off, none⟩) xs.length cap, .slice (some ⟨b2, off2, none⟩) ys.length cap2] w fun e w' =>
      e = .returned (.int .i64 (lexC xs ys)) ∧ w' = w := by
  have HC := hid hc
  have HC2 := hid hc2
  clear hc hc2
  rw [← hxy]
  have HXY := hid hxy
  clear hxy
  go_enter Tryd.func91, Tryd.ntmps91
  go_wp2
  go_loop [11] (fun i => ∃ k : Nat, k ≤ xs.length ∧ i = .int .i64 k ∧ lexC xs ys = lexC (xs.drop k) (ys.drop k)) (fun i => xs.length - (intOf i).toNat)
  case atStart => exact ⟨0, Nat.zero_le _, rfl, by simp⟩
  case round =>
    obtain ⟨k, hk, rfl, hn⟩ := hrel
    have HN := hid hn
    clear hn
    by_cases hlt : k < xs.length
    · have hcell := HC.out k hlt
      have hcell2 := HC2.out k (by rw [← HXY.out]; exact hlt)
      have HD := hid (lexC_drop xs ys k hlt (by rw [← HXY.out]; exact hlt))
      generalize xs.getD k 0 = x at hcell HD
      generalize ys.getD k 0 = y at hcell2 HD
      cases hy : (cmpI x y != 0)
      · go_wp2_with (go_at_call 89; refine (compare_any _ _ _).mono ?_; rintro e w' ⟨rfl, rfl⟩)
        go_round
        case rel => exact ⟨k + 1, by omega, by go_num, by rw [HN.out, HD.out, if_pos (by simpa using hy)]⟩
        case measure => simp [intOf]; omega
      · go_wp2_with (go_at_call 89; refine (compare_any _ _ _).mono ?_; rintro e w' ⟨rfl, rfl⟩)
        go_ret
        exact ⟨ret_int (by rw [HN.out, HD.out, if_neg (by simpa using hy)]), rfl⟩
    · go_wp2
      go_ret
      exact ⟨ret_int (by rw [HN.out, List.drop_eq_nil_of_le (by omega)]; rfl), rfl⟩

set_option maxHeartbeats 400000 in
theorem revCompare_any (xs ys : List Int) (b off cap b2 off2 cap2 : Nat) (w : World) (hm : xs.length ≤ 3) (hxy : xs.length = ys.length) (hc : IntsAt w b off xs) (hc2 : IntsAt w b2 off2 ys) :
    Calls Tryd.prog 90 #[.slice (some ⟨b, off, none⟩) xs.length cap, .slice (some ⟨b2, off2, none⟩) ys.length cap2] w fun e w' =>
      e = .returned (.int .i64 (revC xs ys)) ∧ ∃ n, w' = w.drewN n := by
  have HC := hid hc
  have HC2 := hid hc2
  clear hc hc2
  rw [← hxy]
  have HXY := hid hxy
  clear hxy
  go_enter Tryd.func90, Tryd.ntmps90
  go_wp2
  go_loopw [5] (fun i wr => ∃ k n : Nat, k ≤ xs.length ∧ i = .int .i64 ((k : Int) - 1) ∧ revC xs ys = lexC (ys.take k).reverse (xs.take k).reverse ∧ wr = w.drewN n) (fun i _ => (intOf i + 1).toNat)
  case atStart => exact ⟨xs.length, 0, Nat.le_refl _, rfl, by rw [List.take_of_length_le (by have := HXY.out; omega), List.take_of_length_le (by omega)]; rfl, rfl⟩
  case round =>
    obtain ⟨k, n0, hk, rfl, hn, hw0⟩ := hrel
    have HN := hid hn
    have HW := hid hw0
    clear hn hw0
    cases k with
    | succ k =>
      have hlt : k < xs.length := by omega
      have hcell := HC.out k hlt
      have hcell2 := HC2.out k (by rw [← HXY.out]; exact hlt)
      have e1 : ∀ a, wr.cell? a = w.cell? a := fun a => by rw [HW.out]; rfl
      rw [← e1] at hcell hcell2
      clear e1
      have HD := hid (lexC_take xs ys k hlt (by rw [← HXY.out]; exact hlt))
      have ek : (((k + 1 : Nat) : Int) - 1) = (k : Int) := by omega
      rw [ek]
      clear ek
      generalize xs.getD k 0 = x at hcell HD
      generalize ys.getD k 0 = y at hcell2 HD
      cases hy : (cmpI y x != 0)
      · go_wp2
        go_quiet ((go_at_call 89; exact Calls.quiet_of_same (compare_any _ _ _)))
        go_wp2
        go_roundw
        case rel => exact ⟨k, _, by omega, rfl, by rw [HN.out, HD.out, if_pos (by simpa using hy)], by rw [HW.out, World.drewN_drewN]⟩
        case measure => simp [intOf]
      · go_wp2
        go_quiet ((go_at_call 89; exact Calls.quiet_of_same (compare_any _ _ _)))
        go_wp2
        go_ret
        exact ⟨ret_int (by rw [HN.out, HD.out, if_neg (by simpa using hy)]), _, by rw [HW.out, World.drewN_drewN]⟩
    | zero =>
      go_wp2
      go_ret
      exact ⟨ret_int (by rw [HN.out]; rfl), n0, HW.out⟩

theorem errM_ok {n : Int} {xs : List Int} (h : errM n xs = 0) : (xs.length : Int) = n ∧ (∀ x ∈ xs, 0 ≤ x ∧ x ≤ 200) ∧ sumI xs ≤ 200 := by
  unfold errM at h
  by_cases h1 : (xs.length : Int) = n
  · rw [if_neg (by simp [h1])] at h
    cases h2 : xs.any outB
    · rw [if_neg (by simp [h2])] at h
      by_cases h3 : 200 < sumI xs
      · rw [if_pos h3] at h; omega
      · exact ⟨h1, any_bd h2, by omega⟩
    · rw [if_pos h2] at h; omega
  · rw [if_pos h1] at h; omega
theorem Sl.sls1 {w : World} {v : Value} {xs : List Int} {b : Nat} (h : Sl w v xs) (hc : w.cell? ⟨b, 0, none⟩ = some v) : SlsAt w b 0 [xs] := by
  intro i hi
  simp at hi; subst hi
  exact ⟨v, hc, h⟩
set_option maxHeartbeats 400000 in
theorem monoCheck_any (p n o v : Int) (x : Value) (xs : List Int) (w : World) (hs : Sl w x xs) :
    Calls Tryd.prog 63 #[ringV p n o v, x] w fun e w' => e = .returned (.int .i64 (errAll p n o v [xs])) ∧ Below w.heap.size w w' := by
  have HS := hid hs
  obtain ⟨a, cap, rfl, _⟩ := hs
  go_enter Tryd.func63, Tryd.ntmps63
  go_wp2_with fail
  have hb : ∀ A B, Below w.heap.size w ((w.alloc A).alloc B) := fun A B => ((Below.refl _ _).alloc (Nat.le_refl _) _).alloc (by simp) _
  refine (checkAll_any p n o v [xs] _ _ _ _ (by simp) (by simp) ?_).mono ?_
  · exact (HS.out.below (hb _ _)).sls1 (by simp [go_sem])
  · rintro e w1 ⟨rfl, hb1⟩
    go_wp2
    go_ret
    exact ⟨rfl, (hb _ _).trans (hb1.mono (by simp; omega))⟩

def ordS (o : Int) (xs ys : List Int) : Int :=
  if cmpI (sumI xs) (sumI ys) = 0 then (if o = 1 then revC xs ys else lexC xs ys) else cmpI (sumI xs) (sumI ys)
theorem below_two {w : World} {A B : Obj} : Below w.heap.size w ((w.alloc A).alloc B) := ((Below.refl _ _).alloc (Nat.le_refl _) _).alloc (by simp) _
theorem below_ndraws {w W : World} {B : Nat} (h : Below B w W) {w' : World} (hd : ∃ n, w' = W.drewN n) : Below B w w' := by
  obtain ⟨n, rfl⟩ := hd; exact below_drewN h n

theorem ordS_deg {o : Int} {xs ys : List Int} (h : (cmpI (sumI xs) (sumI ys) != 0) = true) : ordS o xs ys = cmpI (sumI xs) (sumI ys) := by
  unfold ordS; rw [if_neg (by simpa using h)]
theorem ordS_rev {xs ys : List Int} (h : (cmpI (sumI xs) (sumI ys) != 0) = false) : ordS 1 xs ys = revC xs ys := by
  unfold ordS; rw [if_pos (by simpa using h), if_pos rfl]
theorem ordS_lex {xs ys : List Int} (h : (cmpI (sumI xs) (sumI ys) != 0) = false) : ordS 2 xs ys = lexC xs ys := by
  unfold ordS; rw [if_pos (by simpa using h), if_neg (by omega)]

theorem below_oneG {w : World} {A : Obj} : Below w.heap.size w (w.alloc A) := (Below.refl _ _).alloc (Nat.le_refl _) _

set_option maxHeartbeats 1000000 in
theorem bareCompare_any (p n o v : Int) (x y : Value) (xs ys : List Int) (w : World) (ho : o = 1 ∨ o = 2) (h0 : 0 < xs.length) (hm : xs.length ≤ 3) (hxy : xs.length = ys.length)
    (hbx : ∀ x ∈ xs, 0 ≤ x ∧ x ≤ 400) (hby : ∀ x ∈ ys, 0 ≤ x ∧ x ≤ 400) (hs : Sl w x xs) (hs2 : Sl w y ys) :
    Calls Tryd.prog 75 #[ringV p n o v, x, y] w fun e w' => e = .returned (.int .i64 (ordS o xs ys)) ∧ Below w.heap.size w w' := by
  have HXY := hid hxy
  have HBX := hid hbx
  have HBY := hid hby
  have hmy : ys.length ≤ 3 := by omega
  obtain ⟨a, cap, rfl, h1⟩ := hs
  obtain ⟨a2, cap2, rfl, h2⟩ := hs2
  obtain ⟨b, off, rfl, hlt, hc⟩ := h1 h0
  obtain ⟨b2, off2, rfl, hlt2, hc2⟩ := h2 (by omega)
  have HC := hid hc
  have HC2 := hid hc2
  clear hxy hbx hby h1 h2 hc hc2
  have key : ∀ w1 : World, Below w.heap.size w w1 → IntsAt w1 b off xs ∧ IntsAt w1 b2 off2 ys := fun w1 hb =>
    ⟨fun i hi => by rw [hb.cell (p := ⟨b, off + i, none⟩) hlt]; exact HC.out i hi, fun i hi => by rw [hb.cell (p := ⟨b2, off2 + i, none⟩) hlt2]; exact HC2.out i hi⟩
  have KEY := hid key
  clear key
  cases hd : (cmpI (sumI xs) (sumI ys) != 0)
  · rcases ho with rfl | rfl
    · rw [ordS_rev hd]
      go_enter Tryd.func75, Tryd.ntmps75
      go_wp2_with fail
      refine (degree_any xs _ _ _ _ HBX.out hm (KEY.out _ below_oneG).1).mono ?_
      rintro e w' ⟨rfl, rfl⟩
      go_wp2_with fail
      refine (degree_any ys _ _ _ _ HBY.out hmy (KEY.out _ below_oneG).2).mono ?_
      rintro e w' ⟨rfl, rfl⟩
      go_wp2_with fail
      refine (compare_any _ _ _).mono ?_
      rintro e w' ⟨rfl, rfl⟩
      go_wp2_with fail
      refine (revCompare_any xs ys _ _ _ _ _ _ _ hm HXY.out (KEY.out _ below_oneG).1 (KEY.out _ below_oneG).2).mono ?_
      rintro e w1 ⟨rfl, hd2⟩
      go_wp2
      go_ret
      exact ⟨rfl, below_ndraws below_oneG hd2⟩
    · rw [ordS_lex hd]
      go_enter Tryd.func75, Tryd.ntmps75
      go_wp2_with fail
      refine (degree_any xs _ _ _ _ HBX.out hm (KEY.out _ below_oneG).1).mono ?_
      rintro e w' ⟨rfl, rfl⟩
      go_wp2_with fail
      refine (degree_any ys _ _ _ _ HBY.out hmy (KEY.out _ below_oneG).2).mono ?_
      rintro e w' ⟨rfl, rfl⟩
      go_wp2_with fail
      refine (compare_any _ _ _).mono ?_
      rintro e w' ⟨rfl, rfl⟩
      go_wp2_with fail
      refine (lexCompare_any xs ys _ _ _ _ _ _ _ hm HXY.out (KEY.out _ below_oneG).1 (KEY.out _ below_oneG).2).mono ?_
      rintro e w' ⟨rfl, rfl⟩
      go_wp2
      go_ret
      exact ⟨rfl, below_oneG⟩
  · rw [ordS_deg hd]
    go_enter Tryd.func75, Tryd.ntmps75
    go_wp2_with fail
    refine (degree_any xs _ _ _ _ HBX.out hm (KEY.out _ below_oneG).1).mono ?_
    rintro e w' ⟨rfl, rfl⟩
    go_wp2_with fail
    refine (degree_any ys _ _ _ _ HBY.out hmy (KEY.out _ below_oneG).2).mono ?_
    rintro e w' ⟨rfl, rfl⟩
    go_wp2_with fail
    refine (compare_any _ _ _).mono ?_
    rintro e w' ⟨rfl, rfl⟩
    go_wp2
    go_ret
    exact ⟨rfl, below_oneG⟩
end Go.Proofs.YtilogbggilchaaaDoor
