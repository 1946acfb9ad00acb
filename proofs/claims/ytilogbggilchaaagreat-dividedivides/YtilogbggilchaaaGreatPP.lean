/- Print: a term. -/
import Derived.Test.YtilogbggilchaaaGreatPM
import Derived.Lib.ItoaNum
import Derived.Lib.Join
import Derived.Deep.CutBlock
import Derived.Deep.DeepCutAuto
import Derived.Test.YtilogbggilchaaaGreatPI
import Derived.Test.YtilogbggilchaaaGreatH
import Derived.Test.YtilogbggilchaaaGreatWB
import Derived.Test.YtilogbggilchaaaGreatTM
import Derived.BigQuiet
namespace Go.Proofs.YtilogbggilchaaaGreat
set_option linter.unusedSimpArgs false
set_option linter.unusedVariables false
open Go.RowKit
set_option maxHeartbeats 1000000 in
theorem polyCheck_any (p n o v : Int) (chk : List (List Tm) → Int) (HC : Tells p n o v chk) (x : Value) (fs : List Tm) (w : World) (pf : Pl w x fs) :
    Calls Tryz.prog 86 #[ringV p n o v, x] w fun e w' => e = .returned (.int .i64 (chk [fs])) ∧ Below w.heap.size w w' := by
  have HP := hid pf
  have HT := hid HC
  obtain ⟨a, c, rfl, _, _⟩ := pf
  clear HC
  have HB2 : Hid (∀ A B, Below w.heap.size w ((w.alloc A).alloc B)) := fun A B => below_two
  go_enter Tryz.func86, Tryz.ntmps86
  go_wp2_with fail
  refine (HT.out.1 [fs] _ _ (by simp) (pls1 (HP.out.below (HB2.out _ _)) (by simp) (by simp [go_sem]))).mono ?_
  rintro e w1 ⟨rfl, hb1⟩
  have HB1 := hid ((HB2.out _ _).trans (hb1.mono (HB2.out _ _).size))
  clear hb1
  go_wp2
  go_ret
  exact ⟨rfl, HB1.out⟩

set_option maxHeartbeats 1000000 in
theorem term_any (c : Int) (a : Option Addr) (n m : Nat) (w : World) :
    Calls Tryz.prog 42 #[.int .i64 c, .slice a n m] w fun e w' => e = .returned (.agg #[.int .i64 c, .slice a n m]) ∧ Below w.heap.size w w' := by
  go_enter Tryz.func42, Tryz.ntmps42
  go_wp2
  exact bodyPost_ret (v := .agg #[.int .i64 c, .slice a n m]) (by simp [results, Tryz.results42, go_sem]) rfl ⟨rfl, (Below.refl _ _).alloc (Nat.le_refl _) _⟩

theorem pl_new2 {w : World} {c1 c2 : Int} {s1 s2 : Value} {e1 e2 : List Int} {T : TypeId} (h1 : Sl w s1 e1) (h2 : Sl w s2 e2) : Pl (w.alloc (.cells #[.int .i64 c1, s1, .int .i64 c2, s2] T)) (.slice (some ⟨w.heap.size, 0, none⟩) 2 2) [(c1, e1), (c2, e2)] := by
  refine ⟨_, _, rfl, by simp, fun _ => ⟨_, _, rfl, by simp, fun i hi => ?_⟩⟩
  simp at hi
  rcases i with _ | _ | i
  · exact ⟨by simp [go_sem], s1, by simp [go_sem], h1.below belowNew⟩
  · exact ⟨by simp [go_sem], s2, by simp [go_sem], h2.below belowNew⟩
  · omega
theorem cur_one {p n o v : Int} {f : List Tm} (hR : errR p n o v = 0) : cur p n o v [f] = errOne p n o f := by
  have e : errCur p n o v f = errOne p n o f := by unfold errCur; rw [if_neg (by simpa using hR)]
  have hu : cur p n o v [f] = if errCur p n o v f ≠ 0 then errCur p n o v f else 0 := rfl
  rw [hu, e]
  by_cases h : errOne p n o f = 0
  · rw [if_neg (by simpa using h), h]
  · rw [if_pos h]

set_option maxRecDepth 100000 in
set_option maxHeartbeats 1000000 in
theorem vecPolys_any (p n o v : Int) (lv : Value) (fss : List (List Tm)) (w : World) (hR : errR p n o v = 0) (hm : fss.length ≤ 1200000000000) (hs : Vl w lv fss) :
    Calls Tryz.prog 48 #[ringV p n o v, lv] w fun e w' => e = .returned (.int .i64 (firstOne p n o fss)) ∧ Below w.heap.size w w' := by
  have HS := hid hs
  have HR := hid hR
  have HT := hid (tells p n o v)
  obtain ⟨la, lc, rfl, _⟩ := hs
  obtain ⟨w1, hw1⟩ : ∃ w1, w1 = w.alloc (.cells #[.int .i64 p, .int .i64 n, .int .i64 o, .int .i64 v] 23) := ⟨_, rfl⟩
  have hbx : BoxAt w1 w.heap.size p n o v := by rw [hw1]; exact BoxAt.new w p n o v _
  have hbw : Below w.heap.size w w1 := by rw [hw1]; exact below_oneG
  have HBX := hid hbx
  have HBW := hid hbw
  clear hR hbx hbw
  go_enter Tryz.func48, Tryz.ntmps48
  go_wp2_with fail
  rw [← hw1]
  clear hw1
  go_loopw [10] (fun i wr => ∃ k : Nat, k ≤ fss.length ∧ i = .int .i64 k ∧ firstOne p n o fss = firstOne p n o (fss.drop k) ∧ Below w1.heap.size w1 wr) (fun i _ => fss.length - (intOf i).toNat)
  case atStart => exact ⟨0, Nat.zero_le _, rfl, rfl, Below.refl _ _⟩
  case round =>
    obtain ⟨k, hk, rfl, her, hbr⟩ := hrel
    have HBR := hid hbr
    have HER0 := hid her
    clear hbr her
    by_cases hk2 : k < fss.length
    · have HER := hid (HER0.out.trans (firstOne_drop p n o fss k hk2))
      have HDN := hid (HBW.out.trans (HBR.out.mono HBW.out.size))
      obtain ⟨b, off, fa, fc, rfl, hlt, c0, hpf⟩ := vl_at HS.out k hk2
      generalize fss.getD k [] = f at c0 hpf HER
      have HPF := hid (hpf.below HDN.out)
      have d0 := cell_keep c0 HDN.out
      have HC1 := hid (cur_one (f := f) HR.out)
      obtain ⟨_, bx0, bx1, bx2, bx3⟩ := HBX.out.below HBR.out
      clear c0 hpf
      cases hz : (errOne p n o f != 0)
      · have HZ : Hid (errOne p n o f = 0) := by simpa [Hid] using hz
        go_wp2_with (go_at_call 86; refine (polyCheck_any p n o v _ HT.out _ f _ HPF.out).mono ?_; rw [HC1.out]; rintro e w2 ⟨rfl, hb2⟩; have HB2 := hid (HBR.out.trans (hb2.mono HBR.out.size)); clear hb2)
        go_roundw
        case rel => exact ⟨k + 1, by omega, by go_num, by rw [HER.out, if_pos HZ.out], HB2.out⟩
        case measure => simp [intOf]; omega
      · have HZ : Hid (errOne p n o f ≠ 0) := by simpa [Hid] using hz
        go_wp2_with (go_at_call 86; refine (polyCheck_any p n o v _ HT.out _ f _ HPF.out).mono ?_; rw [HC1.out]; rintro e w2 ⟨rfl, hb2⟩; have HB2 := hid (HBR.out.trans (hb2.mono HBR.out.size)); clear hb2)
        go_ret
        exact ⟨ret_int (by rw [HER.out, if_neg HZ.out]), HBW.out.trans (HB2.out.mono HBW.out.size)⟩
    · go_wp2
      go_ret
      exact ⟨ret_int (by rw [HER0.out, List.drop_eq_nil_of_le (by omega)]; rfl), HBW.out.trans (HBR.out.mono HBW.out.size)⟩

set_option maxHeartbeats 1000000 in
theorem isRank_any (m : Int) (w : World) : Calls Tryz.prog 85 #[.int .i64 m] w fun e w' => e = .returned (.bool (betweenB m 1 40)) ∧ w' = w := by
  have HE : Hid (betweenB m 1 40 = decide (1 ≤ m ∧ m ≤ 40)) := by show _ = _; simp [betweenB]
  rw [HE.out]
  by_cases h1 : 1 ≤ m
  · by_cases h2 : m ≤ 40
    · have HD : Hid (decide (1 ≤ m ∧ m ≤ 40) = true) := decide_eq_true ⟨h1, h2⟩
      rw [HD.out]
      go_enter Tryz.func85, Tryz.ntmps85
      go_wp2
      go_ret
      exact ⟨ret_bool (by simp [h2]), rfl⟩
    · have HD : Hid (decide (1 ≤ m ∧ m ≤ 40) = false) := decide_eq_false (by omega)
      rw [HD.out]
      go_enter Tryz.func85, Tryz.ntmps85
      go_wp2
      go_ret
      exact ⟨ret_bool (by simp [h2]), rfl⟩
  · have HD : Hid (decide (1 ≤ m ∧ m ≤ 40) = false) := decide_eq_false (by omega)
    rw [HD.out]
    go_enter Tryz.func85, Tryz.ntmps85
    go_wp2
    go_ret
    exact ⟨rfl, rfl⟩
set_option maxRecDepth 100000 in
set_option maxHeartbeats 2000000 in
theorem vecCheck_any (p n o v rank : Int) (lv : Value) (vss : List (List (List Tm))) (w : World) (hs : Wl w lv vss) :
    Calls Tryz.prog 47 #[ringV p n o v, .int .i64 rank, lv] w fun e w' => e = .returned (.int .i64 (errVecs p n o v rank vss)) ∧ Below w.heap.size w w' := by
  have HS := hid hs
  obtain ⟨la, lc, rfl, _⟩ := hs
  cases hR : (errR p n o v != 0)
  · have hR0 : errR p n o v = 0 := by simpa using hR
    have HR := hid hR0
    have HE : Hid (errVecs p n o v rank vss = errList p n o rank vss) := by show _ = _; unfold errVecs; rw [if_neg (by simpa using hR0)]
    clear hR0
    cases hbt : betweenB rank 1 40
    · have HE2 : Hid (errVecs p n o v rank vss = 3) := by show _ = _; rw [HE.out]; unfold errList; rw [if_pos hbt]
      rw [HE2.out]
      go_enter Tryz.func47, Tryz.ntmps47
      go_wp2_with (first
        | (go_at_call 84; refine (ring_any _ _ _ _ _).mono ?_; rintro e w1 ⟨rfl, hb1⟩; have HB1 := hid (show Below w.heap.size w w1 from below_oneG.trans (hb1.mono (by simp))); clear hb1)
        | (go_at_call 85; refine (isRank_any _ _).mono ?_; rw [hbt]; rintro e w' ⟨rfl, rfl⟩))
      go_ret
      exact ⟨rfl, HB1.out⟩
    · by_cases hlen : 60 < vss.length
      · have HE2 : Hid (errVecs p n o v rank vss = 2) := by show _ = _; rw [HE.out]; unfold errList; rw [if_neg (by rw [hbt]; simp), if_pos hlen]
        rw [HE2.out]
        go_enter Tryz.func47, Tryz.ntmps47
        go_wp2_with (first
          | (go_at_call 84; refine (ring_any _ _ _ _ _).mono ?_; rintro e w1 ⟨rfl, hb1⟩; have HB1 := hid (show Below w.heap.size w w1 from below_oneG.trans (hb1.mono (by simp))); clear hb1)
          | (go_at_call 85; refine (isRank_any _ _).mono ?_; rw [hbt]; rintro e w' ⟨rfl, rfl⟩))
        go_ret
        exact ⟨rfl, HB1.out⟩
      · have HE2 : Hid (errVecs p n o v rank vss = firstZ (errVec p n o rank) vss) := by show _ = _; rw [HE.out]; unfold errList; rw [if_neg (by rw [hbt]; simp), if_neg hlen]
        rw [HE2.out]
        have HRK : Hid (1 ≤ rank ∧ rank ≤ 40) := by simpa [betweenB, Hid] using hbt
        clear HE HE2
        go_enter Tryz.func47, Tryz.ntmps47
        go_wp2_with fail
        refine (ring_any _ _ _ _ _).mono ?_
        rintro e w1 ⟨rfl, hb1⟩
        have HB1 := hid (show Below w.heap.size w w1 from below_oneG.trans (hb1.mono (by simp)))
        have HBX := hid ((BoxAt.new w p n o v 23).below hb1)
        clear hb1
        go_wp2_with fail
        refine (isRank_any _ _).mono ?_
        rw [hbt]
        rintro e w2 ⟨rfl, rfl⟩
        have HS1 := hid (HS.out.below HB1.out)
        go_wp2_with fail
        obtain ⟨wo, hwo⟩ : ∃ wo, wo = w2 := ⟨_, rfl⟩
        subst hwo
        clear hbt
        go_loopw [24] (fun i wr => ∃ k : Nat, k ≤ vss.length ∧ i = .int .i64 k ∧ firstZ (errVec p n o rank) vss = firstZ (errVec p n o rank) (vss.drop k) ∧ Below wo.heap.size wo wr) (fun i _ => vss.length - (intOf i).toNat)
        case atStart => exact ⟨0, Nat.zero_le _, rfl, rfl, Below.refl _ _⟩
        case round =>
          obtain ⟨k, hk, rfl, her, hbr⟩ := hrel
          have HBR := hid hbr
          have HER0 := hid her
          clear hbr her
          by_cases hk2 : k < vss.length
          · have HER := hid (HER0.out.trans (firstZ_drop (errVec p n o rank) vss k hk2))
            obtain ⟨b, off, va, vc, rfl, hlt, c0, hvl⟩ := wl_at HS1.out k hk2
            generalize vss.getD k [] = fss at c0 hvl HER
            have HVL := hid (hvl.below HBR.out)
            have d0 := cell_keep c0 HBR.out
            obtain ⟨_, bx0, bx1, bx2, bx3⟩ := HBX.out.below HBR.out
            clear c0 hvl
            cases hln : ((fss.length : Int) != rank)
            · have hrk : (fss.length : Int) = rank := by simpa using hln
              subst hrk
              have HEV : Hid (errVec p n o (fss.length : Int) fss = firstOne p n o fss) := by show _ = _; unfold errVec; rw [if_neg (by simp)]
              have hf40 : fss.length ≤ 40 := by have := HRK.out; omega
              have HVP := hid (vecPolys_any p n o v _ fss wr HR.out (by omega) HVL.out)
              clear hln
              cases hz : (firstOne p n o fss != 0)
              · have HZ : Hid (firstOne p n o fss = 0) := by simpa [Hid] using hz
                go_wp2_with (go_at_call 48; refine HVP.out.mono ?_; rintro e w4 ⟨rfl, hb4⟩; have HB4 := hid (HBR.out.trans (hb4.mono HBR.out.size)); clear hb4)
                go_roundw
                case rel => exact ⟨k + 1, by omega, by go_num, by rw [HER.out, HEV.out, if_pos HZ.out], HB4.out⟩
                case measure => simp [intOf]; omega
              · have HZ : Hid (firstOne p n o fss ≠ 0) := by simpa [Hid] using hz
                go_wp2_with (go_at_call 48; refine HVP.out.mono ?_; rintro e w4 ⟨rfl, hb4⟩; have HB4 := hid (HBR.out.trans (hb4.mono HBR.out.size)); clear hb4)
                go_ret
                exact ⟨ret_int (by rw [HER.out, HEV.out, if_neg HZ.out]), HB1.out.trans (HB4.out.mono HB1.out.size)⟩
            · have HEV : Hid (errVec p n o rank fss = 1) := by show _ = _; unfold errVec; rw [if_pos (by simpa using hln)]
              go_wp2_with fail
              go_ret
              exact ⟨ret_int (by rw [HER.out, HEV.out]; simp), HB1.out.trans (HBR.out.mono HB1.out.size)⟩
          · go_wp2
            go_ret
            exact ⟨ret_int (by rw [HER0.out, List.drop_eq_nil_of_le (by omega)]; rfl), HB1.out.trans (HBR.out.mono HB1.out.size)⟩
  · have HE : Hid (errVecs p n o v rank vss = errR p n o v) := by show _ = _; unfold errVecs; rw [if_pos (by simpa using hR)]
    rw [HE.out]
    go_enter Tryz.func47, Tryz.ntmps47
    go_wp2_with (go_at_call 84; refine (ring_any _ _ _ _ _).mono ?_; rintro e w1 ⟨rfl, hb1⟩; have HB1 := hid (show Below w.heap.size w w1 from below_oneG.trans (hb1.mono (by simp))); clear hb1)
    go_ret
    exact ⟨rfl, HB1.out⟩

theorem wl_one {w : World} {x : Value} {fss : List (List Tm)} {b c : Nat} (hf : Vl w x fss) (hlt : b < w.heap.size) (c0 : w.cell? ⟨b, 0, none⟩ = some x) : Wl w (.slice (some ⟨b, 0, none⟩) 1 c) [fss] := by
  refine ⟨_, c, rfl, fun _ => ⟨b, 0, rfl, hlt, fun i hi => ?_⟩⟩
  simp only [List.length_cons, List.length_nil] at hi
  rcases i with _ | i
  · exact ⟨x, c0, hf⟩
  · omega
abbrev Ld := Option (Nat × Tm)
def leadStep (o ov : Int) (st : Ld) (i : Nat) : List Tm → Ld
  | [] => st
  | t :: _ => match st with
    | none => some (i, t)
    | some (j, u) => if ov = 1 ∧ 0 < ordS o t.2 u.2 then some (i, t) else some (j, u)
def leadF (o ov : Int) (fss : List (List Tm)) : Nat → Ld
  | 0 => none
  | k + 1 => leadStep o ov (leadF o ov fss k) k (fss.getD k [])
theorem leadF_at {o ov : Int} {fss : List (List Tm)} : ∀ {k : Nat} {j : Nat} {u : Tm}, leadF o ov fss k = some (j, u) → j < k ∧ ∃ us, fss.getD j [] = u :: us
  | 0, j, u, h => by simp [leadF] at h
  | k + 1, j, u, h => by
    simp only [leadF] at h
    cases hf : fss.getD k [] with
    | nil =>
      rw [hf] at h
      simp only [leadStep] at h
      obtain ⟨h1, h2⟩ := leadF_at h
      exact ⟨by omega, h2⟩
    | cons t ts =>
      rw [hf] at h
      cases hs : leadF o ov fss k with
      | none =>
        rw [hs] at h
        simp only [leadStep, Option.some.injEq, Prod.mk.injEq] at h
        obtain ⟨rfl, rfl⟩ := h
        exact ⟨by omega, ts, hf⟩
      | some q =>
        obtain ⟨j', u'⟩ := q
        rw [hs] at h
        simp only [leadStep] at h
        split at h
        · simp only [Option.some.injEq, Prod.mk.injEq] at h
          obtain ⟨rfl, rfl⟩ := h
          exact ⟨by omega, ts, hf⟩
        · simp only [Option.some.injEq, Prod.mk.injEq] at h
          obtain ⟨rfl, rfl⟩ := h
          obtain ⟨h1, h2⟩ := leadF_at hs
          exact ⟨by omega, h2⟩
def plc : Ld → Int
  | none => -1
  | some (j, _) => j
theorem plc_some (j : Nat) (u : Tm) : plc (some (j, u)) = (j : Int) := rfl
theorem pl_first {w : World} {fa : Option Addr} {fc : Nat} {t : Tm} {ts : List Tm} (h : Pl w (.slice fa (t :: ts).length fc) (t :: ts)) : ∃ b off ea ec, fa = some ⟨b, off, none⟩ ∧ b < w.heap.size ∧ w.cell? ⟨b, off, none⟩ = some (.int .i64 t.1) ∧ w.cell? ⟨b, off + 1, none⟩ = some (.slice ea t.2.length ec) ∧ Sl w (.slice ea t.2.length ec) t.2 := by
  obtain ⟨a, c, e, _, h1⟩ := h
  obtain ⟨b, off, rfl, hlt, hat⟩ := h1 (by simp)
  simp only [Value.slice.injEq, true_and] at e
  obtain ⟨rfl, rfl⟩ := e
  obtain ⟨h2, u, h3, h4⟩ := hat 0 (by simp)
  simp at h2 h3 h4
  have h5 := h4
  obtain ⟨ea, ec, rfl, _⟩ := h4
  exact ⟨b, off, ea, ec, rfl, hlt, h2, h3, h5⟩
def aheadB (o ov i : Int) (xs : List Int) (k : Int) (ys : List Int) : Bool := if ov = 2 ∧ i ≠ k then decide (i < k) else if sameB xs ys then decide (i < k) else moreB o xs ys

set_option maxRecDepth 100000 in
set_option maxHeartbeats 1000000 in
theorem ahead_any (p n o v i k : Int) (x y : Value) (xs ys : List Int) (w : World) (ho : o = 1 ∨ o = 2) (h0 : 0 < xs.length) (hm : xs.length ≤ 3) (hxy : xs.length = ys.length)
    (hbx : ∀ x ∈ xs, 0 ≤ x ∧ x ≤ 40000) (hby : ∀ x ∈ ys, 0 ≤ x ∧ x ≤ 40000) (hs : Sl w x xs) (hs2 : Sl w y ys) :
    Calls Tryz.prog 71 #[ringV p n o v, .int .i64 i, x, .int .i64 k, y] w fun e w' => e = .returned (.bool (aheadB o v i xs k ys)) ∧ Below w.heap.size w w' := by
  have HS := hid hs
  have HS2 := hid hs2
  have HO := hid ho
  have HXY := hid hxy
  have HBB := hid (And.intro hbx hby)
  obtain ⟨xa, xc, rfl, _⟩ := hs
  obtain ⟨ya, yc, rfl, _⟩ := hs2
  clear ho hxy hbx hby
  have HBN : Hid (∀ A, Below w.heap.size w (w.alloc A)) := fun A => below_oneG
  cases hc : ((v == 2) && (i != k))
  · have HE : Hid (aheadB o v i xs k ys = if sameB xs ys then decide (i < k) else moreB o xs ys) := by
      show _ = _
      unfold aheadB
      rw [if_neg]
      intro h
      have : ((v == 2) && (i != k)) = true := by simp [h.1, h.2]
      rw [hc] at this; simp at this
    rw [HE.out]
    have HTAIL : Hid (∀ (b : Bool), sameB xs ys = b → True) := fun _ _ => trivial
    cases hsm : sameB xs ys
    · have HE2 : Hid ((if false = true then decide (i < k) else moreB o xs ys) = moreB o xs ys) := by show _ = _; simp
      rw [HE2.out]
      cases hv : (v == 2)
      · go_enter Tryz.func71, Tryz.ntmps71
        go_wp2_with (first
          | (go_at_call 76; refine (sameInts_any _ _ xs ys _ hm (HS.out.below (HBN.out _)) (HS2.out.below (HBN.out _))).mono ?_; rw [hsm]; rintro e w1 ⟨rfl, hd1⟩; have HB1 := hid (below_ndraws (HBN.out _) hd1); have HBX := hid ((BoxAt.new w p n o v 23).below (below_ndraws (Below.refl _ _) hd1)); obtain ⟨_, bx0, bx1, bx2, bx3⟩ := HBX.out; clear hd1)
          | (go_at_call 107; refine (more_any p n o v _ _ xs ys _ HO.out h0 hm HXY.out HBB.out.1 HBB.out.2 (HS.out.below HB1.out) (HS2.out.below HB1.out)).mono ?_; rintro e w2 ⟨rfl, hb2⟩; have HB2 := hid (HB1.out.trans (hb2.mono HB1.out.size)); clear hb2))
        go_ret
        exact ⟨rfl, HB2.out⟩
      · have hik : (i != k) = false := by rw [hv] at hc; simpa using hc
        go_enter Tryz.func71, Tryz.ntmps71
        go_wp2_with (first
          | (go_at_call 76; refine (sameInts_any _ _ xs ys _ hm (HS.out.below (HBN.out _)) (HS2.out.below (HBN.out _))).mono ?_; rw [hsm]; rintro e w1 ⟨rfl, hd1⟩; have HB1 := hid (below_ndraws (HBN.out _) hd1); have HBX := hid ((BoxAt.new w p n o v 23).below (below_ndraws (Below.refl _ _) hd1)); obtain ⟨_, bx0, bx1, bx2, bx3⟩ := HBX.out; clear hd1)
          | (go_at_call 107; refine (more_any p n o v _ _ xs ys _ HO.out h0 hm HXY.out HBB.out.1 HBB.out.2 (HS.out.below HB1.out) (HS2.out.below HB1.out)).mono ?_; rintro e w2 ⟨rfl, hb2⟩; have HB2 := hid (HB1.out.trans (hb2.mono HB1.out.size)); clear hb2))
        go_ret
        exact ⟨rfl, HB2.out⟩
    · have HE2 : Hid ((if true = true then decide (i < k) else moreB o xs ys) = decide (i < k)) := by show _ = _; simp
      rw [HE2.out]
      cases hv : (v == 2)
      · go_enter Tryz.func71, Tryz.ntmps71
        go_wp2_with (go_at_call 76; refine (sameInts_any _ _ xs ys _ hm (HS.out.below (HBN.out _)) (HS2.out.below (HBN.out _))).mono ?_; rw [hsm]; rintro e w1 ⟨rfl, hd1⟩; have HB1 := hid (below_ndraws (HBN.out _) hd1); clear hd1)
        go_ret
        exact ⟨rfl, HB1.out⟩
      · have hik : (i != k) = false := by rw [hv] at hc; simpa using hc
        go_enter Tryz.func71, Tryz.ntmps71
        go_wp2_with (go_at_call 76; refine (sameInts_any _ _ xs ys _ hm (HS.out.below (HBN.out _)) (HS2.out.below (HBN.out _))).mono ?_; rw [hsm]; rintro e w1 ⟨rfl, hd1⟩; have HB1 := hid (below_ndraws (HBN.out _) hd1); clear hd1)
        go_ret
        exact ⟨rfl, HB1.out⟩
  · have hv : (v == 2) = true := by cases h : (v == 2) <;> simp_all
    have hik : (i != k) = true := by cases h : (i != k) <;> simp_all
    have HE : Hid (aheadB o v i xs k ys = decide (i < k)) := by
      show _ = _
      unfold aheadB
      rw [if_pos ⟨by simpa using hv, by simpa using hik⟩]
    rw [HE.out]
    clear hc
    go_enter Tryz.func71, Tryz.ntmps71
    go_wp2_with fail
    go_ret
    exact ⟨rfl, HBN.out _⟩
end Go.Proofs.YtilogbggilchaaaGreat
