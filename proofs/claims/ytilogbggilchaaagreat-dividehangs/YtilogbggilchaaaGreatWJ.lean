/- Ahead of the reference. -/
import Derived.Test.YtilogbggilchaaaGreatWH
import Derived.Test.YtilogbggilchaaaGreatTL
namespace Go.Proofs.YtilogbggilchaaaGreat
set_option linter.unusedSimpArgs false
set_option linter.unusedVariables false
open Go.RowKit
def aheadB (o ov i : Int) (xs : List Int) (k : Int) (ys : List Int) : Bool := if ov = 2 ∧ i ≠ k then decide (i < k) else if sameB xs ys then decide (i < k) else moreB o xs ys

set_option maxRecDepth 100000 in
set_option maxHeartbeats 1000000 in
theorem ahead_any (p n o v i k : Int) (x y : Value) (xs ys : List Int) (w : World) (ho : o = 1 ∨ o = 2) (h0 : 0 < xs.length) (hm : xs.length ≤ 3) (hxy : xs.length = ys.length)
    (hbx : ∀ x ∈ xs, 0 ≤ x ∧ x ≤ 40000) (hby : ∀ x ∈ ys, 0 ≤ x ∧ x ≤ 40000) (hs : Sl w x xs) (hs2 : Sl w y ys) :
    Calls Tryz.prog 71 #[ringV p n o v, .int .i64 i, x, .int .i64 k, y] w fun e w' => e = .returned (.bool (aheadB o v i xs k ys)) ∧ Below w.heap.size w w' := by
  have HS := hid hs
  have HS2 := hid hs2
  have HO := hid ho
  have HXY := hid hxy
  have HBB := hid (And.intro hbx hby)
  obtain ⟨xa, xc, rfl, _⟩ := hs
  obtain ⟨ya, yc, rfl, _⟩ := hs2
  clear ho hxy hbx hby
  have HBN : Hid (∀ A, Below w.heap.size w (w.alloc A)) := fun A => below_oneG
  cases hc : ((v == 2) && (i != k))
  · have HE : Hid (aheadB o v i xs k ys = if sameB xs ys then decide (i < k) else moreB o xs ys) := by
      show _ = _
      unfold aheadB
      rw [if_neg]
      intro h
      have : ((v == 2) && (i != k)) = true := by simp [h.1, h.2]
      rw [hc] at this; simp at this
    rw [HE.out]
    have HTAIL : Hid (∀ (b : Bool), sameB xs ys = b → True) := fun _ _ => trivial
    cases hsm : sameB xs ys
    · have HE2 : Hid ((if false = true then decide (i < k) else moreB o xs ys) = moreB o xs ys) := by show _ = _; simp
      rw [HE2.out]
      cases hv : (v == 2)
      · go_enter Tryz.func71, Tryz.ntmps71
        go_wp2_with (first
          | (go_at_call 76; refine (sameInts_any _ _ xs ys _ hm (HS.out.below (HBN.out _)) (HS2.out.below (HBN.out _))).mono ?_; rw [hsm]; rintro e w1 ⟨rfl, hd1⟩; have HB1 := hid (below_ndraws (HBN.out _) hd1); have HBX := hid ((BoxAt.new w p n o v 23).below (below_ndraws (Below.refl _ _) hd1)); obtain ⟨_, bx0, bx1, bx2, bx3⟩ := HBX.out; clear hd1)
          | (go_at_call 107; refine (more_any p n o v _ _ xs ys _ HO.out h0 hm HXY.out HBB.out.1 HBB.out.2 (HS.out.below HB1.out) (HS2.out.below HB1.out)).mono ?_; rintro e w2 ⟨rfl, hb2⟩; have HB2 := hid (HB1.out.trans (hb2.mono HB1.out.size)); clear hb2))
        go_ret
        exact ⟨rfl, HB2.out⟩
      · have hik : (i != k) = false := by rw [hv] at hc; simpa using hc
        go_enter Tryz.func71, Tryz.ntmps71
        go_wp2_with (first
          | (go_at_call 76; refine (sameInts_any _ _ xs ys _ hm (HS.out.below (HBN.out _)) (HS2.out.below (HBN.out _))).mono ?_; rw [hsm]; rintro e w1 ⟨rfl, hd1⟩; have HB1 := hid (below_ndraws (HBN.out _) hd1); have HBX := hid ((BoxAt.new w p n o v 23).below (below_ndraws (Below.refl _ _) hd1)); obtain ⟨_, bx0, bx1, bx2, bx3⟩ := HBX.out; clear hd1)
          | (go_at_call 107; refine (more_any p n o v _ _ xs ys _ HO.out h0 hm HXY.out HBB.out.1 HBB.out.2 (HS.out.below HB1.out) (HS2.out.below HB1.out)).mono ?_; rintro e w2 ⟨rfl, hb2⟩; have HB2 := hid (HB1.out.trans (hb2.mono HB1.out.size)); clear hb2))
        go_ret
        exact ⟨rfl, HB2.out⟩
    · have HE2 : Hid ((if true = true then decide (i < k) else moreB o xs ys) = decide (i < k)) := by show _ = _; simp
      rw [HE2.out]
      cases hv : (v == 2)
      · go_enter Tryz.func71, Tryz.ntmps71
        go_wp2_with (go_at_call 76; refine (sameInts_any _ _ xs ys _ hm (HS.out.below (HBN.out _)) (HS2.out.below (HBN.out _))).mono ?_; rw [hsm]; rintro e w1 ⟨rfl, hd1⟩; have HB1 := hid (below_ndraws (HBN.out _) hd1); clear hd1)
        go_ret
        exact ⟨rfl, HB1.out⟩
      · have hik : (i != k) = false := by rw [hv] at hc; simpa using hc
        go_enter Tryz.func71, Tryz.ntmps71
        go_wp2_with (go_at_call 76; refine (sameInts_any _ _ xs ys _ hm (HS.out.below (HBN.out _)) (HS2.out.below (HBN.out _))).mono ?_; rw [hsm]; rintro e w1 ⟨rfl, hd1⟩; have HB1 := hid (below_ndraws (HBN.out _) hd1); clear hd1)
        go_ret
        exact ⟨rfl, HB1.out⟩
  · have hv : (v == 2) = true := by cases h : (v == 2) <;> simp_all
    have hik : (i != k) = true := by cases h : (i != k) <;> simp_all
    have HE : Hid (aheadB o v i xs k ys = decide (i < k)) := by
      show _ = _
      unfold aheadB
      rw [if_pos ⟨by simpa using hv, by simpa using hik⟩]
    rw [HE.out]
    clear hc
    go_enter Tryz.func71, Tryz.ntmps71
    go_wp2_with fail
    go_ret
    exact ⟨rfl, HBN.out _⟩
def ldC : Ld → Int
  | none => 0
  | some (_, u) => u.1
def ldE : Ld → List Int
  | none => []
  | some (_, u) => u.2
def stM (o ov : Int) (st : Ld) (i : Nat) (f : List Tm) (m : Nat) : Ld := if m = 0 then st else leadStep o ov st i f
theorem stM_zero (o ov : Int) (st : Ld) (i : Nat) (f : List Tm) : stM o ov st i f 0 = st := rfl
theorem stM_all (o ov : Int) (st : Ld) (i : Nat) (f : List Tm) : stM o ov st i f f.length = leadStep o ov st i f := by
  unfold stM
  cases f with
  | nil => simp [leadStep]
  | cons t ts => rw [if_neg (by simp)]
theorem stM_none {o ov : Int} {st : Ld} {i : Nat} {f : List Tm} {m : Nat} (hm : m < f.length) (h : stM o ov st i f m = none) : stM o ov st i f (m + 1) = some (i, f.getD m noT) := by
  cases f with
  | nil => simp at hm
  | cons t ts =>
    rcases m with _ | m
    · rw [stM_zero] at h
      subst h
      simp [stM, leadStep]
    · unfold stM at h
      rw [if_neg (by omega)] at h
      simp only [leadStep] at h
      split at h
      · simp at h
      · split at h <;> simp at h
theorem stM_some {o ov : Int} {N : Nat} {st : Ld} {i : Nat} {f : List Tm} {m j : Nat} {u : Tm} (hov : ov = 1 ∨ ov = 2) (hf : Falls o f) (hl : Len N f) (hm : m < f.length) (hst : ∀ j' u', st = some (j', u') → j' < i ∧ u'.2.length = N) (h : stM o ov st i f m = some (j, u)) :
    stM o ov st i f (m + 1) = if aheadB o ov i (f.getD m noT).2 j u.2 then some (i, f.getD m noT) else some (j, u) := by
  cases f with
  | nil => simp at hm
  | cons t ts =>
    rcases m with _ | m
    · rw [stM_zero] at h
      subst h
      obtain ⟨hj, hu⟩ := hst j u rfl
      have htl : t.2.length = u.2.length := by rw [hl t (by simp), hu]
      have hl2 : stM o ov (some (j, u)) i (t :: ts) 1 = if ov = 1 ∧ 0 < ordS o t.2 u.2 then some (i, t) else some (j, u) := by unfold stM; rw [if_neg (by omega)]; rfl
      have hg : (t :: ts).getD 0 noT = t := rfl
      rw [hl2, hg]
      unfold aheadB
      rcases hov with rfl | rfl
      · rw [if_neg (show ¬ ((1 : Int) = 2 ∧ (i : Int) ≠ j) by omega)]
        by_cases he : t.2 = u.2
        · have hz : ordS o t.2 u.2 = 0 := (ordS_zero o t.2 u.2 htl).2 he
          rw [if_neg (by rw [hz]; omega), if_pos (show sameB t.2 u.2 = true from decide_eq_true he), decide_eq_false (show ¬ (i : Int) < j by omega)]; simp
        · rw [if_neg (show ¬ sameB t.2 u.2 = true by unfold sameB; simpa using he)]
          unfold moreB
          by_cases hp : 0 < ordS o t.2 u.2
          · rw [if_pos ⟨rfl, hp⟩, decide_eq_true hp]; rfl
          · rw [if_neg (fun h => hp h.2), decide_eq_false hp]; rfl
      · rw [if_neg (show ¬ ((2 : Int) = 1 ∧ 0 < ordS o t.2 u.2) by omega), if_pos (show (2 : Int) = 2 ∧ (i : Int) ≠ j by omega), decide_eq_false (show ¬ (i : Int) < j by omega)]; simp
    · have h1 : stM o ov st i (t :: ts) (m + 1 + 1) = some (j, u) := by
        unfold stM at h ⊢
        rw [if_neg (by omega)] at h ⊢
        exact h
      rw [h1]
      have hm2 : m < ts.length := by simpa using hm
      have hg : (t :: ts).getD (m + 1) noT = ts.getD m noT := rfl
      rw [hg]
      have hmem : ts.getD m noT ∈ ts := getD_memT ts m hm2
      have hlt := hf.1 _ hmem
      have hxl : (ts.getD m noT).2.length = N := hl _ (List.mem_cons_of_mem _ hmem)
      have htN : t.2.length = N := hl t (by simp)
      generalize ts.getD m noT = x at hlt hxl
      have hanti : ¬ 0 < ordS o x.2 t.2 := by rw [ordS_neg]; omega
      have hne : x.2 ≠ t.2 := by
        intro e
        have := (ordS_zero o t.2 x.2 (by omega)).2 e.symm
        omega
      have hb : aheadB o ov i x.2 j u.2 = false := by
        unfold stM at h
        rw [if_neg (by omega)] at h
        simp only [leadStep] at h
        have key : ∀ {j' : Nat} {u' : Tm}, j' = i ∧ u' = t → aheadB o ov i x.2 j' u'.2 = false := by
          rintro j' u' ⟨rfl, rfl⟩
          unfold aheadB
          rw [if_neg (fun h => h.2 rfl), if_neg (show ¬ sameB x.2 u'.2 = true by unfold sameB; simpa using hne)]
          unfold moreB
          exact decide_eq_false hanti
        split at h
        · simp only [Option.some.injEq, Prod.mk.injEq] at h
          exact key ⟨h.1.symm, h.2.symm⟩
        · rename_i j0 u0
          split at h
          · simp only [Option.some.injEq, Prod.mk.injEq] at h
            exact key ⟨h.1.symm, h.2.symm⟩
          · rename_i hno
            simp only [Option.some.injEq, Prod.mk.injEq] at h
            obtain ⟨rfl, rfl⟩ := h
            obtain ⟨hj, hu⟩ := hst j0 u0 rfl
            unfold aheadB
            rcases hov with rfl | rfl
            · rw [if_neg (show ¬ ((1 : Int) = 2 ∧ (i : Int) ≠ j0) by omega)]
              split
              · exact decide_eq_false (by omega)
              · unfold moreB
                refine decide_eq_false (fun hp => hno ⟨rfl, ordS_trans o t.2 x.2 u0.2 (by omega) (by omega) hlt hp⟩)
            · rw [if_pos (show (2 : Int) = 2 ∧ (i : Int) ≠ j0 by omega)]
              exact decide_eq_false (by omega)
      rw [hb]; simp

structure LdW (w wr : World) (p n o v : Int) (st : Ld) : Prop where
  below : Below w.heap.size w wr
  box : BoxAt wr w.heap.size p n o v
  res : wr.ownsRow w.heap.size 57 2 (.slice (some ⟨w.heap.size + 1, 0, none⟩) 1 1) 1 [.int .i64 0, .slice none 0 0]
  own : ∃ ea ec, wr.ownsRow w.heap.size 57 2 (.slice (some ⟨w.heap.size + 1 + 1, 0, none⟩) 1 1) 1 [.int .i64 (ldC st), .slice ea (ldE st).length ec] ∧ Sl w (.slice ea (ldE st).length ec) (ldE st)
theorem LdW.next {w wr w' : World} {p n o v : Int} {st : Ld} (h : LdW w wr p n o v st) (hb : Below wr.heap.size wr w') : LdW w w' p n o v st := by
  obtain ⟨ea, ec, h1, h2⟩ := h.own
  exact ⟨h.below.trans (hb.mono h.below.size), h.box.below hb, ownBlock_lt h.res hb, ea, ec, ownBlock_lt h1 hb, h2⟩
theorem LdW.put {w wr : World} {p n o v : Int} {st : Ld} (h : LdW w wr p n o v st) (i : Nat) (t : Tm) (ea : Option Addr) (ec : Nat) (hs : Sl w (.slice ea t.2.length ec) t.2) :
    LdW w ((wr.setCell ⟨w.heap.size + 1 + 1, 0, none⟩ (.int .i64 t.1)).setCell ⟨w.heap.size + 1 + 1, 1, none⟩ (.slice ea t.2.length ec)) p n o v (some (i, t)) := by
  obtain ⟨ea0, ec0, h1, _⟩ := h.own
  have s1 := h1.stored 0 (.int .i64 t.1)
  have s2 := s1.1.stored 1 (.slice ea t.2.length ec)
  have hg := grown_trans s1.2 s2.2
  have hlt := h.box.1
  refine ⟨h.below.trans (grown_below hg (by omega) h.below.size), ?_, h.res.kept hg (Or.inr (by simp [Value.ownBlock])), ea, ec, ?_, hs⟩
  · have far := fun o => cell_far (o := o) hg hlt (show w.heap.size ≠ w.heap.size + 1 + 1 by omega)
    obtain ⟨_, b0, b1, b2, b3⟩ := h.box
    exact ⟨Nat.lt_of_lt_of_le hlt hg.size, by rw [far]; exact b0, by rw [far]; exact b1, by rw [far]; exact b2, by rw [far]; exact b3⟩
  · have := s2.1
    simpa [ldC, ldE] using this
theorem LdW.first (w : World) (p n o v : Int) : LdW w (((w.alloc (.cells #[.int .i64 p, .int .i64 n, .int .i64 o, .int .i64 v] 23)).alloc (.cells #[.int .i64 0, .slice none 0 0] 57)).alloc (.cells #[.int .i64 0, .slice none 0 0] 57)) p n o v none := by
  have h1 := made_term (w := w.alloc (.cells #[.int .i64 p, .int .i64 n, .int .i64 o, .int .i64 v] 23)) (B := w.heap.size) (by simp) 0 (.slice none 0 0)
  have h2 := made_term (w := (w.alloc (.cells #[.int .i64 p, .int .i64 n, .int .i64 o, .int .i64 v] 23)).alloc (.cells #[.int .i64 0, .slice none 0 0] 57)) (B := w.heap.size) (by simp; omega) 0 (.slice none 0 0)
  refine ⟨below_two.trans (belowNew.mono below_two.size), ((BoxAt.new w p n o v _).below belowNew).below belowNew, ?_, none, 0, ?_, none, 0, rfl, fun h => by simp [ldE] at h⟩
  · have := ownBlock_lt h1 (belowNew (A := .cells #[.int .i64 0, .slice none 0 0] 57))
    simpa using this
  · simpa [ldC, ldE] using h2
structure LdO (w0 w wr : World) (p n o v : Int) (st : Ld) : Prop where
  below : Below w.heap.size w wr
  box : BoxAt wr w.heap.size p n o v
  res : wr.ownsRow w.heap.size 57 2 (.slice (some ⟨w.heap.size + 1, 0, none⟩) 1 1) 1 [.int .i64 0, .slice none 0 0]
  own : ∃ ea ec, wr.ownsRow w.heap.size 57 2 (.slice (some ⟨w.heap.size + 1 + 1, 0, none⟩) 1 1) 1 [.int .i64 (ldC st), .slice ea (ldE st).length ec] ∧ Sl w0 (.slice ea (ldE st).length ec) (ldE st)
theorem LdO.next {w0 w wr w' : World} {p n o v : Int} {st : Ld} (h : LdO w0 w wr p n o v st) (hb : Below wr.heap.size wr w') : LdO w0 w w' p n o v st := by
  obtain ⟨ea, ec, h1, h2⟩ := h.own
  exact ⟨h.below.trans (hb.mono h.below.size), h.box.below hb, ownBlock_lt h.res hb, ea, ec, ownBlock_lt h1 hb, h2⟩
theorem LdO.put {w0 w wr : World} {p n o v : Int} {st : Ld} (h : LdO w0 w wr p n o v st) (i : Nat) (t : Tm) (ea : Option Addr) (ec : Nat) (hs : Sl w0 (.slice ea t.2.length ec) t.2) :
    LdO w0 w ((wr.setCell ⟨w.heap.size + 1 + 1, 0, none⟩ (.int .i64 t.1)).setCell ⟨w.heap.size + 1 + 1, 1, none⟩ (.slice ea t.2.length ec)) p n o v (some (i, t)) := by
  obtain ⟨ea0, ec0, h1, _⟩ := h.own
  have s1 := h1.stored 0 (.int .i64 t.1)
  have s2 := s1.1.stored 1 (.slice ea t.2.length ec)
  have hg := grown_trans s1.2 s2.2
  have hlt := h.box.1
  refine ⟨h.below.trans (grown_below hg (by omega) h.below.size), ?_, h.res.kept hg (Or.inr (by simp [Value.ownBlock])), ea, ec, ?_, hs⟩
  · have far := fun o => cell_far (o := o) hg hlt (show w.heap.size ≠ w.heap.size + 1 + 1 by omega)
    obtain ⟨_, b0, b1, b2, b3⟩ := h.box
    exact ⟨Nat.lt_of_lt_of_le hlt hg.size, by rw [far]; exact b0, by rw [far]; exact b1, by rw [far]; exact b2, by rw [far]; exact b3⟩
  · have := s2.1
    simpa [ldC, ldE] using this

theorem LdO.first (w0 w : World) (p n o v : Int) : LdO w0 w (((w.alloc (.cells #[.int .i64 p, .int .i64 n, .int .i64 o, .int .i64 v] 23)).alloc (.cells #[.int .i64 0, .slice none 0 0] 57)).alloc (.cells #[.int .i64 0, .slice none 0 0] 57)) p n o v none := by
  have h1 := made_term (w := w.alloc (.cells #[.int .i64 p, .int .i64 n, .int .i64 o, .int .i64 v] 23)) (B := w.heap.size) (by simp) 0 (.slice none 0 0)
  have h2 := made_term (w := (w.alloc (.cells #[.int .i64 p, .int .i64 n, .int .i64 o, .int .i64 v] 23)).alloc (.cells #[.int .i64 0, .slice none 0 0] 57)) (B := w.heap.size) (by simp; omega) 0 (.slice none 0 0)
  refine ⟨below_two.trans (belowNew.mono below_two.size), ((BoxAt.new w p n o v _).below belowNew).below belowNew, ?_, none, 0, ?_, none, 0, rfl, fun h => by simp [ldE] at h⟩
  · have := ownBlock_lt h1 (belowNew (A := .cells #[.int .i64 0, .slice none 0 0] 57))
    simpa using this
  · simpa [ldC, ldE] using h2

set_option maxRecDepth 100000 in
set_option maxHeartbeats 4000000 in
theorem leadOf_old (w0 : World) (p n o v : Int) (N : Nat) (x : Value) (fss : List (List Tm)) (w : World) (h0 : Below w0.heap.size w0 w) (hov : v = 1 ∨ v = 2) (ho : o = 1 ∨ o = 2) (hN0 : 0 < N) (hN : N ≤ 3) (hm : fss.length ≤ 1000) (hf : ∀ f ∈ fss, Right p o N f) (pf : Vl w0 x fss) :
    Calls Tryz.prog 33 #[ringV p n o v, x] w fun e w' => ∃ ea ec, e = .returned (.tuple #[.int .i64 (plc (leadF o v fss fss.length)), .agg #[.int .i64 (ldC (leadF o v fss fss.length)), .slice ea (ldE (leadF o v fss fss.length)).length ec]]) ∧ Sl w0 (.slice ea (ldE (leadF o v fss fss.length)).length ec) (ldE (leadF o v fss fss.length)) ∧ Below w.heap.size w w' := by
  have H0 := hid h0
  clear h0
  have HX := hid pf
  have HF := hid hf
  have HO := hid ho
  have HOV := hid hov
  have HL0 := hid (LdO.first w0 w p n o v)
  obtain ⟨ax, cx, rfl, _⟩ := pf
  clear hf ho hov
  go_enter Tryz.func33, Tryz.ntmps33
  go_wp2_with fail
  go_loopw [6, 8] (fun s i wr => ∃ k : Nat, k ≤ fss.length ∧ i = .int .i64 k ∧ s = .int .i64 (plc (leadF o v fss k)) ∧ LdO w0 w wr p n o v (leadF o v fss k)) (fun _ i _ => fss.length - (intOf i).toNat)
  case atStart => exact ⟨0, Nat.zero_le _, rfl, rfl, HL0.out⟩
  case round =>
    clear HL0
    obtain ⟨k, hk, rfl, rfl, hld⟩ := hrel
    have HLD := hid hld
    clear hld
    by_cases hk2 : k < fss.length
    · obtain ⟨b, off, fa, fc, rfl, hlt, c0, hpf⟩ := vl_at HX.out k hk2
      have HST : Hid (leadF o v fss (k + 1) = leadStep o v (leadF o v fss k) k (fss.getD k [])) := rfl
      have HRT := hid (HF.out _ (getD_memL fss k hk2))
      have HSB : Hid (∀ j' u', leadF o v fss k = some (j', u') → j' < k ∧ u'.2.length = N ∧ ∀ x ∈ u'.2, 0 ≤ x ∧ x ≤ 40000) := fun j' u' h => by
        obtain ⟨h1, us, h2⟩ := leadF_at h
        have hr := HF.out _ (getD_memL fss j' (by omega))
        rw [h2] at hr
        exact ⟨h1, hr.canon.len u' (by simp), hr.bd.bd u' (by simp)⟩
      generalize leadF o v fss k = st at HST HSB HLD
      generalize fss.getD k [] = f at c0 hpf HST HRT
      have HPF := hid hpf
      have hfl2 : f.length ≤ 2000 := HRT.out.len
      have HC0 := hid (cell_keep c0 H0.out)
      clear hpf c0
      go_wp2_with fail
      go_loopw [6, 9] (fun s i wm => ∃ m : Nat, m ≤ f.length ∧ i = .int .i64 m ∧ s = .int .i64 (plc (stM o v st k f m)) ∧ LdO w0 w wm p n o v (stM o v st k f m)) (fun _ i _ => f.length - (intOf i).toNat)
      case atStart => exact ⟨0, Nat.zero_le _, rfl, rfl, HLD.out⟩
      case round =>
        clear HLD
        obtain ⟨m, hmm, rfl, rfl, hlm⟩ := hrel
        have HLM := hid hlm
        have d0 := cell_keep HC0.out hlm.below
        by_cases hm2 : m < f.length
        · obtain ⟨fa2, fc2, hfv, _, hat0⟩ := HPF.out
          obtain ⟨b2, off2, hfa, hlt2, hat⟩ := hat0 (by omega)
          simp only [Value.slice.injEq, true_and] at hfv
          obtain ⟨e1, e2⟩ := hfv
          subst e1
          subst e2
          subst hfa
          obtain ⟨t0, ev, t1, hse⟩ := hat m hm2
          have HNO := hid (fun h => stM_none (o := o) (ov := v) (st := st) (i := k) (f := f) hm2 h)
          have HSO := hid (fun j u h => stM_some (o := o) (ov := v) (N := N) (st := st) (i := k) (f := f) (m := m) (j := j) (u := u) HOV.out HRT.out.canon.falls HRT.out.canon.len hm2 (fun j' u' h' => ⟨(HSB.out j' u' h').1, (HSB.out j' u' h').2.1⟩) h)
          have HTE := hid (And.intro (HRT.out.canon.len _ (getD_memT f m hm2)) (HRT.out.bd.bd _ (getD_memT f m hm2)))
          have HUB : Hid (∀ j u, stM o v st k f m = some (j, u) → u.2.length = N ∧ ∀ x ∈ u.2, 0 ≤ x ∧ x ≤ 40000) := fun j u h => by
            unfold stM at h
            split at h
            · exact (HSB.out j u h).2
            · cases f with
              | nil => simp at hm2
              | cons t ts =>
                have ht : t.2.length = N ∧ ∀ x ∈ t.2, 0 ≤ x ∧ x ≤ 40000 := ⟨HRT.out.canon.len t (by simp), HRT.out.bd.bd t (by simp)⟩
                cases hs : st with
                | none =>
                  rw [hs] at h
                  simp only [leadStep, Option.some.injEq, Prod.mk.injEq] at h
                  rw [← h.2]; exact ht
                | some q =>
                  obtain ⟨j0, u0⟩ := q
                  rw [hs] at h
                  simp only [leadStep] at h
                  split at h
                  · simp only [Option.some.injEq, Prod.mk.injEq] at h
                    rw [← h.2]; exact ht
                  · simp only [Option.some.injEq, Prod.mk.injEq] at h
                    rw [← h.2]; exact (HSB.out j0 u0 hs).2
          generalize stM o v st k f m = cur at HNO HSO HUB HLM hlm
          generalize f.getD m noT = t at t0 hse HNO HSO HTE
          have HSE := hid hse
          obtain ⟨ea, ec, rfl, _⟩ := hse
          have k0 := cell_keep (cell_keep t0 H0.out) hlm.below
          have k1 := cell_keep (cell_keep t1 H0.out) hlm.below
          clear hat0 hat t0 t1
          cases cur with
          | none =>
            have HN1 := hid (HNO.out rfl)
            obtain ⟨mm, hm1⟩ : ∃ mm : Int, plc none = mm := ⟨_, rfl⟩
            have hm0 : mm < 0 := by rw [← hm1]; decide
            have hd : decide (mm < 0) = true := decide_eq_true hm0
            rw [hm1]
            clear hm1 hlm
            obtain ⟨ea0, ec0, hown, _⟩ := HLM.out.own
            have z0 : wr.cell? ⟨w.heap.size + 1 + 1, 0, none⟩ = some (.int .i64 (ldC none)) := hown.cellAt 0 (by omega)
            have z1 : wr.cell? ⟨w.heap.size + 1 + 1, 1, none⟩ = some (.slice ea0 (ldE none).length ec0) := hown.cellAt 1 (by omega)
            have y0 := hown.frozenAt 0
            have y1 := hown.frozenAt 1
            clear hown
            go_wp2_with fail
            go_quiet (fail)
            go_wp2_with fail
            go_region
            all_goals
              have HLQ := hid ((HLM.out.next (below_drewN (Below.refl wr.heap.size wr) (nq + 1))).put k t ea ec HSE.out)
              go_wp2_with fail
              go_roundw
              case rel => exact ⟨m + 1, by omega, by go_num, by rw [HN1.out]; rfl, by rw [HN1.out]; exact HLQ.out⟩
              case measure => simp [intOf]; omega
          | some q =>
            obtain ⟨j, u⟩ := q
            have HS1 := hid (HSO.out j u rfl)
            have HU := hid (HUB.out j u rfl)
            obtain ⟨mm, hmj⟩ : ∃ mm : Int, (j : Int) = mm := ⟨_, rfl⟩
            have hm0 : ¬ mm < 0 := by omega
            have hd : decide (mm < 0) = false := decide_eq_false hm0
            rw [plc_some, hmj]
            rw [hmj] at HS1
            have HMJ := hid hmj
            obtain ⟨ea0, ec0, hown, hsu⟩ := HLM.out.own
            have z1 : wr.cell? ⟨w.heap.size + 1 + 1, 1, none⟩ = some (.slice ea0 u.2.length ec0) := hown.cellAt 1 (by omega)
            have HSU : Hid (Sl w0 (.slice ea0 u.2.length ec0) u.2) := hsu
            have HLL : Hid (t.2.length = u.2.length) := HTE.out.1.trans HU.out.1.symm
            have ht0 : 0 < t.2.length := by rw [HTE.out.1]; exact hN0
            have ht3 : t.2.length ≤ 3 := by rw [HTE.out.1]; exact hN
            obtain ⟨_, bx0, bx1, bx2, bx3⟩ := HLM.out.box
            have KEEP : Hid (∀ W, Below wr.heap.size wr W → (Hid (Below wr.heap.size wr W) ∧ W.cell? ⟨w.heap.size, 0, none⟩ = some (.int .i64 p) ∧ W.cell? ⟨w.heap.size, 1, none⟩ = some (.int .i64 n) ∧ W.cell? ⟨w.heap.size, 2, none⟩ = some (.int .i64 o) ∧ W.cell? ⟨w.heap.size, 3, none⟩ = some (.int .i64 v) ∧ W.cell? ⟨b, off + k, none⟩ = some (.slice (some ⟨b2, off2, none⟩) f.length fc) ∧ W.cell? ⟨b2, off2 + m * 2 + 1, none⟩ = some (.slice ea t.2.length ec) ∧ W.cell? ⟨w.heap.size + 1 + 1, 1, none⟩ = some (.slice ea0 u.2.length ec0))) :=
              fun W hb => ⟨hb, cell_keep bx0 hb, cell_keep bx1 hb, cell_keep bx2 hb, cell_keep bx3 hb, cell_keep d0 hb, cell_keep k1 hb, cell_keep z1 hb⟩
            have HK0 := hid k0
            have HK1 := hid k1
            have HD0 := hid d0
            have HB0 : Hid (Below wr.heap.size wr wr.drew) := (Below.refl _ _).drew
            have HBL := hid hlm.below
            clear hmj hown hsu z1 bx0 bx1 bx2 bx3 hlm k0 k1
            cases hb : aheadB o v k t.2 mm u.2
            · rw [hb, if_neg (by simp)] at HS1
              go_wp2_with fail
              go_region_held (fun W => Hid (Below wr.heap.size wr W) ∧ W.cell? ⟨w.heap.size, 0, none⟩ = some (.int .i64 p) ∧ W.cell? ⟨w.heap.size, 1, none⟩ = some (.int .i64 n) ∧ W.cell? ⟨w.heap.size, 2, none⟩ = some (.int .i64 o) ∧ W.cell? ⟨w.heap.size, 3, none⟩ = some (.int .i64 v) ∧ W.cell? ⟨b, off + k, none⟩ = some (.slice (some ⟨b2, off2, none⟩) f.length fc) ∧ W.cell? ⟨b2, off2 + m * 2 + 1, none⟩ = some (.slice ea t.2.length ec) ∧ W.cell? ⟨w.heap.size + 1 + 1, 1, none⟩ = some (.slice ea0 u.2.length ec0))
                (first | exact KEEP.out _ HB0.out | exact KEEP.out _ (HB0.out.trans (hb9.mono HB0.out.size)))
                (first | (go_at_call 71; refine (ahead_any p n o v k mm _ _ t.2 u.2 _ HO.out ht0 ht3 HLL.out HTE.out.2 HU.out.2 ?_ ?_).mono ?_; exact ((HSE.out.below H0.out).below HBL.out).below HB0.out; exact ((HSU.out.below H0.out).below HBL.out).below HB0.out; rw [hb]; rintro e w9 ⟨rfl, hb9⟩))
              have HB9 := hid (show Below wr.heap.size wr w9 from HB0.out.trans (hb9.mono HB0.out.size))
              clear hb9
              go_wp2_with fail
              go_roundw
              case rel => exact ⟨m + 1, by omega, by go_num, by rw [HS1.out, plc_some, HMJ.out], by rw [HS1.out]; exact HLM.out.next HB9.out⟩
              case measure => simp [intOf]; omega
            · rw [hb, if_pos rfl] at HS1
              go_wp2_with fail
              go_region_held (fun W => Hid (Below wr.heap.size wr W) ∧ W.cell? ⟨w.heap.size, 0, none⟩ = some (.int .i64 p) ∧ W.cell? ⟨w.heap.size, 1, none⟩ = some (.int .i64 n) ∧ W.cell? ⟨w.heap.size, 2, none⟩ = some (.int .i64 o) ∧ W.cell? ⟨w.heap.size, 3, none⟩ = some (.int .i64 v) ∧ W.cell? ⟨b, off + k, none⟩ = some (.slice (some ⟨b2, off2, none⟩) f.length fc) ∧ W.cell? ⟨b2, off2 + m * 2 + 1, none⟩ = some (.slice ea t.2.length ec) ∧ W.cell? ⟨w.heap.size + 1 + 1, 1, none⟩ = some (.slice ea0 u.2.length ec0))
                (first | exact KEEP.out _ HB0.out | exact KEEP.out _ (HB0.out.trans (hb9.mono HB0.out.size)))
                (first | (go_at_call 71; refine (ahead_any p n o v k mm _ _ t.2 u.2 _ HO.out ht0 ht3 HLL.out HTE.out.2 HU.out.2 ?_ ?_).mono ?_; exact ((HSE.out.below H0.out).below HBL.out).below HB0.out; exact ((HSU.out.below H0.out).below HBL.out).below HB0.out; rw [hb]; rintro e w9 ⟨rfl, hb9⟩))
              have HB9 := hid (show Below wr.heap.size wr w9 from HB0.out.trans (hb9.mono HB0.out.size))
              clear hb9
              have HL9 := hid (HLM.out.next HB9.out)
              obtain ⟨ea1, ec1, hown, _⟩ := HL9.out.own
              have z0 : w9.cell? ⟨w.heap.size + 1 + 1, 0, none⟩ = some (.int .i64 (ldC (some (j, u)))) := hown.cellAt 0 (by omega)
              have z1 : w9.cell? ⟨w.heap.size + 1 + 1, 1, none⟩ = some (.slice ea1 (ldE (some (j, u))).length ec1) := hown.cellAt 1 (by omega)
              have y0 := hown.frozenAt 0
              have y1 := hown.frozenAt 1
              have k0 := cell_keep HK0.out HB9.out
              have k1 := cell_keep HK1.out HB9.out
              have d0 := cell_keep HD0.out HB9.out
              clear hown
              go_wp2_with fail
              go_region
              all_goals
                have HLQ := hid ((HL9.out.next (Below.refl w9.heap.size w9).drew).put k t ea ec HSE.out)
                go_wp2_with fail
                go_roundw
                case rel => exact ⟨m + 1, by omega, by go_num, by rw [HS1.out]; rfl, by rw [HS1.out]; exact HLQ.out⟩
                case measure => simp [intOf]; omega
        · have e : m = f.length := by omega
          subst e
          have HFIN : Hid (stM o v st k f f.length = leadF o v fss (k + 1)) := by show _ = _; rw [HST.out, stM_all]
          rw [HFIN.out] at HLM ⊢
          clear hlm
          go_wp2_with fail
          go_roundw
          case rel => exact ⟨k + 1, by omega, by go_num, rfl, HLM.out⟩
          case measure => simp [intOf]; omega
    · have e : k = fss.length := by omega
      subst e
      obtain ⟨ea0, ec0, hown, hsl⟩ := HLD.out.own
      have z0 : wr.cell? ⟨w.heap.size + 1 + 1, 0, none⟩ = some (.int .i64 (ldC (leadF o v fss fss.length))) := hown.cellAt 0 (by omega)
      have z1 : wr.cell? ⟨w.heap.size + 1 + 1, 1, none⟩ = some (.slice ea0 (ldE (leadF o v fss fss.length)).length ec0) := hown.cellAt 1 (by omega)
      have r0 : wr.cell? ⟨w.heap.size + 1, 0, none⟩ = some (.int .i64 0) := HLD.out.res.cellAt 0 (by omega)
      have r1 : wr.cell? ⟨w.heap.size + 1, 1, none⟩ = some (.slice none 0 0) := HLD.out.res.cellAt 1 (by omega)
      have q0 := HLD.out.res.frozenAt 0
      have q1 := HLD.out.res.frozenAt 1
      have HSL := hid hsl
      clear hown hsl
      go_wp2_with fail
      go_region
      have s1 := HLD.out.res.stored 0 (.int .i64 (ldC (leadF o v fss fss.length)))
      have s2 := s1.1.stored 1 (.slice ea0 (ldE (leadF o v fss fss.length)).length ec0)
      have HBF := hid (HLD.out.below.trans (grown_below (grown_trans s1.2 s2.2) (by omega) HLD.out.below.size)).drew
      have x0 := s2.1.cellAt 0 (by omega)
      have x1 := s2.1.cellAt 1 (by omega)
      clear s1 s2
      go_wp2
      refine bodyPost_ret (v := .tuple #[.int .i64 (plc (leadF o v fss fss.length)), .agg #[.int .i64 (ldC (leadF o v fss fss.length)), .slice ea0 (ldE (leadF o v fss fss.length)).length ec0]]) (by simp at x0 x1; simp [results, Tryz.results33, go_sem, x0, x1]) rfl ⟨ea0, ec0, rfl, HSL.out, HBF.out⟩
end Go.Proofs.YtilogbggilchaaaGreat
