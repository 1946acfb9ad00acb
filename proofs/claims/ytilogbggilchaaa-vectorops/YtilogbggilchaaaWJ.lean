/- Ahead of the reference. -/
import Derived.Test.YtilogbggilchaaaWI
import Derived.Test.YtilogbggilchaaaOA
namespace Go.Proofs.Ytilogbggilchaaa
set_option linter.unusedSimpArgs false
set_option linter.unusedVariables false
open Go.RowKit
def aheadB (o ov i : Int) (xs : List Int) (k : Int) (ys : List Int) : Bool := if ov = 2 ∧ i ≠ k then decide (i < k) else if sameB xs ys then decide (i < k) else moreB o xs ys

set_option maxRecDepth 100000 in
set_option maxHeartbeats 1000000 in
theorem ahead_any (p n o v i k : Int) (x y : Value) (xs ys : List Int) (w : World) (ho : o = 1 ∨ o = 2) (h0 : 0 < xs.length) (hm : xs.length ≤ 3) (hxy : xs.length = ys.length)
    (hbx : ∀ x ∈ xs, 0 ≤ x ∧ x ≤ 400) (hby : ∀ x ∈ ys, 0 ≤ x ∧ x ≤ 400) (hs : Sl w x xs) (hs2 : Sl w y ys) :
    Calls Try.prog 37 #[ringV p n o v, .int .i64 i, x, .int .i64 k, y] w fun e w' => e = .returned (.bool (aheadB o v i xs k ys)) ∧ Below w.heap.size w w' := by
  have HS := hid hs
  have HS2 := hid hs2
  have HO := hid ho
  have HXY := hid hxy
  have HBB := hid (And.intro hbx hby)
  obtain ⟨xa, xc, rfl, _⟩ := hs
  obtain ⟨ya, yc, rfl, _⟩ := hs2
  clear ho hxy hbx hby
  have HBN : Hid (∀ A, Below w.heap.size w (w.alloc A)) := fun A => below_oneG
  cases hc : ((v == 2) && (i != k))
  · have HE : Hid (aheadB o v i xs k ys = if sameB xs ys then decide (i < k) else moreB o xs ys) := by
      show _ = _
      unfold aheadB
      rw [if_neg]
      intro h
      have : ((v == 2) && (i != k)) = true := by simp [h.1, h.2]
      rw [hc] at this; simp at this
    rw [HE.out]
    have HTAIL : Hid (∀ (b : Bool), sameB xs ys = b → True) := fun _ _ => trivial
    cases hsm : sameB xs ys
    · have HE2 : Hid ((if false = true then decide (i < k) else moreB o xs ys) = moreB o xs ys) := by show _ = _; simp
      rw [HE2.out]
      cases hv : (v == 2)
      · go_enter Try.func37, Try.ntmps37
        go_wp2_with (first
          | (go_at_call 17; refine (sameInts_any _ _ xs ys _ hm (HS.out.below (HBN.out _)) (HS2.out.below (HBN.out _))).mono ?_; rw [hsm]; rintro e w1 ⟨rfl, hd1⟩; have HB1 := hid (below_ndraws (HBN.out _) hd1); have HBX := hid ((BoxAt.new w p n o v 23).below (below_ndraws (Below.refl _ _) hd1)); obtain ⟨_, bx0, bx1, bx2, bx3⟩ := HBX.out; clear hd1)
          | (go_at_call 67; refine (more_any p n o v _ _ xs ys _ HO.out h0 hm HXY.out HBB.out.1 HBB.out.2 (HS.out.below HB1.out) (HS2.out.below HB1.out)).mono ?_; rintro e w2 ⟨rfl, hb2⟩; have HB2 := hid (HB1.out.trans (hb2.mono HB1.out.size)); clear hb2))
        go_ret
        exact ⟨rfl, HB2.out⟩
      · have hik : (i != k) = false := by rw [hv] at hc; simpa using hc
        go_enter Try.func37, Try.ntmps37
        go_wp2_with (first
          | (go_at_call 17; refine (sameInts_any _ _ xs ys _ hm (HS.out.below (HBN.out _)) (HS2.out.below (HBN.out _))).mono ?_; rw [hsm]; rintro e w1 ⟨rfl, hd1⟩; have HB1 := hid (below_ndraws (HBN.out _) hd1); have HBX := hid ((BoxAt.new w p n o v 23).below (below_ndraws (Below.refl _ _) hd1)); obtain ⟨_, bx0, bx1, bx2, bx3⟩ := HBX.out; clear hd1)
          | (go_at_call 67; refine (more_any p n o v _ _ xs ys _ HO.out h0 hm HXY.out HBB.out.1 HBB.out.2 (HS.out.below HB1.out) (HS2.out.below HB1.out)).mono ?_; rintro e w2 ⟨rfl, hb2⟩; have HB2 := hid (HB1.out.trans (hb2.mono HB1.out.size)); clear hb2))
        go_ret
        exact ⟨rfl, HB2.out⟩
    · have HE2 : Hid ((if true = true then decide (i < k) else moreB o xs ys) = decide (i < k)) := by show _ = _; simp
      rw [HE2.out]
      cases hv : (v == 2)
      · go_enter Try.func37, Try.ntmps37
        go_wp2_with (go_at_call 17; refine (sameInts_any _ _ xs ys _ hm (HS.out.below (HBN.out _)) (HS2.out.below (HBN.out _))).mono ?_; rw [hsm]; rintro e w1 ⟨rfl, hd1⟩; have HB1 := hid (below_ndraws (HBN.out _) hd1); clear hd1)
        go_ret
        exact ⟨rfl, HB1.out⟩
      · have hik : (i != k) = false := by rw [hv] at hc; simpa using hc
        go_enter Try.func37, Try.ntmps37
        go_wp2_with (go_at_call 17; refine (sameInts_any _ _ xs ys _ hm (HS.out.below (HBN.out _)) (HS2.out.below (HBN.out _))).mono ?_; rw [hsm]; rintro e w1 ⟨rfl, hd1⟩; have HB1 := hid (below_ndraws (HBN.out _) hd1); clear hd1)
        go_ret
        exact ⟨rfl, HB1.out⟩
  · have hv : (v == 2) = true := by cases h : (v == 2) <;> simp_all
    have hik : (i != k) = true := by cases h : (i != k) <;> simp_all
    have HE : Hid (aheadB o v i xs k ys = decide (i < k)) := by
      show _ = _
      unfold aheadB
      rw [if_pos ⟨by simpa using hv, by simpa using hik⟩]
    rw [HE.out]
    clear hc
    go_enter Try.func37, Try.ntmps37
    go_wp2_with fail
    go_ret
    exact ⟨rfl, HBN.out _⟩
def ldC : Ld → Int
  | none => 0
  | some (_, u) => u.1
def ldE : Ld → List Int
  | none => []
  | some (_, u) => u.2
def stM (o ov : Int) (st : Ld) (i : Nat) (f : List Tm) (m : Nat) : Ld := if m = 0 then st else leadStep o ov st i f
theorem stM_zero (o ov : Int) (st : Ld) (i : Nat) (f : List Tm) : stM o ov st i f 0 = st := rfl
theorem stM_all (o ov : Int) (st : Ld) (i : Nat) (f : List Tm) : stM o ov st i f f.length = leadStep o ov st i f := by
  unfold stM
  cases f with
  | nil => simp [leadStep]
  | cons t ts => rw [if_neg (by simp)]
theorem stM_none {o ov : Int} {st : Ld} {i : Nat} {f : List Tm} {m : Nat} (hm : m < f.length) (h : stM o ov st i f m = none) : stM o ov st i f (m + 1) = some (i, f.getD m noT) := by
  cases f with
  | nil => simp at hm
  | cons t ts =>
    rcases m with _ | m
    · rw [stM_zero] at h
      subst h
      simp [stM, leadStep]
    · unfold stM at h
      rw [if_neg (by omega)] at h
      simp only [leadStep] at h
      split at h
      · simp at h
      · split at h <;> simp at h
theorem stM_some {o ov : Int} {N : Nat} {st : Ld} {i : Nat} {f : List Tm} {m j : Nat} {u : Tm} (hov : ov = 1 ∨ ov = 2) (hf : Falls o f) (hl : Len N f) (hm : m < f.length) (hst : ∀ j' u', st = some (j', u') → j' < i ∧ u'.2.length = N) (h : stM o ov st i f m = some (j, u)) :
    stM o ov st i f (m + 1) = if aheadB o ov i (f.getD m noT).2 j u.2 then some (i, f.getD m noT) else some (j, u) := by
  cases f with
  | nil => simp at hm
  | cons t ts =>
    rcases m with _ | m
    · rw [stM_zero] at h
      subst h
      obtain ⟨hj, hu⟩ := hst j u rfl
      have htl : t.2.length = u.2.length := by rw [hl t (by simp), hu]
      have hl2 : stM o ov (some (j, u)) i (t :: ts) 1 = if ov = 1 ∧ 0 < ordS o t.2 u.2 then some (i, t) else some (j, u) := by unfold stM; rw [if_neg (by omega)]; rfl
      have hg : (t :: ts).getD 0 noT = t := rfl
      rw [hl2, hg]
      unfold aheadB
      rcases hov with rfl | rfl
      · rw [if_neg (show ¬ ((1 : Int) = 2 ∧ (i : Int) ≠ j) by omega)]
        by_cases he : t.2 = u.2
        · have hz : ordS o t.2 u.2 = 0 := (ordS_zero o t.2 u.2 htl).2 he
          rw [if_neg (by rw [hz]; omega), if_pos (show sameB t.2 u.2 = true from decide_eq_true he), decide_eq_false (show ¬ (i : Int) < j by omega)]; simp
        · rw [if_neg (show ¬ sameB t.2 u.2 = true by unfold sameB; simpa using he)]
          unfold moreB
          by_cases hp : 0 < ordS o t.2 u.2
          · rw [if_pos ⟨rfl, hp⟩, decide_eq_true hp]; rfl
          · rw [if_neg (fun h => hp h.2), decide_eq_false hp]; rfl
      · rw [if_neg (show ¬ ((2 : Int) = 1 ∧ 0 < ordS o t.2 u.2) by omega), if_pos (show (2 : Int) = 2 ∧ (i : Int) ≠ j by omega), decide_eq_false (show ¬ (i : Int) < j by omega)]; simp
    · have h1 : stM o ov st i (t :: ts) (m + 1 + 1) = some (j, u) := by
        unfold stM at h ⊢
        rw [if_neg (by omega)] at h ⊢
        exact h
      rw [h1]
      have hm2 : m < ts.length := by simpa using hm
      have hg : (t :: ts).getD (m + 1) noT = ts.getD m noT := rfl
      rw [hg]
      have hmem : ts.getD m noT ∈ ts := getD_memT ts m hm2
      have hlt := hf.1 _ hmem
      have hxl : (ts.getD m noT).2.length = N := hl _ (List.mem_cons_of_mem _ hmem)
      have htN : t.2.length = N := hl t (by simp)
      generalize ts.getD m noT = x at hlt hxl
      have hanti : ¬ 0 < ordS o x.2 t.2 := by rw [ordS_neg]; omega
      have hne : x.2 ≠ t.2 := by
        intro e
        have := (ordS_zero o t.2 x.2 (by omega)).2 e.symm
        omega
      have hb : aheadB o ov i x.2 j u.2 = false := by
        unfold stM at h
        rw [if_neg (by omega)] at h
        simp only [leadStep] at h
        have key : ∀ {j' : Nat} {u' : Tm}, j' = i ∧ u' = t → aheadB o ov i x.2 j' u'.2 = false := by
          rintro j' u' ⟨rfl, rfl⟩
          unfold aheadB
          rw [if_neg (fun h => h.2 rfl), if_neg (show ¬ sameB x.2 u'.2 = true by unfold sameB; simpa using hne)]
          unfold moreB
          exact decide_eq_false hanti
        split at h
        · simp only [Option.some.injEq, Prod.mk.injEq] at h
          exact key ⟨h.1.symm, h.2.symm⟩
        · rename_i j0 u0
          split at h
          · simp only [Option.some.injEq, Prod.mk.injEq] at h
            exact key ⟨h.1.symm, h.2.symm⟩
          · rename_i hno
            simp only [Option.some.injEq, Prod.mk.injEq] at h
            obtain ⟨rfl, rfl⟩ := h
            obtain ⟨hj, hu⟩ := hst j0 u0 rfl
            unfold aheadB
            rcases hov with rfl | rfl
            · rw [if_neg (show ¬ ((1 : Int) = 2 ∧ (i : Int) ≠ j0) by omega)]
              split
              · exact decide_eq_false (by omega)
              · unfold moreB
                refine decide_eq_false (fun hp => hno ⟨rfl, ordS_trans o t.2 x.2 u0.2 (by omega) (by omega) hlt hp⟩)
            · rw [if_pos (show (2 : Int) = 2 ∧ (i : Int) ≠ j0 by omega)]
              exact decide_eq_false (by omega)
      rw [hb]; simp

structure LdW (w wr : World) (p n o v : Int) (st : Ld) : Prop where
  below : Below w.heap.size w wr
  box : BoxAt wr w.heap.size p n o v
  res : wr.ownsRow w.heap.size 34 2 (.slice (some ⟨w.heap.size + 1, 0, none⟩) 1 1) 1 [.int .i64 0, .slice none 0 0]
  own : ∃ ea ec, wr.ownsRow w.heap.size 34 2 (.slice (some ⟨w.heap.size + 1 + 1, 0, none⟩) 1 1) 1 [.int .i64 (ldC st), .slice ea (ldE st).length ec] ∧ Sl w (.slice ea (ldE st).length ec) (ldE st)
theorem LdW.next {w wr w' : World} {p n o v : Int} {st : Ld} (h : LdW w wr p n o v st) (hb : Below wr.heap.size wr w') : LdW w w' p n o v st := by
  obtain ⟨ea, ec, h1, h2⟩ := h.own
  exact ⟨h.below.trans (hb.mono h.below.size), h.box.below hb, ownBlock_lt h.res hb, ea, ec, ownBlock_lt h1 hb, h2⟩
theorem LdW.put {w wr : World} {p n o v : Int} {st : Ld} (h : LdW w wr p n o v st) (i : Nat) (t : Tm) (ea : Option Addr) (ec : Nat) (hs : Sl w (.slice ea t.2.length ec) t.2) :
    LdW w ((wr.setCell ⟨w.heap.size + 1 + 1, 0, none⟩ (.int .i64 t.1)).setCell ⟨w.heap.size + 1 + 1, 1, none⟩ (.slice ea t.2.length ec)) p n o v (some (i, t)) := by
  obtain ⟨ea0, ec0, h1, _⟩ := h.own
  have s1 := h1.stored 0 (.int .i64 t.1)
  have s2 := s1.1.stored 1 (.slice ea t.2.length ec)
  have hg := grown_trans s1.2 s2.2
  have hlt := h.box.1
  refine ⟨h.below.trans (grown_below hg (by omega) h.below.size), ?_, h.res.kept hg (Or.inr (by simp [Value.ownBlock])), ea, ec, ?_, hs⟩
  · have far := fun o => cell_far (o := o) hg hlt (show w.heap.size ≠ w.heap.size + 1 + 1 by omega)
    obtain ⟨_, b0, b1, b2, b3⟩ := h.box
    exact ⟨Nat.lt_of_lt_of_le hlt hg.size, by rw [far]; exact b0, by rw [far]; exact b1, by rw [far]; exact b2, by rw [far]; exact b3⟩
  · have := s2.1
    simpa [ldC, ldE] using this
theorem LdW.first (w : World) (p n o v : Int) : LdW w (((w.alloc (.cells #[.int .i64 p, .int .i64 n, .int .i64 o, .int .i64 v] 23)).alloc (.cells #[.int .i64 0, .slice none 0 0] 34)).alloc (.cells #[.int .i64 0, .slice none 0 0] 34)) p n o v none := by
  have h1 := made_term (w := w.alloc (.cells #[.int .i64 p, .int .i64 n, .int .i64 o, .int .i64 v] 23)) (B := w.heap.size) (by simp) 0 (.slice none 0 0)
  have h2 := made_term (w := (w.alloc (.cells #[.int .i64 p, .int .i64 n, .int .i64 o, .int .i64 v] 23)).alloc (.cells #[.int .i64 0, .slice none 0 0] 34)) (B := w.heap.size) (by simp; omega) 0 (.slice none 0 0)
  refine ⟨below_two.trans (belowNew.mono below_two.size), ((BoxAt.new w p n o v _).below belowNew).below belowNew, ?_, none, 0, ?_, none, 0, rfl, fun h => by simp [ldE] at h⟩
  · have := ownBlock_lt h1 (belowNew (A := .cells #[.int .i64 0, .slice none 0 0] 34))
    simpa using this
  · simpa [ldC, ldE] using h2
end Go.Proofs.Ytilogbggilchaaa
