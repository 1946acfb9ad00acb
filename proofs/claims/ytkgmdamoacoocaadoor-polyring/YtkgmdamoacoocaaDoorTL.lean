/- checkTerms, falls, checkAll (of commit a6c30ce). -/
import Derived.Test.YtkgmdamoacoocaaDoorPN
namespace Go.Proofs.YtkgmdamoacoocaaDoor
set_option linter.unusedSimpArgs false
set_option linter.unusedVariables false
open Go.RowKit

def errT (p n : Int) : List Tm → Int
  | [] => 0
  | t :: ts => if t.1 < 1 ∨ p ≤ t.1 then 3 else if errM n t.2 ≠ 0 then errM n t.2 else errT p n ts
def fallsB (o : Int) : List Tm → Bool
  | t :: u :: ts => moreB o t.2 u.2 && fallsB o (u :: ts)
  | _ => true
theorem errT_drop (p n : Int) (ts : List Tm) (k : Nat) (h : k < ts.length) : errT p n (ts.drop k) = if (ts.getD k noT).1 < 1 ∨ p ≤ (ts.getD k noT).1 then 3 else if errM n (ts.getD k noT).2 ≠ 0 then errM n (ts.getD k noT).2 else errT p n (ts.drop (k + 1)) := by
  rw [List.drop_eq_getElem_cons h]
  have e : ts.getD k noT = ts[k] := by simp [List.getD_eq_getElem?_getD, h]
  rw [e]; rfl
theorem fallsB_drop (o : Int) (ts : List Tm) (k : Nat) (h : k + 1 < ts.length) : fallsB o (ts.drop k) = (moreB o (ts.getD k noT).2 (ts.getD (k + 1) noT).2 && fallsB o (ts.drop (k + 1))) := by
  rw [List.drop_eq_getElem_cons (show k < ts.length by omega), List.drop_eq_getElem_cons h]
  have e : ts.getD k noT = ts[k] := by simp [List.getD_eq_getElem?_getD, show k < ts.length by omega]
  have e2 : ts.getD (k + 1) noT = ts[k + 1] := by simp [List.getD_eq_getElem?_getD, h]
  rw [e, e2]; rfl
theorem fallsB_end (o : Int) (ts : List Tm) (k : Nat) (h : ts.length ≤ k + 1) : fallsB o (ts.drop k) = true := by
  by_cases hk : k < ts.length
  · rw [List.drop_eq_getElem_cons hk, List.drop_eq_nil_of_le (by omega)]; rfl
  · rw [List.drop_eq_nil_of_le (by omega)]; rfl
theorem from_iff {p n o : Int} : ∀ (ts : List Tm) (q : Option (List Int)), errFrom p n o q ts = 0 ↔ errT p n ts = 0 ∧ (∀ t ts', ts = t :: ts' → okPrev o q t.2 = true) ∧ fallsB o ts = true
  | [], q => by simp [errFrom, errT, fallsB]
  | t :: ts, q => by
    have hu : errFrom p n o q (t :: ts) = if betweenB t.1 1 (p - 1) = false then 3 else if errM n t.2 ≠ 0 then errM n t.2 else if okPrev o q t.2 = false then 4 else errFrom p n o (some t.2) ts := rfl
    have hv : errT p n (t :: ts) = if t.1 < 1 ∨ p ≤ t.1 then 3 else if errM n t.2 ≠ 0 then errM n t.2 else errT p n ts := rfl
    have hb : betweenB t.1 1 (p - 1) = false ↔ (t.1 < 1 ∨ p ≤ t.1) := by
      have e : betweenB t.1 1 (p - 1) = decide (1 ≤ t.1 ∧ t.1 ≤ p - 1) := by simp [betweenB]
      rw [e, decide_eq_false_iff_not]; omega
    rw [hu, hv]
    by_cases h1 : t.1 < 1 ∨ p ≤ t.1
    · rw [if_pos (hb.2 h1), if_pos h1]; simp
    · rw [if_neg (fun h => h1 (hb.1 h)), if_neg h1]
      by_cases h2 : errM n t.2 ≠ 0
      · rw [if_pos h2, if_pos h2]
        exact ⟨fun h => absurd h h2, fun h => absurd h.1 h2⟩
      · rw [if_neg h2, if_neg h2]
        have ih := from_iff ts (some t.2) (p := p) (n := n) (o := o)
        have hf : fallsB o (t :: ts) = true ↔ (∀ u us, ts = u :: us → moreB o t.2 u.2 = true) ∧ fallsB o ts = true := by
          cases ts with
          | nil => simp [fallsB]
          | cons u us => simp [fallsB]
        cases h3 : okPrev o q t.2
        · rw [if_pos rfl]
          refine ⟨fun h => by omega, fun h => ?_⟩
          have := h.2.1 t ts rfl
          rw [h3] at this; simp at this
        · rw [if_neg (by simp), ih, hf]
          constructor
          · rintro ⟨a, b, c⟩
            exact ⟨a, fun t' ts' e => by simp only [List.cons.injEq] at e; obtain ⟨rfl, _⟩ := e; exact h3, fun u us e => b u us e, c⟩
          · rintro ⟨a, _, b, c⟩
            exact ⟨a, fun u us e => b u us e, c⟩
def errCT (p n o v : Int) (ts : List Tm) : Int := if errR p n o v ≠ 0 then errR p n o v else if 2000 < ts.length then 2 else errT p n ts
def errCur (p n o v : Int) (ts : List Tm) : Int := if errCT p n o v ts ≠ 0 then errCT p n o v ts else if fallsB o ts = false then 4 else 0
theorem cur_iff {p n o v : Int} {ts : List Tm} : errCur p n o v ts = 0 ↔ errR p n o v = 0 ∧ errOne p n o ts = 0 := by
  unfold errCur errCT errOne
  by_cases h1 : errR p n o v = 0
  · rw [if_neg (show ¬ errR p n o v ≠ 0 by simpa using h1)]
    by_cases h2 : 2000 < ts.length
    · rw [if_pos h2, if_pos h2]; simp
    · rw [if_neg h2, if_neg h2, from_iff]
      by_cases h3 : errT p n ts = 0
      · rw [if_neg (by simpa using h3)]
        cases h4 : fallsB o ts
        · simp
        · simp [h1, h3, okPrev]
      · rw [if_pos h3]
        exact ⟨fun h => absurd h h3, fun h => absurd h.2.1 h3⟩
  · rw [if_pos (show errR p n o v ≠ 0 from h1), if_pos (show errR p n o v ≠ 0 from h1)]
    exact ⟨fun h => absurd h h1, fun h => absurd h.1 h1⟩
def cur (p n o v : Int) : List (List Tm) → Int
  | [] => 0
  | f :: r => if errCur p n o v f ≠ 0 then errCur p n o v f else cur p n o v r
theorem cur_drop (p n o v : Int) (fss : List (List Tm)) (k : Nat) (h : k < fss.length) : cur p n o v (fss.drop k) = if errCur p n o v (fss.getD k []) ≠ 0 then errCur p n o v (fss.getD k []) else cur p n o v (fss.drop (k + 1)) := by
  rw [List.drop_eq_getElem_cons h]
  simp [cur, List.getD_eq_getElem?_getD, h]

set_option maxRecDepth 100000 in
set_option maxHeartbeats 2000000 in
theorem checkTerms_any (p n o v : Int) (lv : Value) (ts : List Tm) (w : World) (pf : Pl w lv ts) :
    Calls Tryd.prog 34 #[ringV p n o v, .int .i64 1, lv] w fun e w' => e = .returned (.int .i64 (errCT p n o v ts)) ∧ Below w.heap.size w w' := by
  obtain ⟨a, c, rfl, _, hfc⟩ := pf
  have HFC := hid hfc
  clear hfc
  cases hR : (errR p n o v != 0)
  · have hR0 : errR p n o v = 0 := by simpa using hR
    obtain ⟨hpr, hn1, hn2, ho, _⟩ := ring_ok hR0
    obtain ⟨hp1, hp2⟩ := errP_bd hpr
    have HR := hid hR0
    clear hR0 hpr ho
    by_cases hlen : 2000 < ts.length
    · have he : errCT p n o v ts = 2 := by unfold errCT; rw [if_neg (by simpa using HR.out), if_pos hlen]
      rw [he]; clear he
      go_enter Tryd.func34, Tryd.ntmps34
      go_wp2_with (go_at_call 59; refine (ring_any _ _ _ _ _).mono ?_; rintro e w1 ⟨rfl, hb1⟩)
      go_ret
      exact ⟨rfl, below_oneG.trans (hb1.mono (by simp))⟩
    · have he : errCT p n o v ts = errT p n ts := by unfold errCT; rw [if_neg (by simpa using HR.out), if_neg hlen]
      rw [he]; clear he
      go_enter Tryd.func34, Tryd.ntmps34
      go_wp2_with (go_at_call 59; refine (ring_any _ _ _ _ _).mono ?_; rintro e w1 ⟨rfl, hb1⟩)
      have HB1 := hid (show Below w.heap.size w w1 from below_oneG.trans (hb1.mono (by simp)))
      have HBX := hid ((BoxAt.new w p n o v _).below hb1)
      clear hb1
      go_loopw [21] (fun i wr => ∃ k : Nat, k ≤ ts.length ∧ i = .int .i64 k ∧ errT p n ts = errT p n (ts.drop k) ∧ Below w1.heap.size w1 wr) (fun i _ => ts.length - (intOf i).toNat)
      case atStart => exact ⟨0, Nat.zero_le _, rfl, by simp, Below.refl _ _⟩
      case round =>
        obtain ⟨k, hk, rfl, herr, hbr⟩ := hrel
        have HBR := hid hbr
        clear hbr
        by_cases hk2 : k < ts.length
        · obtain ⟨b, off, rfl, hlt, hat⟩ := HFC.out (by omega)
          obtain ⟨c0, ev, c1, hse⟩ := hat k hk2
          have HER := hid (herr.trans (errT_drop p n ts k hk2))
          have HDN := hid (HB1.out.trans (HBR.out.mono HB1.out.size))
          generalize ts.getD k noT = t at c0 hse HER
          obtain ⟨tc, te⟩ := t
          have HSE := hid (hse.below HDN.out)
          obtain ⟨ea, ec, rfl, _⟩ := hse
          simp only at c0 c1
          have d0 := cell_keep c0 HDN.out
          have d1 := cell_keep c1 HDN.out
          obtain ⟨_, bx0, bx1, bx2, bx3⟩ := HBX.out.below HBR.out
          have hbn : ∀ A, Below wr.heap.size wr (wr.alloc A) := fun A => belowNew
          have HBN := hid hbn
          have y0 := fun A => cell_keep bx0 (hbn A)
          have y1 := fun A => cell_keep bx1 (hbn A)
          have y2 := fun A => cell_keep bx2 (hbn A)
          have y3 := fun A => cell_keep bx3 (hbn A)
          have hall : errAll p n o v [te] = errM n te := by
            unfold errAll; rw [if_pos HR.out]; simp only [firstErr]
            split
            · rename_i h; exact h.symm
            · rfl
          have HALL := hid hall
          clear herr hat c0 c1 bx0 bx1 bx2 bx3 hbn hall
          by_cases h1 : tc < 1
          · go_wp2
            go_ret
            exact ⟨ret_int (by rw [HER.out, if_pos (Or.inl h1)]), HB1.out.trans ((HBR.out.trans ((HBN.out _).mono HBR.out.size)).mono HB1.out.size)⟩
          · by_cases h2 : p ≤ tc
            · go_wp2
              go_ret
              exact ⟨ret_int (by rw [HER.out, if_pos (Or.inr h2)]), HB1.out.trans ((HBR.out.trans ((HBN.out _).mono HBR.out.size)).mono HB1.out.size)⟩
            · have HNO : Hid (¬ (tc < 1 ∨ p ≤ tc)) := by show ¬ _; omega
              cases h3 : (errM n te != 0)
              · go_wp2_with (go_at_call 60; refine (monoCheck_any p n o v _ te _ (HSE.out.below (HBN.out _))).mono ?_; rw [HALL.out]; rintro e w2 ⟨rfl, hb2⟩; have HB2 := hid (show Below w1.heap.size w1 w2 from (HBR.out.trans ((HBN.out _).mono HBR.out.size)).trans (hb2.mono (HBR.out.trans ((HBN.out _).mono HBR.out.size)).size)); clear hb2)
                go_roundw
                case rel => exact ⟨k + 1, by omega, by go_num, by rw [HER.out, if_neg HNO.out, if_neg (by simpa using h3)], HB2.out⟩
                case measure => simp [intOf]; omega
              · go_wp2_with (go_at_call 60; refine (monoCheck_any p n o v _ te _ (HSE.out.below (HBN.out _))).mono ?_; rw [HALL.out]; rintro e w2 ⟨rfl, hb2⟩; have HB2 := hid (show Below w1.heap.size w1 w2 from (HBR.out.trans ((HBN.out _).mono HBR.out.size)).trans (hb2.mono (HBR.out.trans ((HBN.out _).mono HBR.out.size)).size)); clear hb2)
                go_ret
                exact ⟨ret_int (by rw [HER.out, if_neg HNO.out, if_pos (by simpa using h3)]), HB1.out.trans (HB2.out.mono HB1.out.size)⟩
        · go_wp2
          go_ret
          exact ⟨ret_int (by rw [herr, List.drop_eq_nil_of_le (by omega)]; rfl), HB1.out.trans (HBR.out.mono HB1.out.size)⟩
  · have he : errCT p n o v ts = errR p n o v := by unfold errCT; rw [if_pos (by simpa using hR)]
    rw [he]; clear he
    go_enter Tryd.func34, Tryd.ntmps34
    go_wp2_with (go_at_call 59; refine (ring_any _ _ _ _ _).mono ?_; rintro e w1 ⟨rfl, hb1⟩)
    go_ret
    exact ⟨rfl, below_oneG.trans (hb1.mono (by simp))⟩

end Go.Proofs.YtkgmdamoacoocaaDoor
