/- checkTerms, checkAll: what they tell. -/
import Derived.Test.YtilogbggilchaaaDoorTL
namespace Go.Proofs.YtilogbggilchaaaDoor
set_option linter.unusedSimpArgs false
set_option linter.unusedVariables false
open Go.RowKit
def errTs (p n o v : Int) (len : Nat) (E : Nat → Int) : Int := if errR p n o v ≠ 0 then errR p n o v else if 2000 < len then 2 else firstN E len 0
theorem firstN_skip (E : Nat → Int) (m : Nat) : ∀ k, k ≤ m → (∀ j, j < k → E j = 0) → firstN E m 0 = firstN E (m - k) k
  | 0, _, _ => rfl
  | k + 1, hk, h => by
    rw [firstN_skip E m k (by omega) (fun j hj => h j (by omega)), firstN_at E (show k < m by omega), if_neg (by simpa using h k (by omega))]
theorem firstN_all {E : Nat → Int} {m : Nat} (h : ∀ j, j < m → E j = 0) : firstN E m 0 = 0 := by
  rw [firstN_skip E m m (Nat.le_refl _) h, Nat.sub_self]; rfl
theorem firstN_hit {E : Nat → Int} {m k : Nat} (hk : k < m) (h : ∀ j, j < k → E j = 0) (h2 : E k ≠ 0) : firstN E m 0 = E k := by
  rw [firstN_skip E m k (by omega) h, firstN_at E hk, if_pos h2]

set_option maxRecDepth 100000 in
set_option maxHeartbeats 2000000 in
theorem checkTermsA_any (p n o v : Int) (lv : Value) (ts : List Tm) (rb fb : Nat) (E : Nat → Int) (w : World) (pf : Pl w lv ts)
    (H : errR p n o v = 0 → ts.length ≤ 2000 → ∀ i w', i < ts.length → (∀ j, j < i → E j = 0) → Below w.heap.size w w' → Calls Tryd.prog 52 #[.int .i64 i, .pointer (some ⟨rb, 0, none⟩), .pointer (some ⟨fb, 0, none⟩)] w' fun e w'' => e = .returned (.int .i64 (E i)) ∧ Below w'.heap.size w' w'') :
    Calls Tryd.prog 34 #[ringV p n o v, lv, .func (.func 52) #[] #[.pointer (some ⟨rb, 0, none⟩), .pointer (some ⟨fb, 0, none⟩)]] w fun e w' => e = .returned (.int .i64 (errTs p n o v ts.length E)) ∧ Below w.heap.size w w' := by
  obtain ⟨a, c, rfl, _, _⟩ := pf
  have HH := hid H
  clear H
  cases hR : (errR p n o v != 0)
  · have hR0 : errR p n o v = 0 := by simpa using hR
    have HR := hid hR0
    clear hR0
    by_cases hlen : 2000 < ts.length
    · have he : errTs p n o v ts.length E = 2 := by unfold errTs; rw [if_neg (by simpa using HR.out), if_pos hlen]
      rw [he]; clear he
      go_enter Tryd.func34, Tryd.ntmps34
      go_wp2_with (go_at_call 62; refine (ring_any _ _ _ _ _).mono ?_; rintro e w1 ⟨rfl, hb1⟩)
      go_ret
      exact ⟨rfl, below_oneG.trans (hb1.mono (by simp))⟩
    · have he : errTs p n o v ts.length E = firstN E ts.length 0 := by unfold errTs; rw [if_neg (by simpa using HR.out), if_neg hlen]
      rw [he]; clear he
      go_enter Tryd.func34, Tryd.ntmps34
      go_wp2_with (go_at_call 62; refine (ring_any _ _ _ _ _).mono ?_; rintro e w1 ⟨rfl, hb1⟩)
      have HB1 := hid (show Below w.heap.size w w1 from below_oneG.trans (hb1.mono (by simp)))
      clear hb1
      go_loopw [20] (fun i wr => ∃ k : Nat, k ≤ ts.length ∧ i = .int .i64 k ∧ (∀ j, j < k → E j = 0) ∧ Below w1.heap.size w1 wr) (fun i _ => ts.length - (intOf i).toNat)
      case atStart => exact ⟨0, Nat.zero_le _, rfl, fun j hj => by omega, Below.refl _ _⟩
      case round =>
        obtain ⟨k, hk, rfl, hz, hbr⟩ := hrel
        have HZ := hid hz
        have HDN := hid (HB1.out.trans (hbr.mono HB1.out.size))
        have HBR := hid hbr
        clear hz hbr
        by_cases hk2 : k < ts.length
        · have HC := hid (HH.out HR.out (by omega) k wr hk2 HZ.out HDN.out)
          have HHIT := hid (fun h => firstN_hit (E := E) hk2 HZ.out h)
          cases he : (E k != 0)
          · have HE0 : Hid (E k = 0) := by simpa [Hid] using he
            go_wp2_with (go_at_call 52; refine HC.out.mono ?_; rintro e w2 ⟨rfl, hb2⟩; have HB2 := hid (HBR.out.trans (hb2.mono HBR.out.size)); clear hb2)
            go_roundw
            case rel => exact ⟨k + 1, by omega, by go_num, fun j hj => by
              rcases Nat.lt_or_ge j k with h | h
              · exact HZ.out j h
              · rw [show j = k by omega]; exact HE0.out, HB2.out⟩
            case measure => simp [intOf]; omega
          · go_wp2_with (go_at_call 52; refine HC.out.mono ?_; rintro e w2 ⟨rfl, hb2⟩; have HB2 := hid (HBR.out.trans (hb2.mono HBR.out.size)); clear hb2)
            go_ret
            exact ⟨ret_int (HHIT.out (by simpa using he)).symm, HB1.out.trans (HB2.out.mono HB1.out.size)⟩
        · go_wp2
          go_ret
          exact ⟨ret_int (firstN_all (fun j hj => HZ.out j (by omega))).symm, HB1.out.trans (HBR.out.mono HB1.out.size)⟩
  · have he : errTs p n o v ts.length E = errR p n o v := by unfold errTs; rw [if_pos (by simpa using hR)]
    rw [he]; clear he
    go_enter Tryd.func34, Tryd.ntmps34
    go_wp2_with (go_at_call 62; refine (ring_any _ _ _ _ _).mono ?_; rintro e w1 ⟨rfl, hb1⟩)
    go_ret
    exact ⟨rfl, below_oneG.trans (hb1.mono (by simp))⟩

set_option maxRecDepth 100000 in
set_option maxHeartbeats 1000000 in
theorem allFn_any (p n o v : Int) (k rb fb : Nat) (fv : Value) (ts : List Tm) (w : World) (hR : errR p n o v = 0) (hk2 : k < ts.length) (hlen : ts.length ≤ 2000) (hq : ∀ j, j < k → errM n (ts.getD j noT).2 = 0) (bx : BoxAt w rb p n o v) (hc : w.cell? ⟨fb, 0, none⟩ = some fv) (pf : Pl w fv ts) :
    Calls Tryd.prog 52 #[.int .i64 k, .pointer (some ⟨rb, 0, none⟩), .pointer (some ⟨fb, 0, none⟩)] w fun e w' => e = .returned (.int .i64 (errAt p n o ts k)) ∧ Below w.heap.size w w' := by
  have HP := hid pf
  have HC := hid (fun W (h : Pl W fv ts) => checkFalling_any p n o v fv ts k W hR hk2 hlen hq h)
  obtain ⟨_, bx0, bx1, bx2, bx3⟩ := bx
  obtain ⟨a, c, rfl, _, _⟩ := pf
  clear hR hq
  go_enter Tryd.func52, Tryd.ntmps52
  go_wp2_with (go_at_call 53; refine (HC.out _ HP.out).mono ?_; rintro e w1 ⟨rfl, hb1⟩; have HB := hid hb1; clear hb1)
  go_ret
  exact ⟨rfl, HB.out⟩

def errCur (p n o v : Int) (ts : List Tm) : Int := if errR p n o v ≠ 0 then errR p n o v else errOne p n o ts
theorem errTs_cur (p n o v : Int) (ts : List Tm) : errTs p n o v ts.length (errAt p n o ts) = errCur p n o v ts := by
  unfold errTs errCur errOne
  rw [firstN_from ts ts.length 0 (by omega)]
  rfl
def cur (p n o v : Int) : List (List Tm) → Int
  | [] => 0
  | f :: r => if errCur p n o v f ≠ 0 then errCur p n o v f else cur p n o v r
theorem cur_drop (p n o v : Int) (fss : List (List Tm)) (k : Nat) (h : k < fss.length) : cur p n o v (fss.drop k) = if errCur p n o v (fss.getD k []) ≠ 0 then errCur p n o v (fss.getD k []) else cur p n o v (fss.drop (k + 1)) := by
  rw [List.drop_eq_getElem_cons h]
  simp [cur, List.getD_eq_getElem?_getD, h]
theorem cur_iff {p n o v : Int} {ts : List Tm} : errCur p n o v ts = 0 ↔ errR p n o v = 0 ∧ errOne p n o ts = 0 := by
  unfold errCur
  by_cases h1 : errR p n o v = 0
  · rw [if_neg (by simpa using h1)]; simp [h1]
  · rw [if_pos h1]; simp [h1]

set_option maxRecDepth 100000 in
set_option maxHeartbeats 2000000 in
theorem curAll_any (p n o v : Int) (lv : Value) (fss : List (List Tm)) (w : World) (hm : fss.length ≤ 4000000) (hs : Vl w lv fss) :
    Calls Tryd.prog 23 #[ringV p n o v, lv] w fun e w' => e = .returned (.int .i64 (cur p n o v fss)) ∧ Below w.heap.size w w' := by
  have HS := hid hs
  obtain ⟨la, lc, rfl, hat0⟩ := hs
  have HAT := hid hat0
  obtain ⟨w1, hw1⟩ : ∃ w1, w1 = w.alloc (.cells #[.int .i64 p, .int .i64 n, .int .i64 o, .int .i64 v] 23) := ⟨_, rfl⟩
  have hbx : BoxAt w1 w.heap.size p n o v := by rw [hw1]; exact BoxAt.new w p n o v _
  have hbw : Below w.heap.size w w1 := by rw [hw1]; exact below_oneG
  have HBX := hid hbx
  have HBW := hid hbw
  clear hat0 hbx hbw
  go_enter Tryd.func23, Tryd.ntmps23
  go_wp2_with fail
  rw [← hw1]
  clear hw1
  go_loopw [10] (fun i wr => ∃ k : Nat, k ≤ fss.length ∧ i = .int .i64 k ∧ cur p n o v fss = cur p n o v (fss.drop k) ∧ Below w1.heap.size w1 wr) (fun i _ => fss.length - (intOf i).toNat)
  case atStart => exact ⟨0, Nat.zero_le _, rfl, by simp, Below.refl _ _⟩
  case round =>
    obtain ⟨k, hk, rfl, hcur, hbr⟩ := hrel
    have HBR := hid hbr
    clear hbr
    by_cases hk2 : k < fss.length
    · obtain ⟨b, off, rfl, hlt, hat⟩ := HAT.out (by omega)
      obtain ⟨vv, hcell, hsl⟩ := hat k hk2
      have HER := hid (hcur.trans (cur_drop p n o v fss k hk2))
      have HDN := hid (HBW.out.trans (HBR.out.mono HBW.out.size))
      have d0 := cell_keep hcell HDN.out
      generalize fss.getD k [] = f at hsl HER
      have HSL := hid (hsl.below HDN.out)
      obtain ⟨fa, fc, rfl, _, _⟩ := hsl
      have HBX2 := hid (HBX.out.below HBR.out)
      obtain ⟨_, bx0, bx1, bx2, bx3⟩ := HBX.out.below HBR.out
      clear hcur hat hcell
      have HBN : Hid (∀ A, Below wr.heap.size wr (wr.alloc A)) := fun A => belowNew
      have y0 := fun A => cell_keep bx0 (HBN.out A)
      have y1 := fun A => cell_keep bx1 (HBN.out A)
      have y2 := fun A => cell_keep bx2 (HBN.out A)
      have y3 := fun A => cell_keep bx3 (HBN.out A)
      obtain ⟨w2, hw2⟩ : ∃ w2, w2 = wr.alloc (.cells #[.slice fa f.length fc] 25) := ⟨_, rfl⟩
      have HB2 : Hid (Below wr.heap.size wr w2) := by rw [hw2]; exact HBN.out _
      have HCF : Hid (w2.cell? ⟨wr.heap.size, 0, none⟩ = some (.slice fa f.length fc)) := by show _ = _; rw [hw2]; simp [go_sem]
      have HCT := hid (checkTermsA_any p n o v _ f w.heap.size wr.heap.size (errAt p n o f) w2 (HSL.out.below HB2.out) (fun hr hl i w' hi hj hb => allFn_any p n o v i w.heap.size wr.heap.size _ f w' hr hi hl (fun j hjj => errAt_ok (hj j hjj)) ((HBX2.out.below HB2.out).below hb) (cell_keep HCF.out hb) ((HSL.out.below HB2.out).below hb)))
      rw [errTs_cur] at HCT
      cases hz : (errCur p n o v f != 0)
      · go_wp2_with fail
        try rw [← hw2]
        refine HCT.out.mono ?_
        rintro e w3 ⟨rfl, hb3⟩
        have HB3 := hid (HBR.out.trans ((HB2.out.trans (hb3.mono HB2.out.size)).mono HBR.out.size))
        clear hb3
        go_wp2_with fail
        go_roundw
        case rel => exact ⟨k + 1, Nat.succ_le_of_lt hk2, by go_num, by rw [HER.out, if_neg (by simpa using hz)], HB3.out⟩
        case measure => simp [intOf]; omega
      · go_wp2_with fail
        try rw [← hw2]
        refine HCT.out.mono ?_
        rintro e w3 ⟨rfl, hb3⟩
        have HB3 := hid (HBR.out.trans ((HB2.out.trans (hb3.mono HB2.out.size)).mono HBR.out.size))
        clear hb3
        go_wp2_with fail
        go_ret
        exact ⟨ret_int (by rw [HER.out, if_pos (by simpa using hz)]), HBW.out.trans (HB3.out.mono HBW.out.size)⟩
    · go_wp2
      go_ret
      exact ⟨ret_int (by rw [hcur, List.drop_eq_nil_of_le (by omega)]; rfl), HBW.out.trans (HBR.out.mono HBW.out.size)⟩

theorem cur_ok {p n o v : Int} : ∀ {fss : List (List Tm)}, cur p n o v fss = 0 → ∀ f ∈ fss, errCur p n o v f = 0
  | [], _, f, hf => by simp at hf
  | g :: r, h, f, hf => by
    unfold cur at h
    by_cases hg : errCur p n o v g = 0
    · rw [if_neg (by simpa using hg)] at h
      rcases List.mem_cons.1 hf with rfl | hf
      · exact hg
      · exact cur_ok h f hf
    · rw [if_pos hg] at h; exact absurd h hg
theorem cur_mk {p n o v : Int} : ∀ {fss : List (List Tm)}, (∀ f ∈ fss, errCur p n o v f = 0) → cur p n o v fss = 0
  | [], _ => rfl
  | g :: r, h => by
    unfold cur
    rw [if_neg (by simpa using h g (by simp))]
    exact cur_mk (fun f hf => h f (by simp [hf]))
theorem tells (p n o v : Int) : Tells p n o v (cur p n o v) := by
  refine ⟨fun fss lv w hm hs => curAll_any p n o v lv fss w hm hs, fun fss hne h => ?_, fun hr fss h => cur_mk (fun f hf => cur_iff.2 ⟨hr, h f hf⟩)⟩
  have hall := cur_ok h
  cases fss with
  | nil => exact absurd rfl hne
  | cons g r => exact ⟨(cur_iff.1 (hall g (by simp))).1, fun f hf => (cur_iff.1 (hall f hf)).2⟩
theorem cur_eq {p n o v : Int} : ∀ {fss : List (List Tm)}, fss ≠ [] → cur p n o v fss = errPolys p n o v fss
  | [], h => absurd rfl h
  | f :: r, _ => by
    unfold errPolys
    by_cases hr : errR p n o v = 0
    · rw [if_pos hr]
      have key : ∀ l : List (List Tm), cur p n o v l = firstOne p n o l := by
        intro l
        induction l with
        | nil => rfl
        | cons g l ih =>
          have e : errCur p n o v g = errOne p n o g := by unfold errCur; rw [if_neg (by simpa using hr)]
          unfold cur firstOne
          rw [e, ih]
          by_cases h : errOne p n o g = 0
          · rw [if_neg (by simpa using h), if_pos h]
          · rw [if_pos h, if_neg h]
      exact key _
    · rw [if_neg hr]
      have e : errCur p n o v f = errR p n o v := by unfold errCur; rw [if_pos hr]
      unfold cur
      rw [e, if_pos hr]

set_option maxRecDepth 100000 in
set_option maxHeartbeats 2000000 in
theorem checkTermsO_any (p n o v : Int) (lv : Value) (ts : List Tm) (rb fb : Nat) (E : Nat → Int) (w : World) (pf : Pl w lv ts)
    (H : errR p n o v = 0 → ts.length ≤ 2000 → ∀ i w', i < ts.length → (∀ j, j < i → E j = 0) → Below w.heap.size w w' → Calls Tryd.prog 35 #[.int .i64 i, .pointer (some ⟨rb, 0, none⟩), .pointer (some ⟨fb, 0, none⟩)] w' fun e w'' => e = .returned (.int .i64 (E i)) ∧ Below w'.heap.size w' w'') :
    Calls Tryd.prog 34 #[ringV p n o v, lv, .func (.func 35) #[] #[.pointer (some ⟨rb, 0, none⟩), .pointer (some ⟨fb, 0, none⟩)]] w fun e w' => e = .returned (.int .i64 (errTs p n o v ts.length E)) ∧ Below w.heap.size w w' := by
  obtain ⟨a, c, rfl, _, _⟩ := pf
  have HH := hid H
  clear H
  cases hR : (errR p n o v != 0)
  · have hR0 : errR p n o v = 0 := by simpa using hR
    have HR := hid hR0
    clear hR0
    by_cases hlen : 2000 < ts.length
    · have he : errTs p n o v ts.length E = 2 := by unfold errTs; rw [if_neg (by simpa using HR.out), if_pos hlen]
      rw [he]; clear he
      go_enter Tryd.func34, Tryd.ntmps34
      go_wp2_with (go_at_call 62; refine (ring_any _ _ _ _ _).mono ?_; rintro e w1 ⟨rfl, hb1⟩)
      go_ret
      exact ⟨rfl, below_oneG.trans (hb1.mono (by simp))⟩
    · have he : errTs p n o v ts.length E = firstN E ts.length 0 := by unfold errTs; rw [if_neg (by simpa using HR.out), if_neg hlen]
      rw [he]; clear he
      go_enter Tryd.func34, Tryd.ntmps34
      go_wp2_with (go_at_call 62; refine (ring_any _ _ _ _ _).mono ?_; rintro e w1 ⟨rfl, hb1⟩)
      have HB1 := hid (show Below w.heap.size w w1 from below_oneG.trans (hb1.mono (by simp)))
      clear hb1
      go_loopw [20] (fun i wr => ∃ k : Nat, k ≤ ts.length ∧ i = .int .i64 k ∧ (∀ j, j < k → E j = 0) ∧ Below w1.heap.size w1 wr) (fun i _ => ts.length - (intOf i).toNat)
      case atStart => exact ⟨0, Nat.zero_le _, rfl, fun j hj => by omega, Below.refl _ _⟩
      case round =>
        obtain ⟨k, hk, rfl, hz, hbr⟩ := hrel
        have HZ := hid hz
        have HDN := hid (HB1.out.trans (hbr.mono HB1.out.size))
        have HBR := hid hbr
        clear hz hbr
        by_cases hk2 : k < ts.length
        · have HC := hid (HH.out HR.out (by omega) k wr hk2 HZ.out HDN.out)
          have HHIT := hid (fun h => firstN_hit (E := E) hk2 HZ.out h)
          cases he : (E k != 0)
          · have HE0 : Hid (E k = 0) := by simpa [Hid] using he
            go_wp2_with (go_at_call 35; refine HC.out.mono ?_; rintro e w2 ⟨rfl, hb2⟩; have HB2 := hid (HBR.out.trans (hb2.mono HBR.out.size)); clear hb2)
            go_roundw
            case rel => exact ⟨k + 1, by omega, by go_num, fun j hj => by
              rcases Nat.lt_or_ge j k with h | h
              · exact HZ.out j h
              · rw [show j = k by omega]; exact HE0.out, HB2.out⟩
            case measure => simp [intOf]; omega
          · go_wp2_with (go_at_call 35; refine HC.out.mono ?_; rintro e w2 ⟨rfl, hb2⟩; have HB2 := hid (HBR.out.trans (hb2.mono HBR.out.size)); clear hb2)
            go_ret
            exact ⟨ret_int (HHIT.out (by simpa using he)).symm, HB1.out.trans (HB2.out.mono HB1.out.size)⟩
        · go_wp2
          go_ret
          exact ⟨ret_int (firstN_all (fun j hj => HZ.out j (by omega))).symm, HB1.out.trans (HBR.out.mono HB1.out.size)⟩
  · have he : errTs p n o v ts.length E = errR p n o v := by unfold errTs; rw [if_pos (by simpa using hR)]
    rw [he]; clear he
    go_enter Tryd.func34, Tryd.ntmps34
    go_wp2_with (go_at_call 62; refine (ring_any _ _ _ _ _).mono ?_; rintro e w1 ⟨rfl, hb1⟩)
    go_ret
    exact ⟨rfl, below_oneG.trans (hb1.mono (by simp))⟩

set_option maxRecDepth 100000 in
set_option maxHeartbeats 1000000 in
theorem ofFn_any (p n o v : Int) (k rb fb : Nat) (fv : Value) (ts : List Tm) (w : World) (hR : errR p n o v = 0) (hk2 : k < ts.length) (bx : BoxAt w rb p n o v) (hc : w.cell? ⟨fb, 0, none⟩ = some fv) (pf : Pl w fv ts) :
    Calls Tryd.prog 35 #[.int .i64 k, .pointer (some ⟨rb, 0, none⟩), .pointer (some ⟨fb, 0, none⟩)] w fun e w' => e = .returned (.int .i64 (errTm 0 p n (ts.getD k noT))) ∧ Below w.heap.size w w' := by
  obtain ⟨_, bx0, bx1, bx2, bx3⟩ := bx
  obtain ⟨a, c, rfl, _, hfc⟩ := pf
  obtain ⟨b, off, rfl, hlt, hat⟩ := hfc (by omega)
  obtain ⟨c0, ev, c1, hse⟩ := hat k hk2
  generalize ts.getD k noT = t at c0 hse
  obtain ⟨tc, te⟩ := t
  have HSE := hid hse
  obtain ⟨ea, ec, rfl, _⟩ := hse
  simp only at c0 c1
  have HR := hid hR
  have HB0 : Hid (Below w.heap.size w w.drew) := (Below.refl _ _).drew
  clear hR hat hfc
  have KEEP : Hid (∀ W, Below w.heap.size w W → (Hid (Below w.heap.size w W) ∧ W.cell? ⟨rb, 0, none⟩ = some (.int .i64 p) ∧ W.cell? ⟨rb, 1, none⟩ = some (.int .i64 n) ∧ W.cell? ⟨rb, 2, none⟩ = some (.int .i64 o) ∧ W.cell? ⟨rb, 3, none⟩ = some (.int .i64 v) ∧ W.cell? ⟨fb, 0, none⟩ = some (.slice (some ⟨b, off, none⟩) ts.length c) ∧ W.cell? ⟨b, off + k * 2, none⟩ = some (.int .i64 tc) ∧ W.cell? ⟨b, off + k * 2 + 1, none⟩ = some (.slice ea te.length ec))) :=
    fun W hb => ⟨hb, cell_keep bx0 hb, cell_keep bx1 hb, cell_keep bx2 hb, cell_keep bx3 hb, cell_keep hc hb, cell_keep c0 hb, cell_keep c1 hb⟩
  clear bx0 bx1 bx2 bx3 hc c0 c1
  go_enter Tryd.func35, Tryd.ntmps35
  go_wp2_with fail
  go_region_held (fun W => Hid (Below w.heap.size w W) ∧ W.cell? ⟨rb, 0, none⟩ = some (.int .i64 p) ∧ W.cell? ⟨rb, 1, none⟩ = some (.int .i64 n) ∧ W.cell? ⟨rb, 2, none⟩ = some (.int .i64 o) ∧ W.cell? ⟨rb, 3, none⟩ = some (.int .i64 v) ∧ W.cell? ⟨fb, 0, none⟩ = some (.slice (some ⟨b, off, none⟩) ts.length c) ∧ W.cell? ⟨b, off + k * 2, none⟩ = some (.int .i64 tc) ∧ W.cell? ⟨b, off + k * 2 + 1, none⟩ = some (.slice ea te.length ec))
    (first | exact KEEP.out _ HB0.out | exact KEEP.out _ (HB0.out.trans (hb9.mono HB0.out.size)))
    (first | (go_at_call 36; refine (checkTerm_any p n o v 0 tc _ te _ HR.out ?_).mono ?_; exact HSE.out.below HB0.out; rintro e w9 ⟨rfl, hb9⟩))
  have HB9 := hid (show Below w.heap.size w w9 from HB0.out.trans (hb9.mono HB0.out.size))
  clear hb9
  go_wp2
  go_ret
  exact ⟨rfl, HB9.out⟩
end Go.Proofs.YtilogbggilchaaaDoor
