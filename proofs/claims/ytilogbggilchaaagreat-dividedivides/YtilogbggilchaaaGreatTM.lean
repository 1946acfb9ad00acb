/- checkTerms, checkAll: what they tell. -/
import Derived.Test.YtilogbggilchaaaGreatPM
import Derived.Test.YtilogbggilchaaaGreatRE
import Derived.Test.YtilogbggilchaaaGreatWB
import Derived.Test.YtilogbggilchaaaGreatFN
namespace Go.Proofs.YtilogbggilchaaaGreat
set_option linter.unusedSimpArgs false
set_option linter.unusedVariables false
open Go.RowKit
def errTs (p n o v : Int) (len : Nat) (E : Nat → Int) : Int := if errR p n o v ≠ 0 then errR p n o v else if 2000 < len then 2 else firstN E len 0
theorem firstN_skip (E : Nat → Int) (m : Nat) : ∀ k, k ≤ m → (∀ j, j < k → E j = 0) → firstN E m 0 = firstN E (m - k) k
  | 0, _, _ => rfl
  | k + 1, hk, h => by
    rw [firstN_skip E m k (by omega) (fun j hj => h j (by omega)), firstN_at E (show k < m by omega), if_neg (by simpa using h k (by omega))]
theorem firstN_all {E : Nat → Int} {m : Nat} (h : ∀ j, j < m → E j = 0) : firstN E m 0 = 0 := by
  rw [firstN_skip E m m (Nat.le_refl _) h, Nat.sub_self]; rfl
theorem firstN_hit {E : Nat → Int} {m k : Nat} (hk : k < m) (h : ∀ j, j < k → E j = 0) (h2 : E k ≠ 0) : firstN E m 0 = E k := by
  rw [firstN_skip E m k (by omega) h, firstN_at E hk, if_pos h2]

set_option maxRecDepth 100000 in
set_option maxHeartbeats 2000000 in
theorem checkTermsA_any (p n o v : Int) (lv : Value) (ts : List Tm) (rb fb : Nat) (E : Nat → Int) (w : World) (pf : Pl w lv ts)
    (H : errR p n o v = 0 → ts.length ≤ 2000 → ∀ i w', i < ts.length → (∀ j, j < i → E j = 0) → Below w.heap.size w w' → Calls Tryz.prog 119 #[.int .i64 i, .pointer (some ⟨rb, 0, none⟩), .pointer (some ⟨fb, 0, none⟩)] w' fun e w'' => e = .returned (.int .i64 (E i)) ∧ Below w'.heap.size w' w'') :
    Calls Tryz.prog 118 #[ringV p n o v, lv, .func (.func 119) #[] #[.pointer (some ⟨rb, 0, none⟩), .pointer (some ⟨fb, 0, none⟩)]] w fun e w' => e = .returned (.int .i64 (errTs p n o v ts.length E)) ∧ Below w.heap.size w w' := by
  obtain ⟨a, c, rfl, _, _⟩ := pf
  have HH := hid H
  clear H
  cases hR : (errR p n o v != 0)
  · have hR0 : errR p n o v = 0 := by simpa using hR
    have HR := hid hR0
    clear hR0
    by_cases hlen : 2000 < ts.length
    · have he : errTs p n o v ts.length E = 2 := by unfold errTs; rw [if_neg (by simpa using HR.out), if_pos hlen]
      rw [he]; clear he
      go_enter Tryz.func118, Tryz.ntmps118
      go_wp2_with (go_at_call 84; refine (ring_any _ _ _ _ _).mono ?_; rintro e w1 ⟨rfl, hb1⟩)
      go_ret
      exact ⟨rfl, below_oneG.trans (hb1.mono (by simp))⟩
    · have he : errTs p n o v ts.length E = firstN E ts.length 0 := by unfold errTs; rw [if_neg (by simpa using HR.out), if_neg hlen]
      rw [he]; clear he
      go_enter Tryz.func118, Tryz.ntmps118
      go_wp2_with (go_at_call 84; refine (ring_any _ _ _ _ _).mono ?_; rintro e w1 ⟨rfl, hb1⟩)
      have HB1 := hid (show Below w.heap.size w w1 from below_oneG.trans (hb1.mono (by simp)))
      clear hb1
      go_loopw [20] (fun i wr => ∃ k : Nat, k ≤ ts.length ∧ i = .int .i64 k ∧ (∀ j, j < k → E j = 0) ∧ Below w1.heap.size w1 wr) (fun i _ => ts.length - (intOf i).toNat)
      case atStart => exact ⟨0, Nat.zero_le _, rfl, fun j hj => by omega, Below.refl _ _⟩
      case round =>
        obtain ⟨k, hk, rfl, hz, hbr⟩ := hrel
        have HZ := hid hz
        have HDN := hid (HB1.out.trans (hbr.mono HB1.out.size))
        have HBR := hid hbr
        clear hz hbr
        by_cases hk2 : k < ts.length
        · have HC := hid (HH.out HR.out (by omega) k wr hk2 HZ.out HDN.out)
          have HHIT := hid (fun h => firstN_hit (E := E) hk2 HZ.out h)
          cases he : (E k != 0)
          · have HE0 : Hid (E k = 0) := by simpa [Hid] using he
            go_wp2_with (go_at_call 119; refine HC.out.mono ?_; rintro e w2 ⟨rfl, hb2⟩; have HB2 := hid (HBR.out.trans (hb2.mono HBR.out.size)); clear hb2)
            go_roundw
            case rel => exact ⟨k + 1, by omega, by go_num, fun j hj => by
              rcases Nat.lt_or_ge j k with h | h
              · exact HZ.out j h
              · rw [show j = k by omega]; exact HE0.out, HB2.out⟩
            case measure => simp [intOf]; omega
          · go_wp2_with (go_at_call 119; refine HC.out.mono ?_; rintro e w2 ⟨rfl, hb2⟩; have HB2 := hid (HBR.out.trans (hb2.mono HBR.out.size)); clear hb2)
            go_ret
            exact ⟨ret_int (HHIT.out (by simpa using he)).symm, HB1.out.trans (HB2.out.mono HB1.out.size)⟩
        · go_wp2
          go_ret
          exact ⟨ret_int (firstN_all (fun j hj => HZ.out j (by omega))).symm, HB1.out.trans (HBR.out.mono HB1.out.size)⟩
  · have he : errTs p n o v ts.length E = errR p n o v := by unfold errTs; rw [if_pos (by simpa using hR)]
    rw [he]; clear he
    go_enter Tryz.func118, Tryz.ntmps118
    go_wp2_with (go_at_call 84; refine (ring_any _ _ _ _ _).mono ?_; rintro e w1 ⟨rfl, hb1⟩)
    go_ret
    exact ⟨rfl, below_oneG.trans (hb1.mono (by simp))⟩

set_option maxRecDepth 100000 in
set_option maxHeartbeats 1000000 in
theorem allFn_any (p n o v : Int) (k rb fb : Nat) (fv : Value) (ts : List Tm) (w : World) (hR : errR p n o v = 0) (hk2 : k < ts.length) (hlen : ts.length ≤ 2000) (hq : ∀ j, j < k → errM n (ts.getD j noT).2 = 0) (bx : BoxAt w rb p n o v) (hc : w.cell? ⟨fb, 0, none⟩ = some fv) (pf : Pl w fv ts) :
    Calls Tryz.prog 119 #[.int .i64 k, .pointer (some ⟨rb, 0, none⟩), .pointer (some ⟨fb, 0, none⟩)] w fun e w' => e = .returned (.int .i64 (errAt p n o ts k)) ∧ Below w.heap.size w w' := by
  have HP := hid pf
  have HC := hid (fun W (h : Pl W fv ts) => checkFalling_any p n o v fv ts k W hR hk2 hlen hq h)
  obtain ⟨_, bx0, bx1, bx2, bx3⟩ := bx
  obtain ⟨a, c, rfl, _, _⟩ := pf
  clear hR hq
  go_enter Tryz.func119, Tryz.ntmps119
  go_wp2_with (go_at_call 120; refine (HC.out _ HP.out).mono ?_; rintro e w1 ⟨rfl, hb1⟩; have HB := hid hb1; clear hb1)
  go_ret
  exact ⟨rfl, HB.out⟩

def errCur (p n o v : Int) (ts : List Tm) : Int := if errR p n o v ≠ 0 then errR p n o v else errOne p n o ts
theorem errTs_cur (p n o v : Int) (ts : List Tm) : errTs p n o v ts.length (errAt p n o ts) = errCur p n o v ts := by
  unfold errTs errCur errOne
  rw [firstN_from ts ts.length 0 (by omega)]
  rfl
def cur (p n o v : Int) : List (List Tm) → Int
  | [] => 0
  | f :: r => if errCur p n o v f ≠ 0 then errCur p n o v f else cur p n o v r
theorem cur_drop (p n o v : Int) (fss : List (List Tm)) (k : Nat) (h : k < fss.length) : cur p n o v (fss.drop k) = if errCur p n o v (fss.getD k []) ≠ 0 then errCur p n o v (fss.getD k []) else cur p n o v (fss.drop (k + 1)) := by
  rw [List.drop_eq_getElem_cons h]
  simp [cur, List.getD_eq_getElem?_getD, h]
theorem cur_iff {p n o v : Int} {ts : List Tm} : errCur p n o v ts = 0 ↔ errR p n o v = 0 ∧ errOne p n o ts = 0 := by
  unfold errCur
  by_cases h1 : errR p n o v = 0
  · rw [if_neg (by simpa using h1)]; simp [h1]
  · rw [if_pos h1]; simp [h1]

set_option maxRecDepth 100000 in
set_option maxHeartbeats 2000000 in
theorem curAll_any (p n o v : Int) (lv : Value) (fss : List (List Tm)) (w : World) (hm : fss.length ≤ 1200000000000) (hs : Vl w lv fss) :
    Calls Tryz.prog 92 #[ringV p n o v, lv] w fun e w' => e = .returned (.int .i64 (cur p n o v fss)) ∧ Below w.heap.size w w' := by
  have HS := hid hs
  obtain ⟨la, lc, rfl, hat0⟩ := hs
  have HAT := hid hat0
  obtain ⟨w1, hw1⟩ : ∃ w1, w1 = w.alloc (.cells #[.int .i64 p, .int .i64 n, .int .i64 o, .int .i64 v] 23) := ⟨_, rfl⟩
  have hbx : BoxAt w1 w.heap.size p n o v := by rw [hw1]; exact BoxAt.new w p n o v _
  have hbw : Below w.heap.size w w1 := by rw [hw1]; exact below_oneG
  have HBX := hid hbx
  have HBW := hid hbw
  clear hat0 hbx hbw
  go_enter Tryz.func92, Tryz.ntmps92
  go_wp2_with fail
  rw [← hw1]
  clear hw1
  go_loopw [10] (fun i wr => ∃ k : Nat, k ≤ fss.length ∧ i = .int .i64 k ∧ cur p n o v fss = cur p n o v (fss.drop k) ∧ Below w1.heap.size w1 wr) (fun i _ => fss.length - (intOf i).toNat)
  case atStart => exact ⟨0, Nat.zero_le _, rfl, by simp, Below.refl _ _⟩
  case round =>
    obtain ⟨k, hk, rfl, hcur, hbr⟩ := hrel
    have HBR := hid hbr
    clear hbr
    by_cases hk2 : k < fss.length
    · obtain ⟨b, off, rfl, hlt, hat⟩ := HAT.out (by omega)
      obtain ⟨vv, hcell, hsl⟩ := hat k hk2
      have HER := hid (hcur.trans (cur_drop p n o v fss k hk2))
      have HDN := hid (HBW.out.trans (HBR.out.mono HBW.out.size))
      have d0 := cell_keep hcell HDN.out
      generalize fss.getD k [] = f at hsl HER
      have HSL := hid (hsl.below HDN.out)
      obtain ⟨fa, fc, rfl, _, _⟩ := hsl
      have HBX2 := hid (HBX.out.below HBR.out)
      obtain ⟨_, bx0, bx1, bx2, bx3⟩ := HBX.out.below HBR.out
      clear hcur hat hcell
      have HBN : Hid (∀ A, Below wr.heap.size wr (wr.alloc A)) := fun A => belowNew
      have y0 := fun A => cell_keep bx0 (HBN.out A)
      have y1 := fun A => cell_keep bx1 (HBN.out A)
      have y2 := fun A => cell_keep bx2 (HBN.out A)
      have y3 := fun A => cell_keep bx3 (HBN.out A)
      obtain ⟨w2, hw2⟩ : ∃ w2, w2 = wr.alloc (.cells #[.slice fa f.length fc] 54) := ⟨_, rfl⟩
      have HB2 : Hid (Below wr.heap.size wr w2) := by rw [hw2]; exact HBN.out _
      have HCF : Hid (w2.cell? ⟨wr.heap.size, 0, none⟩ = some (.slice fa f.length fc)) := by show _ = _; rw [hw2]; simp [go_sem]
      have HCT := hid (checkTermsA_any p n o v _ f w.heap.size wr.heap.size (errAt p n o f) w2 (HSL.out.below HB2.out) (fun hr hl i w' hi hj hb => allFn_any p n o v i w.heap.size wr.heap.size _ f w' hr hi hl (fun j hjj => errAt_ok (hj j hjj)) ((HBX2.out.below HB2.out).below hb) (cell_keep HCF.out hb) ((HSL.out.below HB2.out).below hb)))
      rw [errTs_cur] at HCT
      cases hz : (errCur p n o v f != 0)
      · go_wp2_with fail
        try rw [← hw2]
        refine HCT.out.mono ?_
        rintro e w3 ⟨rfl, hb3⟩
        have HB3 := hid (HBR.out.trans ((HB2.out.trans (hb3.mono HB2.out.size)).mono HBR.out.size))
        clear hb3
        go_wp2_with fail
        go_roundw
        case rel => exact ⟨k + 1, Nat.succ_le_of_lt hk2, by go_num, by rw [HER.out, if_neg (by simpa using hz)], HB3.out⟩
        case measure => simp [intOf]; omega
      · go_wp2_with fail
        try rw [← hw2]
        refine HCT.out.mono ?_
        rintro e w3 ⟨rfl, hb3⟩
        have HB3 := hid (HBR.out.trans ((HB2.out.trans (hb3.mono HB2.out.size)).mono HBR.out.size))
        clear hb3
        go_wp2_with fail
        go_ret
        exact ⟨ret_int (by rw [HER.out, if_pos (by simpa using hz)]), HBW.out.trans (HB3.out.mono HBW.out.size)⟩
    · go_wp2
      go_ret
      exact ⟨ret_int (by rw [hcur, List.drop_eq_nil_of_le (by omega)]; rfl), HBW.out.trans (HBR.out.mono HBW.out.size)⟩

theorem cur_ok {p n o v : Int} : ∀ {fss : List (List Tm)}, cur p n o v fss = 0 → ∀ f ∈ fss, errCur p n o v f = 0
  | [], _, f, hf => by simp at hf
  | g :: r, h, f, hf => by
    unfold cur at h
    by_cases hg : errCur p n o v g = 0
    · rw [if_neg (by simpa using hg)] at h
      rcases List.mem_cons.1 hf with rfl | hf
      · exact hg
      · exact cur_ok h f hf
    · rw [if_pos hg] at h; exact absurd h hg
theorem cur_mk {p n o v : Int} : ∀ {fss : List (List Tm)}, (∀ f ∈ fss, errCur p n o v f = 0) → cur p n o v fss = 0
  | [], _ => rfl
  | g :: r, h => by
    unfold cur
    rw [if_neg (by simpa using h g (by simp))]
    exact cur_mk (fun f hf => h f (by simp [hf]))
theorem tells (p n o v : Int) : Tells p n o v (cur p n o v) := by
  refine ⟨fun fss lv w hm hs => curAll_any p n o v lv fss w hm hs, fun fss hne h => ?_, fun hr fss h => cur_mk (fun f hf => cur_iff.2 ⟨hr, h f hf⟩)⟩
  have hall := cur_ok h
  cases fss with
  | nil => exact absurd rfl hne
  | cons g r => exact ⟨(cur_iff.1 (hall g (by simp))).1, fun f hf => (cur_iff.1 (hall f hf)).2⟩
theorem slk_full {w : World} {B g n : Nat} {T : TypeId} {xs : List Value} (h : w.ownsRow B T 1 (.slice (some ⟨g, 0, none⟩) n n) n xs) (hs : ∀ u ∈ xs, ∃ a n c, u = .slice a n c) : SlK w g := by
  rcases h.2 with ⟨h1, _⟩ | ⟨g', cap, cur, h1, hb, hg, hn, hm, hcs, ht⟩
  · simp at h1
  · simp only [Value.slice.injEq, Option.some.injEq, Addr.mk.injEq, and_true, true_and] at h1
    obtain ⟨rfl, rfl⟩ := h1
    refine slk_row hg (fun u hu => hs u ?_)
    rw [← ht, List.take_of_length_le (by rw [Array.length_toList, hcs]; exact Nat.le_refl _)]
    exact hu
structure VHalf (w wr : World) (g n : Nat) (us : List Value) (fss : List (List Tm)) : Prop where
  own : ∃ rest, wr.ownsRow w.heap.size 54 1 (.slice (some ⟨g, 0, none⟩) n n) n (us ++ rest) ∧ (us ++ rest).length = n ∧ ∀ u ∈ us ++ rest, ∃ a n c, u = .slice a n c
  len : us.length = fss.length
  pls : ∀ i, i < fss.length → Pl wr (us.getD i nilV) (fss.getD i [])
  below : Below w.heap.size w wr
  ge : w.heap.size ≤ g
theorem VHalf.next {w wr w' : World} {g n : Nat} {us : List Value} {fss : List (List Tm)} (h : VHalf w wr g n us fss) (hb : Below wr.heap.size wr w') : VHalf w w' g n us fss := by
  obtain ⟨rest, h1, h2, h3⟩ := h.own
  exact ⟨⟨rest, ownBlock_lt h1 hb, h2, h3⟩, h.len, fun i hi => (h.pls i hi).below hb, h.below.trans (hb.mono h.below.size), h.ge⟩
theorem VHalf.cells {w wr : World} {g n : Nat} {us : List Value} {fss : List (List Tm)} (h : VHalf w wr g n us fss) (hk : us.length < n) :
    ∃ a, wr.cell? ⟨g, us.length, none⟩ = some a ∧ wr.frozen? ⟨g, us.length, none⟩ = false := by
  obtain ⟨rest, h1, h2, _⟩ := h.own
  have e1 := h1.cellAt us.length (by omega)
  rw [List.getElem?_eq_getElem (by omega)] at e1
  exact ⟨_, e1, h1.frozenAt _⟩
theorem set_one (l : List Value) (a : Value) : ∀ r : List Value, 1 ≤ r.length → (l ++ r).set l.length a = l ++ [a] ++ r.drop 1
  | [], h => by simp at h
  | x :: r, _ => by simp [List.set_append_right]
theorem VHalf.put {w wr : World} {g n : Nat} {us : List Value} {fss : List (List Tm)} (h : VHalf w wr g n us fss) (hk : us.length < n) (u : Value) (f : List Tm) (hu : Pl wr u f) :
    VHalf w (wr.setCell ⟨g, us.length, none⟩ u) g n (us ++ [u]) (fss ++ [f]) := by
  obtain ⟨rest, h1, h2, h3⟩ := h.own
  have s1 := h1.stored us.length u
  have hk2 := slk_full h1 h3
  have hus : ∃ a n c, u = .slice a n c := by obtain ⟨a, c, e, _⟩ := hu; exact ⟨_, _, _, e⟩
  rw [List.length_append] at h2
  have e := set_one us u rest (by omega)
  refine ⟨⟨rest.drop 1, by rw [← e]; exact s1.1, by rw [List.length_append, List.length_append, List.length_drop]; simp; omega, fun x hx => ?_⟩, by simp [h.len], fun i hi => ?_, h.below.trans (grown_below s1.2 h.ge h.below.size), h.ge⟩
  · rcases List.mem_append.1 hx with hx | hx
    · rcases List.mem_append.1 hx with hx | hx
      · exact h3 x (List.mem_append.2 (Or.inl hx))
      · rw [List.mem_singleton] at hx; rw [hx]; exact hus
    · exact h3 x (List.mem_append.2 (Or.inr (List.mem_of_mem_drop hx)))
  · rw [List.length_append] at hi
    simp only [List.length_cons, List.length_nil] at hi
    rcases Nat.lt_or_ge i fss.length with hl | hl
    · have e1 : (us ++ [u]).getD i nilV = us.getD i nilV := by simp [List.getD_eq_getElem?_getD, List.getElem?_append_left (show i < us.length by rw [h.len]; exact hl)]
      have e2 : (fss ++ [f]).getD i [] = fss.getD i [] := by simp [List.getD_eq_getElem?_getD, List.getElem?_append_left hl]
      rw [e1, e2]
      exact pl_keep hk2 s1.2 (h.pls i hl)
    · have e : i = fss.length := by omega
      subst e
      have e1 : (us ++ [u]).getD fss.length nilV = u := by rw [← h.len]; simp [List.getD_eq_getElem?_getD]
      have e2 : (fss ++ [f]).getD fss.length [] = f := by simp [List.getD_eq_getElem?_getD]
      rw [e1, e2]
      exact pl_keep hk2 s1.2 hu
theorem VHalf.done {w wr : World} {g n : Nat} {us : List Value} {fss : List (List Tm)} (h : VHalf w wr g n us fss) (hn : us.length = n) : Vl wr (.slice (some ⟨g, 0, none⟩) n n) fss := by
  obtain ⟨rest, h1, h2, _⟩ := h.own
  have hlt := (World.ownsRow.lt h1 g rfl).2
  refine ⟨_, n, by rw [← h.len, hn], fun _ => ⟨g, 0, rfl, hlt, fun i hi => ⟨us.getD i nilV, ?_, h.pls i hi⟩⟩⟩
  have hi2 : i < us.length := by rw [h.len]; exact hi
  rw [Nat.zero_add, h1.cellAt i (by omega), List.getElem?_append_left hi2]
  simp [List.getD_eq_getElem?_getD, hi2]
theorem VHalf.made {w w' : World} {n : Nat} (h : w'.ownsRow w.heap.size 54 1 (.slice (some ⟨w.heap.size, 0, none⟩) n n) n (madeCells (Value.cells (.slice none 0 0)) (n * 1)).toList) (hg : w.grownBy w' none) : VHalf w w' w.heap.size n [] [] := by
  refine ⟨⟨_, h, by simp [size_madeCells], fun u hu => ?_⟩, rfl, fun i hi => by simp at hi, ⟨hg.os, hg.tape, hg.output, hg.size, fun k hk => hg.block k hk (by simp)⟩, Nat.le_refl _⟩
  simp [madeCells, Value.cells] at hu
  obtain ⟨l, _, hx⟩ := hu
  rw [Nat.mod_one] at hx
  exact ⟨none, 0, 0, by rw [← hx]; rfl⟩
structure Sing (w1 w : World) (sv : Value) (qs : List (TV × Value)) : Prop where
  own : w.ownsRow w1.heap.size 54 1 sv qs.length (qs.map Prod.snd)
  rows : ∀ q ∈ qs, w.ownsRow w1.heap.size 57 2 q.2 1 (flat [q.1])
  es : ∀ q ∈ qs, Sl w1 q.1.2.1 q.1.2.2
  below : Below w1.heap.size w1 w
theorem Sing.next {w1 w w' : World} {sv : Value} {qs : List (TV × Value)} (h : Sing w1 w sv qs) (hb : Below w.heap.size w w') : Sing w1 w' sv qs :=
  ⟨ownBlock_lt h.own hb, fun q hq => ownBlock_lt (h.rows q hq) hb, h.es, h.below.trans (hb.mono h.below.size)⟩
theorem Sing.snoc {w1 W W2 : World} {sv sv2 : Value} {qs : List (TV × Value)} {q : TV × Value} (h : Sing w1 W sv qs) (hq : W.ownsRow w1.heap.size 57 2 q.2 1 (flat [q.1])) (he : Sl w1 q.1.2.1 q.1.2.2)
    (h2 : W2.ownsRow w1.heap.size 54 1 sv2 (qs.length + 1) (qs.map Prod.snd ++ [q.2])) (g2 : W.grownBy W2 sv.ownBlock) : Sing w1 W2 sv2 (qs ++ [q]) := by
  have hT : (57 : TypeId) ≠ 54 := by decide
  refine ⟨by rw [List.length_append, List.map_append]; exact h2, fun r hr => ?_, fun r hr => ?_, own_grown h.own h.below g2 (Nat.le_refl _)⟩
  · rcases List.mem_append.1 hr with hr | hr
    · exact (h.rows r hr).kept g2 (own_neT hT (h.rows r hr) h.own)
    · rw [List.mem_singleton] at hr; subst hr
      exact hq.kept g2 (own_neT hT hq h.own)
  · rcases List.mem_append.1 hr with hr | hr
    · exact h.es r hr
    · rw [List.mem_singleton] at hr; subst hr; exact he
theorem Sing.vl {w1 w : World} {sv : Value} {qs : List (TV × Value)} (h : Sing w1 w sv qs) : Vl w sv (qs.map fun q => [tm q.1]) := by
  obtain ⟨a, c, rfl⟩ := own_sl h.own
  refine ⟨a, c, by rw [List.length_map], fun hp => ?_⟩
  rw [List.length_map] at hp
  obtain ⟨g, rfl, _, hlt, _⟩ := own_at1 h.own 0 hp
  refine ⟨g, 0, rfl, hlt, fun i hi => ?_⟩
  rw [List.length_map] at hi
  obtain ⟨g2, hg2, _, _, hc⟩ := own_at1 h.own i hi
  simp only [Option.some.injEq, Addr.mk.injEq, and_true] at hg2
  subst hg2
  have e : (qs.map fun q => [tm q.1]).getD i [] = [tm qs[i].1] := by simp [List.getD_eq_getElem?_getD, hi]
  rw [e]
  refine ⟨qs[i].2, by rw [Nat.zero_add, hc]; simp [hi], ?_⟩
  have hm : qs[i] ∈ qs := List.getElem_mem hi
  exact own_pl (ts := [qs[i].1]) (h.rows _ hm) (fun t ht => by
    rw [List.mem_singleton] at ht; subst ht
    exact (h.es _ hm).below h.below)
theorem made_term {w : World} {B : Nat} (hB : B ≤ w.heap.size) (c : Int) (ev : Value) : (w.alloc (.cells #[.int .i64 c, ev] 57)).ownsRow B 57 2 (.slice (some ⟨w.heap.size, 0, none⟩) 1 1) 1 [.int .i64 c, ev] :=
  ⟨by simp, .inr ⟨w.heap.size, 1, _, rfl, hB, heap_alloc_new w _, Nat.le_refl _, by decide, by simp, by simp⟩⟩
end Go.Proofs.YtilogbggilchaaaGreat
