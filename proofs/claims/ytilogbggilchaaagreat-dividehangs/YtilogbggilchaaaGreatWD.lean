/- vector.each. -/
import Derived.Test.YtilogbggilchaaaGreatWA
import Derived.Test.YtilogbggilchaaaGreatTL
namespace Go.Proofs.YtilogbggilchaaaGreat
set_option linter.unusedSimpArgs false
set_option linter.unusedVariables false
open Go.RowKit
theorem slk_full {w : World} {B g n : Nat} {T : TypeId} {xs : List Value} (h : w.ownsRow B T 1 (.slice (some ⟨g, 0, none⟩) n n) n xs) (hs : ∀ u ∈ xs, ∃ a n c, u = .slice a n c) : SlK w g := by
  rcases h.2 with ⟨h1, _⟩ | ⟨g', cap, cur, h1, hb, hg, hn, hm, hcs, ht⟩
  · simp at h1
  · simp only [Value.slice.injEq, Option.some.injEq, Addr.mk.injEq, and_true, true_and] at h1
    obtain ⟨rfl, rfl⟩ := h1
    refine slk_row hg (fun u hu => hs u ?_)
    rw [← ht, List.take_of_length_le (by rw [Array.length_toList, hcs]; exact Nat.le_refl _)]
    exact hu
structure VHalf (w wr : World) (g n : Nat) (us : List Value) (fss : List (List Tm)) : Prop where
  own : ∃ rest, wr.ownsRow w.heap.size 54 1 (.slice (some ⟨g, 0, none⟩) n n) n (us ++ rest) ∧ (us ++ rest).length = n ∧ ∀ u ∈ us ++ rest, ∃ a n c, u = .slice a n c
  len : us.length = fss.length
  pls : ∀ i, i < fss.length → Pl wr (us.getD i nilV) (fss.getD i [])
  below : Below w.heap.size w wr
  ge : w.heap.size ≤ g
theorem VHalf.next {w wr w' : World} {g n : Nat} {us : List Value} {fss : List (List Tm)} (h : VHalf w wr g n us fss) (hb : Below wr.heap.size wr w') : VHalf w w' g n us fss := by
  obtain ⟨rest, h1, h2, h3⟩ := h.own
  exact ⟨⟨rest, ownBlock_lt h1 hb, h2, h3⟩, h.len, fun i hi => (h.pls i hi).below hb, h.below.trans (hb.mono h.below.size), h.ge⟩
theorem VHalf.cells {w wr : World} {g n : Nat} {us : List Value} {fss : List (List Tm)} (h : VHalf w wr g n us fss) (hk : us.length < n) :
    ∃ a, wr.cell? ⟨g, us.length, none⟩ = some a ∧ wr.frozen? ⟨g, us.length, none⟩ = false := by
  obtain ⟨rest, h1, h2, _⟩ := h.own
  have e1 := h1.cellAt us.length (by omega)
  rw [List.getElem?_eq_getElem (by omega)] at e1
  exact ⟨_, e1, h1.frozenAt _⟩
theorem set_one (l : List Value) (a : Value) : ∀ r : List Value, 1 ≤ r.length → (l ++ r).set l.length a = l ++ [a] ++ r.drop 1
  | [], h => by simp at h
  | x :: r, _ => by simp [List.set_append_right]
theorem VHalf.put {w wr : World} {g n : Nat} {us : List Value} {fss : List (List Tm)} (h : VHalf w wr g n us fss) (hk : us.length < n) (u : Value) (f : List Tm) (hu : Pl wr u f) :
    VHalf w (wr.setCell ⟨g, us.length, none⟩ u) g n (us ++ [u]) (fss ++ [f]) := by
  obtain ⟨rest, h1, h2, h3⟩ := h.own
  have s1 := h1.stored us.length u
  have hk2 := slk_full h1 h3
  have hus : ∃ a n c, u = .slice a n c := by obtain ⟨a, c, e, _⟩ := hu; exact ⟨_, _, _, e⟩
  rw [List.length_append] at h2
  have e := set_one us u rest (by omega)
  refine ⟨⟨rest.drop 1, by rw [← e]; exact s1.1, by rw [List.length_append, List.length_append, List.length_drop]; simp; omega, fun x hx => ?_⟩, by simp [h.len], fun i hi => ?_, h.below.trans (grown_below s1.2 h.ge h.below.size), h.ge⟩
  · rcases List.mem_append.1 hx with hx | hx
    · rcases List.mem_append.1 hx with hx | hx
      · exact h3 x (List.mem_append.2 (Or.inl hx))
      · rw [List.mem_singleton] at hx; rw [hx]; exact hus
    · exact h3 x (List.mem_append.2 (Or.inr (List.mem_of_mem_drop hx)))
  · rw [List.length_append] at hi
    simp only [List.length_cons, List.length_nil] at hi
    rcases Nat.lt_or_ge i fss.length with hl | hl
    · have e1 : (us ++ [u]).getD i nilV = us.getD i nilV := by simp [List.getD_eq_getElem?_getD, List.getElem?_append_left (show i < us.length by rw [h.len]; exact hl)]
      have e2 : (fss ++ [f]).getD i [] = fss.getD i [] := by simp [List.getD_eq_getElem?_getD, List.getElem?_append_left hl]
      rw [e1, e2]
      exact pl_keep hk2 s1.2 (h.pls i hl)
    · have e : i = fss.length := by omega
      subst e
      have e1 : (us ++ [u]).getD fss.length nilV = u := by rw [← h.len]; simp [List.getD_eq_getElem?_getD]
      have e2 : (fss ++ [f]).getD fss.length [] = f := by simp [List.getD_eq_getElem?_getD]
      rw [e1, e2]
      exact pl_keep hk2 s1.2 hu
theorem VHalf.done {w wr : World} {g n : Nat} {us : List Value} {fss : List (List Tm)} (h : VHalf w wr g n us fss) (hn : us.length = n) : Vl wr (.slice (some ⟨g, 0, none⟩) n n) fss := by
  obtain ⟨rest, h1, h2, _⟩ := h.own
  have hlt := (World.ownsRow.lt h1 g rfl).2
  refine ⟨_, n, by rw [← h.len, hn], fun _ => ⟨g, 0, rfl, hlt, fun i hi => ⟨us.getD i nilV, ?_, h.pls i hi⟩⟩⟩
  have hi2 : i < us.length := by rw [h.len]; exact hi
  rw [Nat.zero_add, h1.cellAt i (by omega), List.getElem?_append_left hi2]
  simp [List.getD_eq_getElem?_getD, hi2]
theorem VHalf.made {w w' : World} {n : Nat} (h : w'.ownsRow w.heap.size 54 1 (.slice (some ⟨w.heap.size, 0, none⟩) n n) n (madeCells (Value.cells (.slice none 0 0)) (n * 1)).toList) (hg : w.grownBy w' none) : VHalf w w' w.heap.size n [] [] := by
  refine ⟨⟨_, h, by simp [size_madeCells], fun u hu => ?_⟩, rfl, fun i hi => by simp at hi, ⟨hg.os, hg.tape, hg.output, hg.size, fun k hk => hg.block k hk (by simp)⟩, Nat.le_refl _⟩
  simp [madeCells, Value.cells] at hu
  obtain ⟨l, _, hx⟩ := hu
  rw [Nat.mod_one] at hx
  exact ⟨none, 0, 0, by rw [← hx]; rfl⟩
def eachR (E : Nat → Int) (R : Nat → List Tm) (n : Nat) : List (List Tm) := if firstN E n 0 = 0 then (List.range n).map R else []
theorem eachR_ok {E : Nat → Int} {R : Nat → List Tm} {n : Nat} (h : firstN E n 0 = 0) : eachR E R n = (List.range n).map R := by unfold eachR; rw [if_pos h]
theorem eachR_bad {E : Nat → Int} {R : Nat → List Tm} {n : Nat} (h : firstN E n 0 ≠ 0) : eachR E R n = [] := by unfold eachR; rw [if_neg h]
theorem range_snoc {α : Type} (R : Nat → α) (k : Nat) : (List.range (k + 1)).map R = (List.range k).map R ++ [R k] := by
  rw [List.range_succ, List.map_append]; rfl

set_option maxRecDepth 100000 in
set_option maxHeartbeats 2000000 in
theorem eachA_any (rb wb : Nat) (x : Value) (fss : List (List Tm)) (E : Nat → Int) (R : Nat → List Tm) (w : World) (hm : fss.length ≤ 1000) (pf : Vl w x fss)
    (H : ∀ i w' fa fc, i < fss.length → Below w.heap.size w w' → Pl w' (.slice fa (fss.getD i []).length fc) (fss.getD i []) → Calls Tryz.prog 53 #[.int .i64 i, .slice fa (fss.getD i []).length fc, .pointer (some ⟨rb, 0, none⟩), .pointer (some ⟨wb, 0, none⟩)] w' fun e w'' => ∃ u, e = .returned (.tuple #[u, .int .i64 (E i)]) ∧ Pl w'' u (R i) ∧ Below w'.heap.size w' w'') :
    Calls Tryz.prog 49 #[x, .func (.func 53) #[] #[.pointer (some ⟨rb, 0, none⟩), .pointer (some ⟨wb, 0, none⟩)]] w fun e w' => ∃ u, e = .returned (.tuple #[u, .int .i64 (firstN E fss.length 0)]) ∧ Vl w' u (eachR E R fss.length) ∧ Below w.heap.size w w' := by
  have HX := hid pf
  have HH := hid H
  obtain ⟨ax, cx, rfl, _⟩ := pf
  obtain ⟨i0, hi, hz0, hz1, hz2⟩ := info_parts Tryz.infoPolyW
  clear H
  go_enter Tryz.func49, Tryz.ntmps49
  go_wp2_with (at_make; refine wpList_make_full _ rfl _ _ 25 rfl w.heap.size 54 i0 _ 1 Tryz.underlying25 hi hz0 hz1 .i64 .i64 _ _ fss.length rfl rfl rfl rfl (by rw [hz2]; omega) (by unfold maxLen; omega) (Nat.le_refl _) ?_; intro w1 hown hgrow; have HV0 := hid (VHalf.made hown hgrow); clear hown hgrow)
  clear hi hz0 hz1 hz2
  go_loopw [16] (fun i wr => ∃ (k : Nat) (us : List Value), k ≤ fss.length ∧ i = .int .i64 k ∧ us.length = k ∧ (∀ j, j < k → E j = 0) ∧ VHalf w wr w.heap.size fss.length us ((List.range k).map R)) (fun i _ => fss.length - (intOf i).toNat)
  case atStart => exact ⟨0, [], Nat.zero_le _, rfl, rfl, fun j hj => by omega, HV0.out⟩
  case round =>
    clear HV0
    obtain ⟨k, us, hk, rfl, hul, hz, hv⟩ := hrel
    have HZ := hid hz
    have HV := hid hv
    have HUL := hid hul
    clear hz hv hul
    by_cases hk2 : k < fss.length
    · obtain ⟨b, off, fa, fc, rfl, hlt, c0, hpf⟩ := vl_at HX.out k hk2
      have d0 := cell_keep c0 HV.out.below
      have HC := hid (HH.out k wr fa fc hk2 HV.out.below (hpf.below HV.out.below))
      have HHIT := hid (fun h => firstN_hit (E := E) hk2 HZ.out h)
      generalize fss.getD k [] = f at c0 d0 hpf HC
      clear c0 hpf
      cases he : (E k != 0)
      · have HE0 : Hid (E k = 0) := by simpa [Hid] using he
        go_wp2_with (go_at_call 53; refine HC.out.mono ?_; rintro e w2 ⟨u, rfl, hu, hb2⟩; have HV2 := hid (HV.out.next hb2); have HU := hid hu; obtain ⟨ua, uc, rfl, _, _⟩ := hu; obtain ⟨ov, x0, x1⟩ := HV2.out.cells (by have := HUL.out; omega); rw [HUL.out] at x0 x1; clear hb2)
        go_roundw
        case rel =>
          refine ⟨k + 1, us ++ [.slice ua (R k).length uc], by omega, by go_num, by rw [len_snoc, HUL.out], fun j hj => ?_, ?_⟩
          · rcases Nat.lt_or_ge j k with h | h
            · exact HZ.out j h
            · rw [show j = k by omega]; exact HE0.out
          · rw [range_snoc]
            have h := HV2.out.put (by have := HUL.out; omega) _ _ HU.out
            rw [HUL.out] at h
            exact h
        case measure => simp [intOf]; omega
      · have HF : Hid (firstN E fss.length 0 = E k) := HHIT.out (by simpa using he)
        have HNE : Hid (E k ≠ 0) := by simpa [Hid] using he
        go_wp2_with (go_at_call 53; refine HC.out.mono ?_; rintro e w2 ⟨u, rfl, hu, hb2⟩; have HV2 := hid (HV.out.next hb2); obtain ⟨ua, uc, rfl, _, _⟩ := hu; clear hb2)
        go_ret2
        refine ⟨.slice none 0 0, by rw [HF.out]; rfl, ?_, HV2.out.below⟩
        rw [eachR_bad (by rw [HF.out]; exact HNE.out)]
        exact ⟨none, 0, rfl, fun h => by simp at h⟩
    · have e : k = fss.length := by omega
      subst e
      have HF : Hid (firstN E fss.length 0 = 0) := firstN_all HZ.out
      have HD := hid (HV.out.done HUL.out)
      go_wp2
      go_ret2
      refine ⟨.slice (some ⟨w.heap.size, 0, none⟩) fss.length fss.length, by rw [HF.out]; rfl, ?_, HV.out.below⟩
      rw [eachR_ok HF.out]
      exact HD.out
end Go.Proofs.YtilogbggilchaaaGreat
