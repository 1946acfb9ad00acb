/- Looking through rows. -/
import Derived.Test.YtilogbggilchaaaDoorFC
import Derived.Test.YtilogbggilchaaaDoorE
namespace Go.Proofs.YtilogbggilchaaaDoor
set_option linter.unusedSimpArgs false
set_option linter.unusedVariables false
open Go.RowKit
def Rws (w : World) (v : Value) (xss : List (List Int)) : Prop :=
  ∃ a cap, v = .slice a xss.length cap ∧ (0 < xss.length → ∃ b off, a = some ⟨b, off, none⟩ ∧ b < w.heap.size ∧ SlsAt w b off xss)
theorem Rws.below {w w' : World} {v : Value} {xss : List (List Int)} (h : Rws w v xss) (hb : Below w.heap.size w w') : Rws w' v xss := by
  obtain ⟨a, cap, rfl, h⟩ := h
  refine ⟨a, cap, rfl, fun hp => ?_⟩
  obtain ⟨b, off, rfl, hlt, hc⟩ := h hp
  exact ⟨b, off, rfl, Nat.lt_of_lt_of_le hlt hb.size, hc.below hlt hb⟩

theorem anyR_take (f : List Int → Bool) (xs : List (List Int)) (k : Nat) (h : k < xs.length) (h0 : (xs.take k).any f = false) (h1 : f (xs.getD k []) = false) : (xs.take (k + 1)).any f = false := by
  rw [List.take_succ_eq_append_getElem h, List.any_append, h0]
  rw [List.getD_eq_getElem?_getD, List.getElem?_eq_getElem h] at h1
  simpa using h1
theorem getR_mem (xs : List (List Int)) (k : Nat) (h : k < xs.length) : xs.getD k [] ∈ xs := by
  rw [List.getD_eq_getElem?_getD, List.getElem?_eq_getElem h]; simp
theorem anyR_at (f : List Int → Bool) (xs : List (List Int)) (k : Nat) (h : k < xs.length) (h1 : f (xs.getD k []) = true) : xs.any f = true := by
  rw [List.any_eq_true]; exact ⟨_, getR_mem xs k h, h1⟩

set_option maxHeartbeats 400000 in
theorem indexNone_any (f : Value) (a : Option Addr) (cap : Nat) (w : World) :
    Calls Tryd.prog 97 #[.slice a 0 cap, f] w fun e w' => e = .returned (.int .i64 (-1)) ∧ w' = w := by
  go_enter Tryd.func97, Tryd.ntmps97
  go_wp2
  go_loop [8] (fun i => i = .int .i64 0) (fun _ => 0)
  case atStart => rfl
  case round =>
    subst hrel
    go_wp2
    go_ret
    exact ⟨rfl, rfl⟩

set_option maxHeartbeats 400000 in
theorem indexLong_any (t : List Int → Bool) (xss : List (List Int)) (b off cap : Nat) (w : World) (hm : xss.length ≤ 400) (hlt : b < w.heap.size) (hs : SlsAt w b off xss)
    (hK : ∀ (W : World) (v : Value) (xs : List Int), Below w.heap.size w W → Sl W v xs → xs ∈ xss → Calls Tryd.prog 84 #[v] W fun e w' => e = .returned (.bool (t xs)) ∧ Below W.heap.size W w') :
    Calls Tryd.prog 97 #[.slice (some ⟨b, off, none⟩) xss.length cap, .func (.func 84) #[] #[]] w fun e w' =>
      ∃ r : Int, e = .returned (.int .i64 r) ∧ decide (0 ≤ r) = xss.any t ∧ Below w.heap.size w w' := by
  have HS := hid hs
  have HK := hid hK
  clear hs hK
  go_enter Tryd.func97, Tryd.ntmps97
  go_wp2
  go_loopw [8] (fun i wr => ∃ k : Nat, k ≤ xss.length ∧ i = .int .i64 k ∧ (xss.take k).any t = false ∧ Below w.heap.size w wr) (fun i _ => xss.length - (intOf i).toNat)
  case atStart => exact ⟨0, Nat.zero_le _, rfl, by simp, Below.refl _ _⟩
  case round =>
    obtain ⟨k, hk, rfl, hn, hbr⟩ := hrel
    have HN := hid hn
    have HBR := hid hbr
    by_cases hk2 : k < xss.length
    · obtain ⟨vv, hcell, hsl⟩ := HS.out k hk2
      rw [← hbr.cell (p := ⟨b, off + k, none⟩) hlt] at hcell
      have HSL := hid (hsl.below hbr)
      have H1 := hid (anyR_take t xss k hk2 HN.out)
      have H2 := hid (anyR_at t xss k hk2)
      have HM := hid (getR_mem xss k hk2)
      clear hn hbr hsl
      generalize xss.getD k [] = xs at HSL H1 H2 HM
      obtain ⟨a, cc, hvv, _⟩ := HSL.out
      subst hvv
      have CON := hid (HK.out wr _ xs HBR.out HSL.out HM.out)
      cases hy : t xs
      · rw [hy] at CON
        go_wp2_with (go_at_call 84; refine CON.out.mono ?_; rintro e w2 ⟨rfl, hb2⟩)
        go_roundw
        case rel => exact ⟨k + 1, by omega, by go_num, H1.out hy, HBR.out.trans (hb2.mono HBR.out.size)⟩
        case measure => simp [intOf]; omega
      · rw [hy] at CON
        go_wp2_with (go_at_call 84; refine CON.out.mono ?_; rintro e w2 ⟨rfl, hb2⟩)
        go_ret
        exact ⟨(k : Int), rfl, by rw [H2.out hy]; simp, HBR.out.trans (hb2.mono HBR.out.size)⟩
    · clear hn hbr
      go_wp2
      go_ret
      exact ⟨-1, rfl, by have := HN.out; rw [List.take_of_length_le (by omega)] at this; rw [this]; simp, HBR.out⟩

set_option maxHeartbeats 400000 in
theorem containsLong_any (t : List Int → Bool) (v : Value) (xss : List (List Int)) (w : World) (hm : xss.length ≤ 400) (hr : Rws w v xss)
    (hK : ∀ (W : World) (v : Value) (xs : List Int), Below w.heap.size w W → Sl W v xs → xs ∈ xss → Calls Tryd.prog 84 #[v] W fun e w' => e = .returned (.bool (t xs)) ∧ Below W.heap.size W w') :
    Calls Tryd.prog 83 #[v, .func (.func 84) #[] #[]] w fun e w' => e = .returned (.bool (xss.any t)) ∧ Below w.heap.size w w' := by
  obtain ⟨a, cap, rfl, h1⟩ := hr
  have HK := hid hK
  clear hK
  by_cases h0 : 0 < xss.length
  · obtain ⟨b, off, rfl, hlt, hc⟩ := h1 h0
    have HC := hid hc
    clear hc h1 h0
    go_enter Tryd.func83, Tryd.ntmps83
    go_wp2_with (go_at_call 97; refine (indexLong_any t xss _ _ _ _ hm hlt HC.out HK.out).mono ?_; rintro e w' ⟨r, rfl, hr, hb⟩)
    go_ret
    exact ⟨by rw [← hr]; rfl, hb⟩
  · have e : xss = [] := List.length_eq_zero_iff.1 (by omega)
    subst e
    clear h1 h0 hm HK
    go_enter Tryd.func83, Tryd.ntmps83
    go_wp2_with (go_at_call 97; refine (indexNone_any _ _ _ _).mono ?_; rintro e w' ⟨rfl, rfl⟩)
    go_ret
    exact ⟨rfl, Below.refl _ _⟩

set_option maxHeartbeats 400000 in
theorem indexUnlike_any (t : List Int → Bool) (xss : List (List Int)) (b off cap cb : Nat) (w : World) (hm : xss.length ≤ 400) (hlt : b < w.heap.size) (hs : SlsAt w b off xss)
    (hK : ∀ (W : World) (v : Value) (xs : List Int), Below w.heap.size w W → Sl W v xs → xs ∈ xss → Calls Tryd.prog 85 #[v, .pointer (some ⟨cb, 0, none⟩)] W fun e w' => e = .returned (.bool (t xs)) ∧ Below W.heap.size W w') :
    Calls Tryd.prog 97 #[.slice (some ⟨b, off, none⟩) xss.length cap, .func (.func 85) #[] #[.pointer (some ⟨cb, 0, none⟩)]] w fun e w' =>
      ∃ r : Int, e = .returned (.int .i64 r) ∧ decide (0 ≤ r) = xss.any t ∧ Below w.heap.size w w' := by
  have HS := hid hs
  have HK := hid hK
  clear hs hK
  go_enter Tryd.func97, Tryd.ntmps97
  go_wp2
  go_loopw [8] (fun i wr => ∃ k : Nat, k ≤ xss.length ∧ i = .int .i64 k ∧ (xss.take k).any t = false ∧ Below w.heap.size w wr) (fun i _ => xss.length - (intOf i).toNat)
  case atStart => exact ⟨0, Nat.zero_le _, rfl, by simp, Below.refl _ _⟩
  case round =>
    obtain ⟨k, hk, rfl, hn, hbr⟩ := hrel
    have HN := hid hn
    have HBR := hid hbr
    by_cases hk2 : k < xss.length
    · obtain ⟨vv, hcell, hsl⟩ := HS.out k hk2
      rw [← hbr.cell (p := ⟨b, off + k, none⟩) hlt] at hcell
      have HSL := hid (hsl.below hbr)
      have H1 := hid (anyR_take t xss k hk2 HN.out)
      have H2 := hid (anyR_at t xss k hk2)
      have HM := hid (getR_mem xss k hk2)
      clear hn hbr hsl
      generalize xss.getD k [] = xs at HSL H1 H2 HM
      obtain ⟨a, cc, hvv, _⟩ := HSL.out
      subst hvv
      have CON := hid (HK.out wr _ xs HBR.out HSL.out HM.out)
      cases hy : t xs
      · rw [hy] at CON
        go_wp2_with (go_at_call 85; refine CON.out.mono ?_; rintro e w2 ⟨rfl, hb2⟩)
        go_roundw
        case rel => exact ⟨k + 1, by omega, by go_num, H1.out hy, HBR.out.trans (hb2.mono HBR.out.size)⟩
        case measure => simp [intOf]; omega
      · rw [hy] at CON
        go_wp2_with (go_at_call 85; refine CON.out.mono ?_; rintro e w2 ⟨rfl, hb2⟩)
        go_ret
        exact ⟨(k : Int), rfl, by rw [H2.out hy]; simp, HBR.out.trans (hb2.mono HBR.out.size)⟩
    · clear hn hbr
      go_wp2
      go_ret
      exact ⟨-1, rfl, by have := HN.out; rw [List.take_of_length_le (by omega)] at this; rw [this]; simp, HBR.out⟩

set_option maxHeartbeats 400000 in
theorem containsUnlike_any (t : List Int → Bool) (v : Value) (xss : List (List Int)) (cb : Nat) (w : World) (hm : xss.length ≤ 400) (hr : Rws w v xss)
    (hK : ∀ (W : World) (v : Value) (xs : List Int), Below w.heap.size w W → Sl W v xs → xs ∈ xss → Calls Tryd.prog 85 #[v, .pointer (some ⟨cb, 0, none⟩)] W fun e w' => e = .returned (.bool (t xs)) ∧ Below W.heap.size W w') :
    Calls Tryd.prog 83 #[v, .func (.func 85) #[] #[.pointer (some ⟨cb, 0, none⟩)]] w fun e w' => e = .returned (.bool (xss.any t)) ∧ Below w.heap.size w w' := by
  obtain ⟨a, cap, rfl, h1⟩ := hr
  have HK := hid hK
  clear hK
  by_cases h0 : 0 < xss.length
  · obtain ⟨b, off, rfl, hlt, hc⟩ := h1 h0
    have HC := hid hc
    clear hc h1 h0
    go_enter Tryd.func83, Tryd.ntmps83
    go_wp2_with (go_at_call 97; refine (indexUnlike_any t xss _ _ _ _ _ hm hlt HC.out HK.out).mono ?_; rintro e w' ⟨r, rfl, hr, hb⟩)
    go_ret
    exact ⟨by rw [← hr]; rfl, hb⟩
  · have e : xss = [] := List.length_eq_zero_iff.1 (by omega)
    subst e
    clear h1 h0 hm HK
    go_enter Tryd.func83, Tryd.ntmps83
    go_wp2_with (go_at_call 97; refine (indexNone_any _ _ _ _).mono ?_; rintro e w' ⟨rfl, rfl⟩)
    go_ret
    exact ⟨rfl, Below.refl _ _⟩

set_option maxHeartbeats 400000 in
theorem indexRange_any (t : List Int → Bool) (xss : List (List Int)) (b off cap cb : Nat) (w : World) (hm : xss.length ≤ 400) (hlt : b < w.heap.size) (hs : SlsAt w b off xss)
    (hK : ∀ (W : World) (v : Value) (xs : List Int), Below w.heap.size w W → Sl W v xs → xs ∈ xss → Calls Tryd.prog 86 #[v, .pointer (some ⟨cb, 0, none⟩)] W fun e w' => e = .returned (.bool (t xs)) ∧ Below W.heap.size W w') :
    Calls Tryd.prog 97 #[.slice (some ⟨b, off, none⟩) xss.length cap, .func (.func 86) #[] #[.pointer (some ⟨cb, 0, none⟩)]] w fun e w' =>
      ∃ r : Int, e = .returned (.int .i64 r) ∧ decide (0 ≤ r) = xss.any t ∧ Below w.heap.size w w' := by
  have HS := hid hs
  have HK := hid hK
  clear hs hK
  go_enter Tryd.func97, Tryd.ntmps97
  go_wp2
  go_loopw [8] (fun i wr => ∃ k : Nat, k ≤ xss.length ∧ i = .int .i64 k ∧ (xss.take k).any t = false ∧ Below w.heap.size w wr) (fun i _ => xss.length - (intOf i).toNat)
  case atStart => exact ⟨0, Nat.zero_le _, rfl, by simp, Below.refl _ _⟩
  case round =>
    obtain ⟨k, hk, rfl, hn, hbr⟩ := hrel
    have HN := hid hn
    have HBR := hid hbr
    by_cases hk2 : k < xss.length
    · obtain ⟨vv, hcell, hsl⟩ := HS.out k hk2
      rw [← hbr.cell (p := ⟨b, off + k, none⟩) hlt] at hcell
      have HSL := hid (hsl.below hbr)
      have H1 := hid (anyR_take t xss k hk2 HN.out)
      have H2 := hid (anyR_at t xss k hk2)
      have HM := hid (getR_mem xss k hk2)
      clear hn hbr hsl
      generalize xss.getD k [] = xs at HSL H1 H2 HM
      obtain ⟨a, cc, hvv, _⟩ := HSL.out
      subst hvv
      have CON := hid (HK.out wr _ xs HBR.out HSL.out HM.out)
      cases hy : t xs
      · rw [hy] at CON
        go_wp2_with (go_at_call 86; refine CON.out.mono ?_; rintro e w2 ⟨rfl, hb2⟩)
        go_roundw
        case rel => exact ⟨k + 1, by omega, by go_num, H1.out hy, HBR.out.trans (hb2.mono HBR.out.size)⟩
        case measure => simp [intOf]; omega
      · rw [hy] at CON
        go_wp2_with (go_at_call 86; refine CON.out.mono ?_; rintro e w2 ⟨rfl, hb2⟩)
        go_ret
        exact ⟨(k : Int), rfl, by rw [H2.out hy]; simp, HBR.out.trans (hb2.mono HBR.out.size)⟩
    · clear hn hbr
      go_wp2
      go_ret
      exact ⟨-1, rfl, by have := HN.out; rw [List.take_of_length_le (by omega)] at this; rw [this]; simp, HBR.out⟩

set_option maxHeartbeats 400000 in
theorem containsRange_any (t : List Int → Bool) (v : Value) (xss : List (List Int)) (cb : Nat) (w : World) (hm : xss.length ≤ 400) (hr : Rws w v xss)
    (hK : ∀ (W : World) (v : Value) (xs : List Int), Below w.heap.size w W → Sl W v xs → xs ∈ xss → Calls Tryd.prog 86 #[v, .pointer (some ⟨cb, 0, none⟩)] W fun e w' => e = .returned (.bool (t xs)) ∧ Below W.heap.size W w') :
    Calls Tryd.prog 83 #[v, .func (.func 86) #[] #[.pointer (some ⟨cb, 0, none⟩)]] w fun e w' => e = .returned (.bool (xss.any t)) ∧ Below w.heap.size w w' := by
  obtain ⟨a, cap, rfl, h1⟩ := hr
  have HK := hid hK
  clear hK
  by_cases h0 : 0 < xss.length
  · obtain ⟨b, off, rfl, hlt, hc⟩ := h1 h0
    have HC := hid hc
    clear hc h1 h0
    go_enter Tryd.func83, Tryd.ntmps83
    go_wp2_with (go_at_call 97; refine (indexRange_any t xss _ _ _ _ _ hm hlt HC.out HK.out).mono ?_; rintro e w' ⟨r, rfl, hr, hb⟩)
    go_ret
    exact ⟨by rw [← hr]; rfl, hb⟩
  · have e : xss = [] := List.length_eq_zero_iff.1 (by omega)
    subst e
    clear h1 h0 hm HK
    go_enter Tryd.func83, Tryd.ntmps83
    go_wp2_with (go_at_call 97; refine (indexNone_any _ _ _ _).mono ?_; rintro e w' ⟨rfl, rfl⟩)
    go_ret
    exact ⟨rfl, Below.refl _ _⟩

set_option maxHeartbeats 400000 in
theorem longFn_any (v : Value) (xs : List Int) (w : World) (hs : Sl w v xs) :
    Calls Tryd.prog 84 #[v] w fun e w' => e = .returned (.bool (decide (400 < (xs.length : Int)))) ∧ Below w.heap.size w w' := by
  obtain ⟨a, cap, rfl, _⟩ := hs
  go_enter Tryd.func84, Tryd.ntmps84
  go_wp2
  go_ret
  exact ⟨rfl, Below.refl _ _⟩

set_option maxHeartbeats 400000 in
theorem unlikeFn_any (v r : Value) (xs : List Int) (xss : List (List Int)) (cb : Nat) (w : World) (hs : Sl w v xs) (hr : Rws w r xss) (h0 : 0 < xss.length) (hc : w.cell? ⟨cb, 0, none⟩ = some r) :
    Calls Tryd.prog 85 #[v, .pointer (some ⟨cb, 0, none⟩)] w fun e w' => e = .returned (.bool ((xs.length : Int) != ((xss.getD 0 []).length : Int))) ∧ Below w.heap.size w w' := by
  obtain ⟨a, cap, rfl, _⟩ := hs
  obtain ⟨a2, cap2, rfl, h2⟩ := hr
  obtain ⟨b, off, rfl, hlt, hsl⟩ := h2 h0
  obtain ⟨vv, hcell, hs0⟩ := hsl 0 h0
  obtain ⟨a3, cap3, hvv, _⟩ := hs0
  subst hvv
  rw [Nat.add_zero] at hcell
  have h00 : (0 : Int) < (xss.length : Int) := by omega
  clear h2 hsl h0
  generalize (xss.getD 0 []).length = m at *
  go_enter Tryd.func85, Tryd.ntmps85
  go_wp2
  go_ret
  exact ⟨rfl, Below.refl _ _⟩

set_option maxHeartbeats 400000 in
theorem rangeFn_any (p : Int) (v : Value) (xs : List Int) (cb : Nat) (w : World) (hm : xs.length ≤ 400) (hs : Sl w v xs) (hc : w.cell? ⟨cb, 0, none⟩ = some (.int .i64 p)) :
    Calls Tryd.prog 86 #[v, .pointer (some ⟨cb, 0, none⟩)] w fun e w' => e = .returned (.bool (xs.any (outP p))) ∧ Below w.heap.size w w' := by
  have HS := hid hs
  obtain ⟨a, cap, rfl, _⟩ := hs
  go_enter Tryd.func86, Tryd.ntmps86
  go_wp2_with fail
  refine (anyOutside_any p _ xs _ hm HS.out).mono ?_
  rintro e w1 ⟨rfl, hb⟩
  go_wp2
  go_ret
  exact ⟨rfl, hb⟩

def longR (xs : List Int) : Bool := decide (400 < (xs.length : Int))
def unlikeR (n : Nat) (xs : List Int) : Bool := (xs.length : Int) != (n : Int)
def rowE (p : Int) (xss : List (List Int)) : Int :=
  if 400 < (xss.length : Int) ∨ xss.any longR = true then 2 else if xss.any (unlikeR (xss.getD 0 []).length) then 1 else if xss.any (fun xs => xs.any (outP p)) then 3 else 0
def rowsE (p : Int) (xss : List (List Int)) : Int := if errP p = 0 then rowE p xss else errP p
end Go.Proofs.YtilogbggilchaaaDoor
