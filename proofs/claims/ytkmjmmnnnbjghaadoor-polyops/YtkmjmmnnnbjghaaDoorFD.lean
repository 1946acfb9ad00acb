/- Looking through rows. -/
import Derived.Test.YtkmjmmnnnbjghaaDoorFA
import Derived.Test.YtkmjmmnnnbjghaaDoorA
import Derived.ProofKit
import Derived.OpenShut
import Derived.ShutString
import Derived.ChangeOld
import Derived.Deep.Matrix
import Derived.Deep.DeepCutAuto
import Derived.Lib.SliceRun
namespace Go.Proofs.YtkmjmmnnnbjghaaDoor
set_option linter.unusedSimpArgs false
set_option linter.unusedVariables false
open Go.RowKit

/-- A list of rows. -/
def Rws (w : World) (v : Value) (xss : List (List Int)) : Prop :=
  ∃ a cap, v = .slice a xss.length cap ∧ (0 < xss.length → ∃ b off, a = some ⟨b, off, none⟩ ∧ b < w.heap.size ∧ SlsAt w b off xss)
theorem Rws.below {w w' : World} {v : Value} {xss : List (List Int)} (h : Rws w v xss) (hb : Below w.heap.size w w') : Rws w' v xss := by
  obtain ⟨a, cap, rfl, h⟩ := h
  refine ⟨a, cap, rfl, fun hp => ?_⟩
  obtain ⟨b, off, rfl, hlt, hc⟩ := h hp
  exact ⟨b, off, rfl, Nat.lt_of_lt_of_le hlt hb.size, hc.below hlt hb⟩

theorem anyR_take (f : List Int → Bool) (xs : List (List Int)) (k : Nat) (h : k < xs.length) (h0 : (xs.take k).any f = false) (h1 : f (xs.getD k []) = false) : (xs.take (k + 1)).any f = false := by
  rw [List.take_succ_eq_append_getElem h, List.any_append, h0]
  rw [List.getD_eq_getElem?_getD, List.getElem?_eq_getElem h] at h1
  simpa using h1
theorem getR_mem (xs : List (List Int)) (k : Nat) (h : k < xs.length) : xs.getD k [] ∈ xs := by
  rw [List.getD_eq_getElem?_getD, List.getElem?_eq_getElem h]; simp
theorem anyR_at (f : List Int → Bool) (xs : List (List Int)) (k : Nat) (h : k < xs.length) (h1 : f (xs.getD k []) = true) : xs.any f = true := by
  rw [List.any_eq_true]; exact ⟨_, getR_mem xs k h, h1⟩

set_option maxHeartbeats 400000 in
theorem indexNone_any (f : Value) (a : Option Addr) (cap : Nat) (w : World) :
    Calls Tryd.prog 97 #[.slice a 0 cap, f] w fun e w' => e = .returned (.int .i64 (-1)) ∧ w' = w := by
  go_enter Tryd.func97, Tryd.ntmps97
  go_wp2
  go_loop [8] (fun i => i = .int .i64 0) (fun _ => 0)
  case atStart => rfl
  case round =>
    subst hrel
    go_wp2
    go_ret
    exact ⟨rfl, rfl⟩

set_option maxHeartbeats 400000 in
theorem indexLong_any (t : List Int → Bool) (xss : List (List Int)) (b off cap : Nat) (w : World) (hm : xss.length ≤ 400) (hlt : b < w.heap.size) (hs : SlsAt w b off xss)
    (hK : ∀ (W : World) (v : Value) (xs : List Int), Below w.heap.size w W → Sl W v xs → xs ∈ xss → Calls Tryd.prog 84 #[v] W fun e w' => e = .returned (.bool (t xs)) ∧ Below W.heap.size W w') :
    Calls Tryd.prog 97 #[.slice (some ⟨b, off, none⟩) xss.length cap, .func (.func 84) #[] #[]] w fun e w' =>
      ∃ r : Int, e = .returned (.int .i64 r) ∧ decide (0 ≤ r) = xss.any t ∧ Below w.heap.size w w' := by
  have HS := hid hs
  have HK := hid hK
  clear hs hK
  go_enter Tryd.func97, Tryd.ntmps97
  go_wp2
  go_loopw [8] (fun i wr => ∃ k : Nat, k ≤ xss.length ∧ i = .int .i64 k ∧ (xss.take k).any t = false ∧ Below w.heap.size w wr) (fun i _ => xss.length - (intOf i).toNat)
  case atStart => exact ⟨0, Nat.zero_le _, rfl, by simp, Below.refl _ _⟩
  case round =>
    obtain ⟨k, hk, rfl, hn, hbr⟩ := hrel
    have HN := hid hn
    have HBR := hid hbr
    by_cases hk2 : k < xss.length
    · obtain ⟨vv, hcell, hsl⟩ := HS.out k hk2
      rw [← hbr.cell (p := ⟨b, off + k, none⟩) hlt] at hcell
      have HSL := hid (hsl.below hbr)
      have H1 := hid (anyR_take t xss k hk2 HN.out)
      have H2 := hid (anyR_at t xss k hk2)
      have HM := hid (getR_mem xss k hk2)
      clear hn hbr hsl
      generalize xss.getD k [] = xs at HSL H1 H2 HM
      obtain ⟨a, cc, hvv, _⟩ := HSL.out
      subst hvv
      have CON := hid (HK.out wr _ xs HBR.out HSL.out HM.out)
      cases hy : t xs
      · rw [hy] at CON
        go_wp2_with (go_at_call 84; refine CON.out.mono ?_; rintro e w2 ⟨rfl, hb2⟩)
        go_roundw
        case rel => exact ⟨k + 1, by omega, by go_num, H1.out hy, HBR.out.trans (hb2.mono HBR.out.size)⟩
        case measure => simp [intOf]; omega
      · rw [hy] at CON
        go_wp2_with (go_at_call 84; refine CON.out.mono ?_; rintro e w2 ⟨rfl, hb2⟩)
        go_ret
        exact ⟨(k : Int), rfl, by rw [H2.out hy]; simp, HBR.out.trans (hb2.mono HBR.out.size)⟩
    · clear hn hbr
      go_wp2
      go_ret
      exact ⟨-1, rfl, by have := HN.out; rw [List.take_of_length_le (by omega)] at this; rw [this]; simp, HBR.out⟩

set_option maxHeartbeats 400000 in
theorem containsLong_any (t : List Int → Bool) (v : Value) (xss : List (List Int)) (w : World) (hm : xss.length ≤ 400) (hr : Rws w v xss)
    (hK : ∀ (W : World) (v : Value) (xs : List Int), Below w.heap.size w W → Sl W v xs → xs ∈ xss → Calls Tryd.prog 84 #[v] W fun e w' => e = .returned (.bool (t xs)) ∧ Below W.heap.size W w') :
    Calls Tryd.prog 83 #[v, .func (.func 84) #[] #[]] w fun e w' => e = .returned (.bool (xss.any t)) ∧ Below w.heap.size w w' := by
  obtain ⟨a, cap, rfl, h1⟩ := hr
  have HK := hid hK
  clear hK
  by_cases h0 : 0 < xss.length
  · obtain ⟨b, off, rfl, hlt, hc⟩ := h1 h0
    have HC := hid hc
    clear hc h1 h0
    go_enter Tryd.func83, Tryd.ntmps83
    go_wp2_with (go_at_call 97; refine (indexLong_any t xss _ _ _ _ hm hlt HC.out HK.out).mono ?_; rintro e w' ⟨r, rfl, hr, hb⟩)
    go_ret
    exact ⟨by rw [← hr]; rfl, hb⟩
  · have e : xss = [] := List.length_eq_zero_iff.1 (by omega)
    subst e
    clear h1 h0 hm HK
    go_enter Tryd.func83, Tryd.ntmps83
    go_wp2_with (go_at_call 97; refine (indexNone_any _ _ _ _).mono ?_; rintro e w' ⟨rfl, rfl⟩)
    go_ret
    exact ⟨rfl, Below.refl _ _⟩

set_option maxHeartbeats 400000 in
theorem indexUnlike_any (t : List Int → Bool) (xss : List (List Int)) (b off cap cb : Nat) (w : World) (hm : xss.length ≤ 400) (hlt : b < w.heap.size) (hs : SlsAt w b off xss)
    (hK : ∀ (W : World) (v : Value) (xs : List Int), Below w.heap.size w W → Sl W v xs → xs ∈ xss → Calls Tryd.prog 85 #[v, .pointer (some ⟨cb, 0, none⟩)] W fun e w' => e = .returned (.bool (t xs)) ∧ Below W.heap.size W w') :
    Calls Tryd.prog 97 #[.slice (some ⟨b, off, none⟩) xss.length cap, .func (.func 85) #[] #[.pointer (some ⟨cb, 0, none⟩)]] w fun e w' =>
      ∃ r : Int, e = .returned (.int .i64 r) ∧ decide (0 ≤ r) = xss.any t ∧ Below w.heap.size w w' := by
  have HS := hid hs
  have HK := hid hK
  clear hs hK
  go_enter Tryd.func97, Tryd.ntmps97
  go_wp2
  go_loopw [8] (fun i wr => ∃ k : Nat, k ≤ xss.length ∧ i = .int .i64 k ∧ (xss.take k).any t = false ∧ Below w.heap.size w wr) (fun i _ => xss.length - (intOf i).toNat)
  case atStart => exact ⟨0, Nat.zero_le _, rfl, by simp, Below.refl _ _⟩
  case round =>
    obtain ⟨k, hk, rfl, hn, hbr⟩ := hrel
    have HN := hid hn
    have HBR := hid hbr
    by_cases hk2 : k < xss.length
    · obtain ⟨vv, hcell, hsl⟩ := HS.out k hk2
      rw [← hbr.cell (p := ⟨b, off + k, none⟩) hlt] at hcell
      have HSL := hid (hsl.below hbr)
      have H1 := hid (anyR_take t xss k hk2 HN.out)
      have H2 := hid (anyR_at t xss k hk2)
      have HM := hid (getR_mem xss k hk2)
      clear hn hbr hsl
      generalize xss.getD k [] = xs at HSL H1 H2 HM
      obtain ⟨a, cc, hvv, _⟩ := HSL.out
      subst hvv
      have CON := hid (HK.out wr _ xs HBR.out HSL.out HM.out)
      cases hy : t xs
      · rw [hy] at CON
        go_wp2_with (go_at_call 85; refine CON.out.mono ?_; rintro e w2 ⟨rfl, hb2⟩)
        go_roundw
        case rel => exact ⟨k + 1, by omega, by go_num, H1.out hy, HBR.out.trans (hb2.mono HBR.out.size)⟩
        case measure => simp [intOf]; omega
      · rw [hy] at CON
        go_wp2_with (go_at_call 85; refine CON.out.mono ?_; rintro e w2 ⟨rfl, hb2⟩)
        go_ret
        exact ⟨(k : Int), rfl, by rw [H2.out hy]; simp, HBR.out.trans (hb2.mono HBR.out.size)⟩
    · clear hn hbr
      go_wp2
      go_ret
      exact ⟨-1, rfl, by have := HN.out; rw [List.take_of_length_le (by omega)] at this; rw [this]; simp, HBR.out⟩

set_option maxHeartbeats 400000 in
theorem containsUnlike_any (t : List Int → Bool) (v : Value) (xss : List (List Int)) (cb : Nat) (w : World) (hm : xss.length ≤ 400) (hr : Rws w v xss)
    (hK : ∀ (W : World) (v : Value) (xs : List Int), Below w.heap.size w W → Sl W v xs → xs ∈ xss → Calls Tryd.prog 85 #[v, .pointer (some ⟨cb, 0, none⟩)] W fun e w' => e = .returned (.bool (t xs)) ∧ Below W.heap.size W w') :
    Calls Tryd.prog 83 #[v, .func (.func 85) #[] #[.pointer (some ⟨cb, 0, none⟩)]] w fun e w' => e = .returned (.bool (xss.any t)) ∧ Below w.heap.size w w' := by
  obtain ⟨a, cap, rfl, h1⟩ := hr
  have HK := hid hK
  clear hK
  by_cases h0 : 0 < xss.length
  · obtain ⟨b, off, rfl, hlt, hc⟩ := h1 h0
    have HC := hid hc
    clear hc h1 h0
    go_enter Tryd.func83, Tryd.ntmps83
    go_wp2_with (go_at_call 97; refine (indexUnlike_any t xss _ _ _ _ _ hm hlt HC.out HK.out).mono ?_; rintro e w' ⟨r, rfl, hr, hb⟩)
    go_ret
    exact ⟨by rw [← hr]; rfl, hb⟩
  · have e : xss = [] := List.length_eq_zero_iff.1 (by omega)
    subst e
    clear h1 h0 hm HK
    go_enter Tryd.func83, Tryd.ntmps83
    go_wp2_with (go_at_call 97; refine (indexNone_any _ _ _ _).mono ?_; rintro e w' ⟨rfl, rfl⟩)
    go_ret
    exact ⟨rfl, Below.refl _ _⟩

set_option maxHeartbeats 400000 in
theorem indexRange_any (t : List Int → Bool) (xss : List (List Int)) (b off cap cb : Nat) (w : World) (hm : xss.length ≤ 400) (hlt : b < w.heap.size) (hs : SlsAt w b off xss)
    (hK : ∀ (W : World) (v : Value) (xs : List Int), Below w.heap.size w W → Sl W v xs → xs ∈ xss → Calls Tryd.prog 86 #[v, .pointer (some ⟨cb, 0, none⟩)] W fun e w' => e = .returned (.bool (t xs)) ∧ Below W.heap.size W w') :
    Calls Tryd.prog 97 #[.slice (some ⟨b, off, none⟩) xss.length cap, .func (.func 86) #[] #[.pointer (some ⟨cb, 0, none⟩)]] w fun e w' =>
      ∃ r : Int, e = .returned (.int .i64 r) ∧ decide (0 ≤ r) = xss.any t ∧ Below w.heap.size w w' := by
  have HS := hid hs
  have HK := hid hK
  clear hs hK
  go_enter Tryd.func97, Tryd.ntmps97
  go_wp2
  go_loopw [8] (fun i wr => ∃ k : Nat, k ≤ xss.length ∧ i = .int .i64 k ∧ (xss.take k).any t = false ∧ Below w.heap.size w wr) (fun i _ => xss.length - (intOf i).toNat)
  case atStart => exact ⟨0, Nat.zero_le _, rfl, by simp, Below.refl _ _⟩
  case round =>
    obtain ⟨k, hk, rfl, hn, hbr⟩ := hrel
    have HN := hid hn
    have HBR := hid hbr
    by_cases hk2 : k < xss.length
    · obtain ⟨vv, hcell, hsl⟩ := HS.out k hk2
      rw [← hbr.cell (p := ⟨b, off + k, none⟩) hlt] at hcell
      have HSL := hid (hsl.below hbr)
      have H1 := hid (anyR_take t xss k hk2 HN.out)
      have H2 := hid (anyR_at t xss k hk2)
      have HM := hid (getR_mem xss k hk2)
      clear hn hbr hsl
      generalize xss.getD k [] = xs at HSL H1 H2 HM
      obtain ⟨a, cc, hvv, _⟩ := HSL.out
      subst hvv
      have CON := hid (HK.out wr _ xs HBR.out HSL.out HM.out)
      cases hy : t xs
      · rw [hy] at CON
        go_wp2_with (go_at_call 86; refine CON.out.mono ?_; rintro e w2 ⟨rfl, hb2⟩)
        go_roundw
        case rel => exact ⟨k + 1, by omega, by go_num, H1.out hy, HBR.out.trans (hb2.mono HBR.out.size)⟩
        case measure => simp [intOf]; omega
      · rw [hy] at CON
        go_wp2_with (go_at_call 86; refine CON.out.mono ?_; rintro e w2 ⟨rfl, hb2⟩)
        go_ret
        exact ⟨(k : Int), rfl, by rw [H2.out hy]; simp, HBR.out.trans (hb2.mono HBR.out.size)⟩
    · clear hn hbr
      go_wp2
      go_ret
      exact ⟨-1, rfl, by have := HN.out; rw [List.take_of_length_le (by omega)] at this; rw [this]; simp, HBR.out⟩

set_option maxHeartbeats 400000 in
theorem containsRange_any (t : List Int → Bool) (v : Value) (xss : List (List Int)) (cb : Nat) (w : World) (hm : xss.length ≤ 400) (hr : Rws w v xss)
    (hK : ∀ (W : World) (v : Value) (xs : List Int), Below w.heap.size w W → Sl W v xs → xs ∈ xss → Calls Tryd.prog 86 #[v, .pointer (some ⟨cb, 0, none⟩)] W fun e w' => e = .returned (.bool (t xs)) ∧ Below W.heap.size W w') :
    Calls Tryd.prog 83 #[v, .func (.func 86) #[] #[.pointer (some ⟨cb, 0, none⟩)]] w fun e w' => e = .returned (.bool (xss.any t)) ∧ Below w.heap.size w w' := by
  obtain ⟨a, cap, rfl, h1⟩ := hr
  have HK := hid hK
  clear hK
  by_cases h0 : 0 < xss.length
  · obtain ⟨b, off, rfl, hlt, hc⟩ := h1 h0
    have HC := hid hc
    clear hc h1 h0
    go_enter Tryd.func83, Tryd.ntmps83
    go_wp2_with (go_at_call 97; refine (indexRange_any t xss _ _ _ _ _ hm hlt HC.out HK.out).mono ?_; rintro e w' ⟨r, rfl, hr, hb⟩)
    go_ret
    exact ⟨by rw [← hr]; rfl, hb⟩
  · have e : xss = [] := List.length_eq_zero_iff.1 (by omega)
    subst e
    clear h1 h0 hm HK
    go_enter Tryd.func83, Tryd.ntmps83
    go_wp2_with (go_at_call 97; refine (indexNone_any _ _ _ _).mono ?_; rintro e w' ⟨rfl, rfl⟩)
    go_ret
    exact ⟨rfl, Below.refl _ _⟩

set_option maxHeartbeats 400000 in
theorem longFn_any (v : Value) (xs : List Int) (w : World) (hs : Sl w v xs) :
    Calls Tryd.prog 84 #[v] w fun e w' => e = .returned (.bool (decide (400 < (xs.length : Int)))) ∧ Below w.heap.size w w' := by
  obtain ⟨a, cap, rfl, _⟩ := hs
  go_enter Tryd.func84, Tryd.ntmps84
  go_wp2
  go_ret
  exact ⟨rfl, Below.refl _ _⟩

set_option maxHeartbeats 400000 in
theorem unlikeFn_any (v r : Value) (xs : List Int) (xss : List (List Int)) (cb : Nat) (w : World) (hs : Sl w v xs) (hr : Rws w r xss) (h0 : 0 < xss.length) (hc : w.cell? ⟨cb, 0, none⟩ = some r) :
    Calls Tryd.prog 85 #[v, .pointer (some ⟨cb, 0, none⟩)] w fun e w' => e = .returned (.bool ((xs.length : Int) != ((xss.getD 0 []).length : Int))) ∧ Below w.heap.size w w' := by
  obtain ⟨a, cap, rfl, _⟩ := hs
  obtain ⟨a2, cap2, rfl, h2⟩ := hr
  obtain ⟨b, off, rfl, hlt, hsl⟩ := h2 h0
  obtain ⟨vv, hcell, hs0⟩ := hsl 0 h0
  obtain ⟨a3, cap3, hvv, _⟩ := hs0
  subst hvv
  rw [Nat.add_zero] at hcell
  have h00 : (0 : Int) < (xss.length : Int) := by omega
  clear h2 hsl h0
  generalize (xss.getD 0 []).length = m at *
  go_enter Tryd.func85, Tryd.ntmps85
  go_wp2
  go_ret
  exact ⟨rfl, Below.refl _ _⟩

set_option maxHeartbeats 400000 in
theorem rangeFn_any (p : Int) (v : Value) (xs : List Int) (cb : Nat) (w : World) (hm : xs.length ≤ 400) (hs : Sl w v xs) (hc : w.cell? ⟨cb, 0, none⟩ = some (.int .i64 p)) :
    Calls Tryd.prog 86 #[v, .pointer (some ⟨cb, 0, none⟩)] w fun e w' => e = .returned (.bool (xs.any (outP p))) ∧ Below w.heap.size w w' := by
  have HS := hid hs
  obtain ⟨a, cap, rfl, _⟩ := hs
  go_enter Tryd.func86, Tryd.ntmps86
  go_wp2_with fail
  refine (anyOutside_any p _ xs _ hm HS.out).mono ?_
  rintro e w1 ⟨rfl, hb⟩
  go_wp2
  go_ret
  exact ⟨rfl, hb⟩

/-- What is said of rows, the prime being right. -/
def longR (xs : List Int) : Bool := decide (400 < (xs.length : Int))
def unlikeR (n : Nat) (xs : List Int) : Bool := (xs.length : Int) != (n : Int)
def rowE (p : Int) (xss : List (List Int)) : Int :=
  if 400 < (xss.length : Int) ∨ xss.any longR = true then 2 else if xss.any (unlikeR (xss.getD 0 []).length) then 1 else if xss.any (fun xs => xs.any (outP p)) then 3 else 0
def rowsE (p : Int) (xss : List (List Int)) : Int := if errP p = 0 then rowE p xss else errP p

end Go.Proofs.YtkmjmmnnnbjghaaDoor

/- Rows that came in. -/
namespace Go.Proofs.YtkmjmmnnnbjghaaDoor
set_option linter.unusedSimpArgs false
set_option linter.unusedVariables false
open Go.ChangeShapes Go.WideShapes Go.ChangeAt Go.RowKit Go.Deep

theorem Tryd.ownR : ownKnob Tryd.prog.godebug = none := by kernel_rfl
theorem Tryd.laidOutR : laidOutB Tryd.prog = true := by kernel_rfl
theorem Tryd.cellsIntR : Tryd.prog.cellsOf 3 = 1 := by kernel_rfl
theorem Tryd.cellsIntsR : Tryd.prog.cellsOf 36 = 1 := by kernel_rfl

theorem cellLt {w : World} {a : Addr} {v : Value} (h : w.cell? a = some v) : a.block < w.heap.size := World.block_lt_of_cell? w a h

theorem addrAt {w : World} {a : Addr} {v : Value} (h : w.cell? (a.add 0) = some v) : ∃ b off, a = ⟨b, off, none⟩ := by
  obtain ⟨b, off, spot⟩ := a
  have hspot : spot = none := by simpa [Addr.add] using World.cell?_spot h
  exact ⟨b, off, by rw [hspot]⟩
theorem cellAdd {w : World} {b off i : Nat} {v : Value} (h : w.cell? ((⟨b, off, none⟩ : Addr).add i) = some v) : w.cell? ⟨b, off + i, none⟩ = some v := by
  by_cases h0 : i = 0
  · subst h0; simpa [Addr.add] using h
  · simpa [Addr.add, h0] using h

theorem rws_of {H : Type} {enc : TypeId × Value → H} {W : World} {v : Value} {d : DataW H} {p : List MemPlace} (hv : ∃ a len cap, v = .slice a len cap)
    (h : DataW.Trod enc Tryd.prog W 0 (fun _ => true) true 79 v d p) : ∃ xss : List (List Int), Rws W v xss := by
  obtain ⟨a0, len0, cap0, rfl⟩ := hv
  obtain ⟨fuel, hf⟩ := h
  rcases open_int_rows Tryd.underlying79 Tryd.underlying36 Tryd.underlying3 Tryd.cellsIntsR Tryd.cellsIntR hf with ⟨hcs, _⟩ | ⟨a, len, cap, A, L, C, Z, hcs, _, hl, _, _, hall⟩
  · simp [Value.cells] at hcs
    obtain ⟨rfl, rfl, rfl⟩ := hcs
    exact ⟨[], none, 0, rfl, fun h => absurd h (by simp)⟩
  · simp [Value.cells] at hcs
    obtain ⟨rfl, rfl, rfl⟩ := hcs
    refine ⟨(List.range len0).map (fun r => (Z r).take (L r)), some a, cap0, by simp, fun hp => ?_⟩
    simp at hp
    obtain ⟨b, off, rfl⟩ := addrAt (hall 0 (by omega)).1
    refine ⟨b, off, rfl, cellLt (hall 0 (by omega)).1, fun i hi => ?_⟩
    simp at hi
    obtain ⟨hc, hL, _, hZ, _, hnone, hsome⟩ := hall i (by omega)
    have hg : ((List.range len0).map (fun r => (Z r).take (L r))).getD i [] = (Z i).take (L i) := by
      simp [List.getD_eq_getElem?_getD, hi]
    have hzl : ((Z i).take (L i)).length = L i := by rw [List.length_take]; omega
    rw [hg]
    refine ⟨_, cellAdd hc, A i, C i, by rw [hzl], fun hpos => ?_⟩
    rw [hzl] at hpos
    cases hA : A i with
    | none => have := hnone hA; omega
    | some a' =>
      obtain ⟨_, hcells⟩ := hsome a' hA
      obtain ⟨b', off', rfl⟩ := addrAt (hcells 0 (by omega))
      refine ⟨b', off', rfl, cellLt (hcells 0 (by omega)), fun j hj => ?_⟩
      rw [hzl] at hj
      have e : ((Z i).take (L i)).getD j 0 = (Z i).getD j 0 := by
        simp [List.getD_eq_getElem?_getD, List.getElem?_take, hj]
      rw [e]
      exact cellAdd (hcells j (by omega))

end Go.Proofs.YtkmjmmnnnbjghaaDoor

/- checkRows; CheckRows of the reference. -/
namespace Go.Proofs.YtkmjmmnnnbjghaaDoor
set_option linter.unusedSimpArgs false
set_option linter.unusedVariables false
open Go.RowKit

theorem belowTwo {w : World} {A B : Obj} : Below w.heap.size w ((w.alloc A).alloc B) := belowNew.trans (belowNew.mono (by simp))
theorem longR_ok {xss : List (List Int)} (h : xss.any longR = false) : ∀ xs ∈ xss, xs.length ≤ 400 := by
  intro xs hx
  rw [List.any_eq_false] at h
  have := h xs hx
  simp [longR] at this; omega

set_option maxHeartbeats 1000000 in
theorem checkRows_any (p : Int) (v : Value) (xss : List (List Int)) (w : World) (hr : Rws w v xss) :
    Calls Tryd.prog 73 #[.int .i64 p, v] w fun e w' => e = .returned (.int .i64 (rowsE p xss)) ∧ Below w.heap.size w w' := by
  have HR := hid hr
  obtain ⟨a, cap, rfl, _⟩ := hr
  cases hp : (errP p != 0)
  · have hp0 : errP p = 0 := by simpa using hp
    have HE : Hid (rowsE p xss = rowE p xss) := by unfold Hid rowsE; rw [if_pos hp0]
    rw [HE.out]
    clear HE hp0
    by_cases hl : 400 < (xss.length : Int)
    · have e : rowE p xss = 2 := by unfold rowE; rw [if_pos (Or.inl hl)]
      rw [e]
      clear e
      go_enter Tryd.func73, Tryd.ntmps73
      go_wp2_with fail
      refine (check_any _ _).mono ?_
      rintro e w' ⟨rfl, rfl⟩
      go_wp2
      go_ret
      exact ⟨rfl, belowTwo⟩
    · have hm : xss.length ≤ 400 := by omega
      cases h1 : xss.any longR
      · have h1' := longR_ok h1
        have H1 := hid h1'
        cases h2 : xss.any (unlikeR (xss.getD 0 []).length)
        · cases h3 : xss.any (fun xs => xs.any (outP p))
          all_goals
            have e : rowE p xss = if xss.any (fun xs => xs.any (outP p)) then 3 else 0 := by unfold rowE; rw [if_neg (by simp [h1]; omega), if_neg (by rw [h2]; exact Bool.false_ne_true)]
            rw [e, h3]
            clear e h1'
            go_enter Tryd.func73, Tryd.ntmps73
            go_wp2_with fail
            refine (check_any _ _).mono ?_
            rintro e w' ⟨rfl, rfl⟩
            go_wp2_with fail
            refine (containsLong_any longR _ xss _ hm (HR.out.below belowTwo) (fun W v xs hb hs _ => longFn_any v xs W hs)).mono ?_
            rintro e w1 ⟨rfl, hb1⟩
            have hc1 := hb1.cell (p := ⟨w.heap.size + 1, 0, none⟩) (by simp)
            have hc0 := hb1.cell (p := ⟨w.heap.size, 0, none⟩) (by simp; omega)
            have hs1 : w.heap.size + 2 ≤ w1.heap.size := by have := hb1.size; simp at this; omega
            have hbw1 : Below w.heap.size w w1 := belowTwo.trans (hb1.mono (by simp; omega))
            simp [go_sem] at hc1 hc0
            clear hb1
            go_wp2_with fail
            refine (containsUnlike_any (unlikeR (xss.getD 0 []).length) _ xss _ _ hm (HR.out.below hbw1) (fun W v xs hb hs hx => unlikeFn_any v _ xs xss _ W hs (HR.out.below (hbw1.trans (hb.mono hbw1.size))) (List.length_pos_of_mem hx) (by rw [hb.cell (p := ⟨w.heap.size + 1, 0, none⟩) (show w.heap.size + 1 < _ by omega)]; exact hc1))).mono ?_
            rintro e w2 ⟨rfl, hb2⟩
            rw [h2]
            have hd1 := hb2.cell (p := ⟨w.heap.size + 1, 0, none⟩) (show w.heap.size + 1 < _ by omega)
            have hd0 := hb2.cell (p := ⟨w.heap.size, 0, none⟩) (show w.heap.size < _ by omega)
            rw [hc1] at hd1
            rw [hc0] at hd0
            have hs2 : w.heap.size + 2 ≤ w2.heap.size := Nat.le_trans hs1 hb2.size
            have hbw2 : Below w.heap.size w w2 := hbw1.trans (hb2.mono hbw1.size)
            clear hb2 hc0 hc1 hs1 hbw1
            go_wp2_with fail
            refine (containsRange_any (fun xs => xs.any (outP p)) _ xss _ _ hm (HR.out.below hbw2) (fun W v xs hb hs hx => rangeFn_any p v xs _ W (H1.out xs hx) hs (by rw [hb.cell (p := ⟨w.heap.size, 0, none⟩) (show w.heap.size < _ by omega)]; exact hd0))).mono ?_
            rintro e w3 ⟨rfl, hb3⟩
            have hbw3 : Below w.heap.size w w3 := hbw2.trans (hb3.mono hbw2.size)
            rw [h3]
            go_wp2
            go_ret
            exact ⟨rfl, hbw3⟩
        · have e : rowE p xss = 1 := by unfold rowE; rw [if_neg (by simp [h1]; omega), if_pos h2]
          rw [e]
          clear e h1'
          go_enter Tryd.func73, Tryd.ntmps73
          go_wp2_with fail
          refine (check_any _ _).mono ?_
          rintro e w' ⟨rfl, rfl⟩
          go_wp2_with fail
          refine (containsLong_any longR _ xss _ hm (HR.out.below belowTwo) (fun W v xs hb hs _ => longFn_any v xs W hs)).mono ?_
          rintro e w1 ⟨rfl, hb1⟩
          have hc1 := hb1.cell (p := ⟨w.heap.size + 1, 0, none⟩) (by simp)
          have hs1 : w.heap.size + 2 ≤ w1.heap.size := by have := hb1.size; simp at this; omega
          have hbw1 : Below w.heap.size w w1 := belowTwo.trans (hb1.mono (by simp; omega))
          simp [go_sem] at hc1
          clear hb1
          go_wp2_with fail
          refine (containsUnlike_any (unlikeR (xss.getD 0 []).length) _ xss _ _ hm (HR.out.below hbw1) (fun W v xs hb hs hx => unlikeFn_any v _ xs xss _ W hs (HR.out.below (hbw1.trans (hb.mono hbw1.size))) (List.length_pos_of_mem hx) (by rw [hb.cell (p := ⟨w.heap.size + 1, 0, none⟩) (show w.heap.size + 1 < _ by omega)]; exact hc1))).mono ?_
          rintro e w2 ⟨rfl, hb2⟩
          rw [h2]
          go_wp2
          go_ret
          exact ⟨rfl, hbw1.trans (hb2.mono hbw1.size)⟩
      · have e : rowE p xss = 2 := by unfold rowE; rw [if_pos (Or.inr h1)]
        rw [e]
        clear e
        go_enter Tryd.func73, Tryd.ntmps73
        go_wp2_with fail
        refine (check_any _ _).mono ?_
        rintro e w' ⟨rfl, rfl⟩
        go_wp2_with fail
        refine (containsLong_any longR _ xss _ hm (HR.out.below belowTwo) (fun W v xs hb hs _ => longFn_any v xs W hs)).mono ?_
        rintro e w1 ⟨rfl, hb1⟩
        go_wp2
        go_ret
        exact ⟨rfl, belowTwo.trans (hb1.mono (by simp; omega))⟩
  · have e : rowsE p xss = errP p := by unfold rowsE; rw [if_neg (by simpa using hp)]
    rw [e]
    clear e
    go_enter Tryd.func73, Tryd.ntmps73
    go_wp2_with fail
    refine (check_any _ _).mono ?_
    rintro e w' ⟨rfl, rfl⟩
    go_wp2
    go_ret
    exact ⟨rfl, belowTwo⟩

end Go.Proofs.YtkmjmmnnnbjghaaDoor

/- Clone; clearing a column. -/
namespace Go.Proofs.YtkmjmmnnnbjghaaDoor
set_option linter.unusedSimpArgs false
set_option linter.unusedVariables false
open Go.RowKit

theorem Tryd.infoInt : (Tryd.prog.info? 3).map (fun i => (i.zero, i.size, i.bytes)) = some (some (.int .i64 0), 1, 8) := by kernel_rfl
abbrev ints (xs : List Int) : List Value := xs.map (Value.int .i64)
/-- A row of the call's own. -/
def Own (w : World) (B : Nat) (v : Value) (xs : List Int) : Prop := w.ownsRow B 3 1 v xs.length (ints xs)

theorem intsAt_news {w : World} {b off : Nat} {xs : List Int} (h : IntsAt w b off xs) : ∀ j u, (ints xs)[j]? = some u → w.cell? ((⟨b, off, none⟩ : Addr).add j) = some u := by
  intro j u hj
  rw [List.getElem?_map] at hj
  cases hx : xs[j]? with
  | none => rw [hx] at hj; simp at hj
  | some x =>
    rw [hx] at hj
    simp at hj
    subst hj
    have hl : j < xs.length := by
      apply Nat.lt_of_not_le; intro hle; rw [List.getElem?_eq_none hle] at hx; simp at hx
    have := h j hl
    rw [List.getD_eq_getElem?_getD, hx] at this
    by_cases h0 : j = 0
    · subst h0; simpa [Addr.add] using this
    · simpa [Addr.add, h0] using this
theorem ints_one (xs : List Int) : ∀ u ∈ ints xs, u.oneCell' = true := by
  intro u hu
  simp at hu
  obtain ⟨x, _, rfl⟩ := hu
  rfl

set_option maxHeartbeats 400000 in
theorem clone_any (v : Value) (xs : List Int) (w : World) (hm : xs.length ≤ 400) (hs : Sl w v xs) :
    Calls Tryd.prog 77 #[v] w fun e w' => ∃ u, e = .returned u ∧ Own w' w.heap.size u xs ∧ Below w.heap.size w w' := by
  obtain ⟨a, cap, rfl, h1⟩ := hs
  have hnil := fun (w : World) (a : Option Addr) (n c : Nat) => Lib.run_eql_slice_nil (P := Tryd.prog) w 36 3 a n c 0 0 Tryd.underlying36
  obtain ⟨i0, hi, hz0, hz1, hz2⟩ := info_parts Tryd.infoInt
  cases a with
  | none =>
    have h0 : xs = [] := List.length_eq_zero_iff.1 (by
      apply Nat.eq_zero_of_not_pos; intro h; obtain ⟨b, off, hh, _⟩ := h1 h; simp at hh)
    subst h0
    clear h1
    go_enter Tryd.func77, Tryd.ntmps77
    go_wp2
    go_ret
    exact ⟨_, rfl, World.ownsRow_nil _ _ _ _, Below.refl _ _⟩
  | some ad =>
    have HN : Hid (∀ j u, (ints xs)[j]? = some u → (w.alloc (.cells #[] 3)).cell? (ad.add j) = some u) := by
      intro j u hj
      by_cases h0 : 0 < xs.length
      · obtain ⟨b, off, hh, hlt, hc⟩ := h1 h0
        simp at hh
        subst hh
        refine intsAt_news (w := w.alloc (.cells #[] 3)) (b := b) (off := off) ?_ j u hj
        intro i hi
        rw [belowNew.cell (p := ⟨b, off + i, none⟩) hlt]; exact hc i hi
      · have : xs = [] := List.length_eq_zero_iff.1 (by omega)
        subst this; simp at hj
    clear h1
    go_enter Tryd.func77, Tryd.ntmps77
    go_wp2_with (at_builtin; refine wpList_append_own _ rfl _ _ 36 rfl w.heap.size 3 i0 (.int .i64 0) 1 8 Tryd.underlying36 hi hz0 hz1 hz2 rfl (by decide) _ _ _ rfl (World.ownsRow_made w #[] 0 (Nat.le_refl _) (by decide) (by simp)) ad xs.length cap (ints xs) rfl (by simp) HN.out (ints_one xs) (by unfold maxLen; omega) (by omega) (by simp) ?_)
    intro v' w1 hown' hgrow _
    try simp only [Nat.zero_add, List.nil_append] at hown'
    have hb : Below w.heap.size w w1 := (belowNew).grown hgrow (by simp) (fun k hk => by simp [Value.ownBlock] at hk; omega)
    have HO := hid hown'
    obtain ⟨g, c, hv⟩ : ∃ g c, v' = .slice g xs.length c := by
      rcases hown'.2 with ⟨h, h'⟩ | ⟨g, c, cur, h, _⟩
      · exact ⟨none, 0, by rw [h, h']⟩
      · exact ⟨_, c, h⟩
    subst hv
    clear hown' hgrow hnil
    go_wp2
    go_ret
    exact ⟨_, rfl, HO.out, hb⟩

end Go.Proofs.YtkmjmmnnnbjghaaDoor
