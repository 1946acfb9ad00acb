/- Normal: its closure, IndexFunc and ContainsFunc. -/
import Derived.Test.YtilogbggilchaaaGreatQD
namespace Go.Proofs.YtilogbggilchaaaGreat
set_option linter.unusedSimpArgs false
set_option linter.unusedVariables false
open Go.RowKit
set_option maxRecDepth 100000 in
set_option maxHeartbeats 1000000 in
theorem normCl_any (p : Int) (B db : Nat) (v : Value) (ds : List De) (t : Ft) (w : World) (hc : w.cell? ⟨db, 0, none⟩ = some v) (hd : DvsW p B w v ds) (hn : ds.length ≤ 1000) :
    Calls Tryz.prog 30 #[ftV t, .pointer (some ⟨db, 0, none⟩)] w fun e w' => e = .returned (.bool (fI t ds).isSome) ∧ Below w.heap.size w w' := by
  obtain ⟨w1, hw1⟩ : ∃ w1, w1 = w.alloc (.cells #[.int .i64 t.k, .int .u16 t.a, .int .u16 t.b, .int .u16 t.d, .int .u16 t.z, .int .u8 t.pl, .int .u8 t.c] 52) := ⟨_, rfl⟩
  have HB1 : Hid (Below w.heap.size w w1) := by rw [hw1]; exact belowNew
  have HX1 : Hid (Bx w.heap.size w1 w.heap.size t) := by rw [hw1]; exact box7 (Nat.le_refl _) t
  have HFI := hid (first_any p B v ds t w1 (hd.next HB1.out) hn)
  obtain ⟨y0, y1, y2, y3, y4, y5, y6⟩ := HX1.out.at
  simp only [Nat.zero_add] at y0 y1 y2 y3 y4 y5 y6
  have z1 := cell_keep hc HB1.out
  obtain ⟨va, vc, rfl⟩ := own_sl hd.own
  clear hd hc
  unfold ftV at HFI ⊢
  cases hf : fI t ds with
  | none =>
    rw [hf] at HFI
    simp only [ptrD, Option.map_none] at HFI
    clear hf
    go_enter Tryz.func30, Tryz.ntmps30
    go_upto_region 1 with fail
    rw [← hw1]
    clear hw1
    go_wp2_with (go_at_call 26; refine HFI.out.mono ?_; rintro e w9 ⟨rfl, hb9⟩; have HB9 := hid hb9; clear hb9)
    go_ret
    exact ⟨rfl, HB1.out.trans (HB9.out.mono HB1.out.size)⟩
  | some k =>
    rw [hf] at HFI
    simp only [ptrD, Option.map_some] at HFI
    clear hf
    go_enter Tryz.func30, Tryz.ntmps30
    go_upto_region 1 with fail
    rw [← hw1]
    clear hw1
    go_wp2_with (go_at_call 26; refine HFI.out.mono ?_; rintro e w9 ⟨rfl, hb9⟩; have HB9 := hid hb9; clear hb9)
    go_ret
    exact ⟨rfl, HB1.out.trans (HB9.out.mono HB1.out.size)⟩
def ixD (ds : List De) (fs : List Ft) : Int := match fs.findIdx? (fun t => (fI t ds).isSome) with
  | none => -1
  | some k => k

set_option maxRecDepth 100000 in
set_option maxHeartbeats 1000000 in
theorem indexFn_any (p : Int) (B db : Nat) (v x : Value) (ds : List De) (fs : List Ft) (w : World) (hc : w.cell? ⟨db, 0, none⟩ = some v) (hd : DvsW p B w v ds) (hn : ds.length ≤ 1000) (hf : Fv w x fs) (hfl : fs.length ≤ 100000000000) :
    Calls Tryz.prog 67 #[x, .func (.func 30) #[] #[.pointer (some ⟨db, 0, none⟩)]] w fun e w' => e = .returned (.int .i64 (ixD ds fs)) ∧ Below w.heap.size w w' := by
  have HCL : Hid (∀ W t, Below w.heap.size w W → Calls Tryz.prog 30 #[ftV t, .pointer (some ⟨db, 0, none⟩)] W fun e w' => e = .returned (.bool (fI t ds).isSome) ∧ Below W.heap.size W w') := fun W t hb => normCl_any p B db v ds t W (cell_keep hc hb) (hd.next hb) hn
  have HF := hid hf
  obtain ⟨xa, xc, rfl, _, _⟩ := hf
  clear hd hc
  go_enter Tryz.func67, Tryz.ntmps67
  go_wp2_with fail
  go_loopw [8] (fun i wr => ∃ m : Nat, m ≤ fs.length ∧ i = .int .i64 m ∧ (∀ j (h : j < fs.length), j < m → (fI fs[j] ds).isSome = false) ∧ Below w.heap.size w wr) (fun i _ => fs.length - (intOf i).toNat)
  case atStart => exact ⟨0, Nat.zero_le _, rfl, fun j _ h => by omega, Below.refl _ _⟩
  case round =>
    obtain ⟨m, hm, rfl, hno, hbr⟩ := hrel
    have HNO := hid hno
    have HBR := hid hbr
    clear hno hbr
    by_cases hm2 : m < fs.length
    · obtain ⟨b, off, rfl, hlt, _, hft⟩ := (HF.out.below HBR.out).at m hm2
      have e : fs.getD m noF = fs[m] := by simp [List.getD_eq_getElem?_getD, hm2]
      rw [e] at hft
      obtain ⟨f0, f1, f2, f3, f4, f5, f6⟩ := hft
      have HC := hid (HCL.out wr fs[m] HBR.out)
      have HFI : Hid ((fI fs[m] ds).isSome = true → ixD ds fs = m) := fun h => by
        unfold ixD
        have : fs.findIdx? (fun t => (fI t ds).isSome) = some m := by
          rw [List.findIdx?_eq_some_iff_getElem]
          exact ⟨hm2, h, fun j hj => by have := HNO.out j (by omega) hj; simp [this]⟩
        rw [this]
      have HNX : Hid ((fI fs[m] ds).isSome = false → ∀ j (h : j < fs.length), j < m + 1 → (fI fs[j] ds).isSome = false) := fun h j hj hjm => by
        rcases Nat.lt_succ_iff_lt_or_eq.1 hjm with h2 | rfl
        · exact HNO.out j hj h2
        · exact h
      unfold ftV at HC
      clear e
      generalize (fI fs[m] ds).isSome = bb at HC HFI HNX
      generalize fs[m] = t at HC f0 f1 f2 f3 f4 f5 f6
      cases bb with
      | true =>
        have HE := hid (HFI.out rfl)
        go_wp2_with (go_at_call 30; refine HC.out.mono ?_; rintro e w9 ⟨rfl, hb9⟩; have HB9 := hid hb9; clear hb9)
        go_ret
        exact ⟨by rw [HE.out]; rfl, HBR.out.trans (HB9.out.mono HBR.out.size)⟩
      | false =>
        have HN2 := hid (HNX.out rfl)
        clear HNX
        go_wp2_with (go_at_call 30; refine HC.out.mono ?_; rintro e w9 ⟨rfl, hb9⟩; have HB9 := hid hb9; clear hb9)
        go_roundw
        case rel => exact ⟨m + 1, by omega, by go_num, HN2.out, HBR.out.trans (HB9.out.mono HBR.out.size)⟩
        case measure => simp [intOf]; omega
    · have e : m = fs.length := by omega
      subst e
      have HE : Hid (ixD ds fs = -1) := by
        show _ = _
        unfold ixD
        have : fs.findIdx? (fun t => (fI t ds).isSome) = none := by
          rw [List.findIdx?_eq_none_iff]
          intro t ht
          obtain ⟨j, hj, rfl⟩ := List.getElem_of_mem ht
          exact HNO.out j hj hj
        rw [this]
      go_wp2
      go_ret
      exact ⟨by rw [HE.out]; rfl, HBR.out⟩

set_option maxRecDepth 100000 in
set_option maxHeartbeats 1000000 in
theorem containsFn_any (p : Int) (B db : Nat) (v x : Value) (ds : List De) (fs : List Ft) (w : World) (hc : w.cell? ⟨db, 0, none⟩ = some v) (hd : DvsW p B w v ds) (hn : ds.length ≤ 1000) (hf : Fv w x fs) (hfl : fs.length ≤ 100000000000) :
    Calls Tryz.prog 29 #[x, .func (.func 30) #[] #[.pointer (some ⟨db, 0, none⟩)]] w fun e w' => e = .returned (.bool (fs.any fun t => (fI t ds).isSome)) ∧ Below w.heap.size w w' := by
  have HIX := hid (indexFn_any p B db v x ds fs w hc hd hn hf hfl)
  have HAN : Hid (decide (0 ≤ ixD ds fs) = fs.any fun t => (fI t ds).isSome) := by
    show _ = _
    unfold ixD
    cases h : fs.findIdx? (fun t => (fI t ds).isSome) with
    | none =>
      rw [List.findIdx?_eq_none_iff] at h
      have : (fs.any fun t => (fI t ds).isSome) = false := by
        rw [List.any_eq_false]
        intro t ht
        have := h t ht
        simp [this]
      rw [this]; rfl
    | some k =>
      rw [List.findIdx?_eq_some_iff_getElem] at h
      obtain ⟨hk, h1, _⟩ := h
      have : (fs.any fun t => (fI t ds).isSome) = true := List.any_eq_true.2 ⟨fs[k], List.getElem_mem hk, h1⟩
      rw [this]; simp
  obtain ⟨xa, xc, rfl, _, _⟩ := hf
  clear hd hc
  generalize ixD ds fs = ix at HIX HAN
  go_enter Tryz.func29, Tryz.ntmps29
  go_wp2_with (go_at_call 67; refine HIX.out.mono ?_; rintro e w9 ⟨rfl, hb9⟩; have HB9 := hid hb9; clear hb9)
  go_ret
  exact ⟨by rw [← HAN.out]; rfl, HB9.out⟩
end Go.Proofs.YtilogbggilchaaaGreat
