/- Over; the reference's degree, and what goes into what. -/
import Derived.Test.YtbjellgkmolifaaL
namespace Go.Proofs.Ytbjellgkmolifaa
set_option linter.unusedSimpArgs false
set_option linter.unusedVariables false
open Go.RowKit

def negI (x : Int) : Bool := decide (x < 0)
theorem negI_take (zs : List Int) (k : Nat) (h : k < zs.length) : (zs.take (k + 1)).any negI = ((zs.take k).any negI || negI (zs.getD k 0)) := by
  rw [List.take_succ_eq_append_getElem h, List.any_append]
  simp [List.getD_eq_getElem?_getD, h]
theorem ret_int2 {k : IntKind} {a b : Int} (h : a = b) : Value.int k a = .int k b := by rw [h]

set_option maxHeartbeats 400000 in
theorem min_any (zs : List Int) (b off cap : Nat) (w : World) (hm : zs.length ≤ 3) (h0 : 0 < zs.length) (hc : IntsAt w b off zs) :
    Calls Try.prog 67 #[.slice (some ⟨b, off, none⟩) zs.length cap] w fun e w' => ∃ r : Int, e = .returned (.int .i64 r) ∧ decide (r < 0) = zs.any negI ∧ w' = w := by
  have HC := hid hc
  have hcell0 := hc 0 h0
  clear hc
  have hone : (zs.take 1).any negI = negI (zs.getD 0 0) := by
    have := negI_take zs 0 h0; simpa using this
  have HONE := hid hone
  clear hone
  rw [Nat.add_zero] at hcell0
  generalize zs.getD 0 0 = z0 at hcell0 HONE
  go_enter Try.func67, Try.ntmps67
  go_wp2
  go_loop [3, 4] (fun m i => ∃ k : Nat, 1 ≤ k ∧ k ≤ zs.length ∧ i = .int .i64 k ∧ ∃ r : Int, m = .int .i64 r ∧ decide (r < 0) = (zs.take k).any negI) (fun _ i => zs.length - (intOf i).toNat)
  case atStart => exact ⟨1, by omega, by omega, rfl, z0, rfl, HONE.out.symm⟩
  case round =>
    clear hcell0 HONE
    obtain ⟨k, hk1, hk, rfl, r, rfl, hr⟩ := hrel
    have HR := hid hr
    clear hr
    by_cases hk2 : k < zs.length
    · have hcell := HC.out k hk2
      have HN := hid (negI_take zs k hk2)
      generalize zs.getD k 0 = z at hcell HN
      go_wp2
      all_goals
        go_round
        case rel =>
          refine ⟨k + 1, by omega, by omega, by go_num, _, rfl, ?_⟩
          rw [HN.out, ← HR.out]
          unfold negI
          rw [← Bool.decide_or]
          exact decide_eq_decide.2 (by omega)
        case measure => simp [intOf]; omega
    · go_wp2
      go_ret
      refine ⟨r, rfl, ?_, rfl⟩
      have := HR.out
      rwa [List.take_of_length_le (by omega)] at this

set_option maxHeartbeats 400000 in
theorem degreeOf_any (xs : List Int) (b off cap : Nat) (w : World) (hxs : ∀ x ∈ xs, 0 ≤ x ∧ x ≤ 400) (hl : xs.length ≤ 3) (hc : IntsAt w b off xs) :
    Calls Try.prog 29 #[.slice (some ⟨b, off, none⟩) xs.length cap] w fun e w' => e = .returned (.int .i64 (sumI xs)) ∧ w' = w := by
  have HC := hid hc
  clear hc
  go_enter Try.func29, Try.ntmps29
  go_wp2
  go_loop [3, 4] (fun n i => ∃ k : Nat, k ≤ xs.length ∧ i = .int .i64 k ∧ n = .int .i64 (sumI (xs.take k))) (fun _ i => xs.length - (intOf i).toNat)
  case atStart => exact ⟨0, Nat.zero_le _, rfl, rfl⟩
  case round =>
    obtain ⟨k, hk, rfl, rfl⟩ := hrel
    have hd := sumI_bd (xs.take k) (fun x hx => hxs x (List.mem_of_mem_take hx))
    have hl2 : (xs.take k).length ≤ k := List.length_take_le _ _
    by_cases hlt : k < xs.length
    · have hsn := sumI_take xs k hlt
      have hb := hxs _ (getD_mem xs k hlt)
      have hcell := HC.out k hlt
      generalize xs.getD k 0 = y at hsn hb hcell
      have HS := hid hsn
      clear hsn hxs
      go_wp2
      go_round
      case rel => exact ⟨k + 1, by omega, by go_num, by rw [HS.out]⟩
      case measure => simp [intOf]; omega
    · go_wp2
      go_ret
      exact ⟨ret_int (by rw [List.take_of_length_le (by omega)]), rfl⟩

/-- What is left of xs over ys: is one below 0? -/
def lackB (xs ys : List Int) : Bool := (zipI (· - ·) xs ys).any negI

set_option maxHeartbeats 400000 in
theorem goesInto_any (xs ys : List Int) (b off cap b2 off2 cap2 : Nat) (w : World) (hm : xs.length ≤ 3) (hxy : xs.length = ys.length) (hc : IntsAt w b off xs) (hc2 : IntsAt w b2 off2 ys) :
    Calls Try.prog 30 #[.slice (some ⟨b2, off2, none⟩) ys.length cap2, .slice (some ⟨b, off, none⟩) xs.length cap] w fun e w' =>
      e = .returned (.bool (!lackB xs ys)) ∧ ∃ n, w' = w.drewN n := by
  have HC := hid hc
  have HC2 := hid hc2
  rw [← hxy]
  have HXY := hid hxy
  have hlz := zipI_len (· - ·) xs ys hxy
  have HLZ := hid hlz
  clear hc hc2 hxy hlz
  go_enter Try.func30, Try.ntmps30
  go_wp2
  go_loopw [5] (fun i wr => ∃ k n : Nat, k ≤ xs.length ∧ i = .int .i64 k ∧ ((zipI (· - ·) xs ys).take k).any negI = false ∧ wr = w.drewN n) (fun i _ => xs.length - (intOf i).toNat)
  case atStart => exact ⟨0, 0, Nat.zero_le _, rfl, rfl, rfl⟩
  case round =>
    obtain ⟨k, n0, hk, rfl, hn, hw0⟩ := hrel
    have HN := hid hn
    have HW := hid hw0
    clear hn hw0
    by_cases hk2 : k < xs.length
    · have hcell := HC.out k hk2
      have hcell2 := HC2.out k (by rw [← HXY.out]; exact hk2)
      have e1 : ∀ a, wr.cell? a = w.cell? a := fun a => by rw [HW.out]; rfl
      rw [← e1] at hcell hcell2
      clear e1
      have hz := zipI_at (· - ·) xs ys HXY.out k hk2
      have ht := negI_take (zipI (· - ·) xs ys) k (by rw [HLZ.out]; exact hk2)
      have ha := any_at negI (zipI (· - ·) xs ys) k (by rw [HLZ.out]; exact hk2)
      rw [hz] at ht ha
      have HT := hid ht
      have HA := hid ha
      clear hz ht ha
      generalize xs.getD k 0 = x at hcell HT HA
      generalize ys.getD k 0 = y at hcell2 HT HA
      by_cases hy : x < y
      · go_wp2
        go_quiet (fail)
        go_wp2
        go_ret
        refine ⟨?_, _, by rw [HW.out, World.drewN_drewN]⟩
        unfold lackB
        rw [HA.out (by unfold negI; exact decide_eq_true (by omega))]
        rfl
      · go_wp2
        go_quiet (fail)
        go_wp2
        go_roundw
        case rel => exact ⟨k + 1, _, by omega, by go_num, by rw [HT.out, HN.out, Bool.false_or]; unfold negI; exact decide_eq_false (by omega), by rw [HW.out, World.drewN_drewN]⟩
        case measure => simp [intOf]; omega
    · go_wp2
      go_ret
      refine ⟨?_, n0, HW.out⟩
      have := HN.out
      rw [List.take_of_length_le (by rw [HLZ.out]; omega)] at this
      unfold lackB
      rw [this]
      rfl

end Go.Proofs.Ytbjellgkmolifaa
