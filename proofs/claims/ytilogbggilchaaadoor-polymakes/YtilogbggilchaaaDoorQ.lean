/- Over; the reference's degree, and what goes into what. -/
import Derived.Test.YtilogbggilchaaaDoorL
namespace Go.Proofs.YtilogbggilchaaaDoor
set_option linter.unusedSimpArgs false
set_option linter.unusedVariables false
open Go.RowKit
set_option maxHeartbeats 400000 in
theorem degreeOf_any (xs : List Int) (b off cap : Nat) (w : World) (hxs : ∀ x ∈ xs, 0 ≤ x ∧ x ≤ 400) (hl : xs.length ≤ 3) (hc : IntsAt w b off xs) :
    Calls Tryd.prog 46 #[.slice (some ⟨b, off, none⟩) xs.length cap] w fun e w' => e = .returned (.int .i64 (sumI xs)) ∧ w' = w := by
  have HC := hid hc
  clear hc
  go_enter Tryd.func46, Tryd.ntmps46
  go_wp2
  go_loop [3, 4] (fun n i => ∃ k : Nat, k ≤ xs.length ∧ i = .int .i64 k ∧ n = .int .i64 (sumI (xs.take k))) (fun _ i => xs.length - (intOf i).toNat)
  case atStart => exact ⟨0, Nat.zero_le _, rfl, rfl⟩
  case round =>
    obtain ⟨k, hk, rfl, rfl⟩ := hrel
    have hd := sumI_bd (xs.take k) (fun x hx => hxs x (List.mem_of_mem_take hx))
    have hl2 : (xs.take k).length ≤ k := List.length_take_le _ _
    by_cases hlt : k < xs.length
    · have hsn := sumI_take xs k hlt
      have hb := hxs _ (getD_mem xs k hlt)
      have hcell := HC.out k hlt
      generalize xs.getD k 0 = y at hsn hb hcell
      have HS := hid hsn
      clear hsn hxs
      go_wp2
      go_round
      case rel => exact ⟨k + 1, by omega, by go_num, by rw [HS.out]⟩
      case measure => simp [intOf]; omega
    · go_wp2
      go_ret
      exact ⟨ret_int (by rw [List.take_of_length_le (by omega)]), rfl⟩
end Go.Proofs.YtilogbggilchaaaDoor
