/- CheckRows of the reference. -/
import Derived.Test.YtbjellgkmolifaaFK
namespace Go.Proofs.Ytbjellgkmolifaa
set_option linter.unusedSimpArgs false
set_option linter.unusedVariables false
open Go.RowKit

theorem outP_between (p x : Int) : outP p x = !betweenB x 0 (p - 1) := by
  unfold outP betweenB
  by_cases h1 : 0 ≤ x <;> by_cases h2 : x ≤ p - 1 <;> simp [h1, h2] <;> omega
theorem slFacts {w : World} {b off : Nat} {xss : List (List Int)} (h : SlsAt w b off xss) (k : Nat) (hk : k < xss.length) : ∃ a c, w.cell? ⟨b, off + k, none⟩ = some (.slice a (xss.getD k []).length c) ∧ Sl w (.slice a (xss.getD k []).length c) (xss.getD k []) := by
  obtain ⟨v, hc, hs⟩ := h k hk
  obtain ⟨a, c, rfl, _⟩ := id hs
  exact ⟨a, c, hc, hs⟩

set_option maxRecDepth 100000 in
set_option maxHeartbeats 2000000 in
theorem checkRowsRef_any (p : Int) (v : Value) (xss : List (List Int)) (w : World) (hp : 2 ≤ p ∧ p ≤ 101) (hr : Rws w v xss) :
    Calls Try.prog 19 #[.int .i64 p, v] w fun e w' => e = .returned (.int .i64 (rowE p xss)) ∧ Below w.heap.size w w' := by
  obtain ⟨a, cap, rfl, hr⟩ := hr
  obtain ⟨hp1, hp2⟩ := hp
  by_cases hl : 400 < (xss.length : Int)
  · have e : rowE p xss = 2 := by unfold rowE; rw [if_pos (Or.inl hl)]
    rw [e]
    clear e hr
    go_enter Try.func19, Try.ntmps19
    go_wp2
    go_ret
    exact ⟨rfl, Below.refl _ _⟩
  · by_cases h0 : 0 < xss.length
    · obtain ⟨b, off, rfl, hlt, hs⟩ := hr h0
      have HS := hid hs
      have HR2 : Hid (xss.any longR = true → rowE p xss = 2) := fun h => by unfold rowE; rw [if_pos (Or.inr h)]
      have HR1 : Hid (xss.any longR = false → xss.any (unlikeR (xss.getD 0 []).length) = true → rowE p xss = 1) := fun h h' => by
        unfold rowE; rw [if_neg (by rw [h]; simp; omega), if_pos h']
      have HR3 : Hid (xss.any longR = false → xss.any (unlikeR (xss.getD 0 []).length) = false → rowE p xss = if xss.any (fun xs => xs.any (outP p)) then 3 else 0) := fun h h' => by
        unfold rowE; rw [if_neg (by rw [h]; simp; omega), if_neg (by rw [h']; exact Bool.false_ne_true)]
      clear hr hs
      obtain ⟨z0, zc0, hz1, _⟩ := slFacts HS.out 0 h0
      rw [Nat.add_zero] at hz1
      go_enter Try.func19, Try.ntmps19
      go_wp2
      go_loop [5] (fun i => ∃ k : Nat, k ≤ xss.length ∧ i = .int .i64 k ∧ (xss.take k).any longR = false) (fun i => xss.length - (intOf i).toNat)
      case atStart => exact ⟨0, Nat.zero_le _, rfl, by simp⟩
      case round =>
        obtain ⟨k, hk, rfl, hn⟩ := hrel
        have HN := hid hn
        clear hn
        by_cases hk2 : k < xss.length
        · obtain ⟨sa, sc, hcell, _⟩ := slFacts HS.out k hk2
          have H1 := hid (anyR_take longR xss k hk2 HN.out)
          have H2 := hid (anyR_at longR xss k hk2)
          generalize xss.getD k [] = xs at hcell H1 H2
          by_cases hx : 400 < (xs.length : Int)
          · go_wp2
            go_ret
            exact ⟨ret_int (HR2.out (H2.out (by unfold longR; exact decide_eq_true hx))).symm, Below.refl _ _⟩
          · go_wp2
            go_round
            case rel => exact ⟨k + 1, by omega, by go_num, H1.out (by unfold longR; exact decide_eq_false (by omega))⟩
            case measure => simp [intOf]; omega
        · have hlong : xss.any longR = false := by
            have := HN.out; rwa [List.take_of_length_le (by omega)] at this
          have HLONG := hid hlong
          clear hlong HN
          go_wp2
          clear hk hk2
          go_loopw [6] (fun i wr => ∃ k : Nat, k ≤ xss.length ∧ i = .int .i64 k ∧ (xss.take k).any (unlikeR (xss.getD 0 []).length) = false ∧ Below w.heap.size w wr) (fun i _ => xss.length - (intOf i).toNat)
          case atStart => exact ⟨0, Nat.zero_le _, rfl, by simp, Below.refl _ _⟩
          case round =>
            obtain ⟨k, hk, rfl, hn, hbr⟩ := hrel
            have HN := hid hn
            have HBR := hid hbr
            clear hn
            by_cases hk2 : k < xss.length
            · obtain ⟨sa, sc, hcell, _⟩ := slFacts HS.out k hk2
              rw [← hbr.cell (p := ⟨b, off + k, none⟩) hlt] at hcell
              have hcell0 := hz1
              rw [← hbr.cell (p := ⟨b, off, none⟩) hlt] at hcell0
              have H1 := hid (anyR_take (unlikeR (xss.getD 0 []).length) xss k hk2 HN.out)
              have H2 := hid (anyR_at (unlikeR (xss.getD 0 []).length) xss k hk2)
              clear hbr
              generalize xss.getD k [] = xs at hcell H1 H2
              generalize (xss.getD 0 []).length = m at *
              cases hx : ((xs.length : Int) != (m : Int))
              · go_wp2
                go_quiet (fail)
                go_wp2
                go_roundw
                case rel => exact ⟨k + 1, by omega, by go_num, H1.out hx, below_drewN HBR.out _⟩
                case measure => simp [intOf]; omega
              · go_wp2
                go_quiet (fail)
                go_wp2
                go_ret
                exact ⟨ret_int (HR1.out HLONG.out (H2.out hx)).symm, below_drewN HBR.out _⟩
            · have hun : xss.any (unlikeR (xss.getD 0 []).length) = false := by
                have := HN.out; rwa [List.take_of_length_le (by omega)] at this
              have HE := hid (HR3.out HLONG.out hun)
              have HLO := hid (longR_ok HLONG.out)
              obtain ⟨wo, hwo⟩ : ∃ wo : World, wo = wr := ⟨_, rfl⟩
              subst hwo
              clear hun HN hbr HR1 HR2 HR3 HLONG hz1
              go_wp2
              clear hk hk2
              go_loop [7] (fun i => ∃ k : Nat, k ≤ xss.length ∧ i = .int .i64 k ∧ (xss.take k).any (fun xs => xs.any (outP p)) = false) (fun i => xss.length - (intOf i).toNat)
              case atStart => exact ⟨0, Nat.zero_le _, rfl, by simp⟩
              case round =>
                obtain ⟨k, hk, rfl, hn⟩ := hrel
                have HN := hid hn
                clear hn
                by_cases hk2 : k < xss.length
                · obtain ⟨sa, sc, hcell, hsl⟩ := slFacts HS.out k hk2
                  rw [← HBR.out.cell (p := ⟨b, off + k, none⟩) hlt] at hcell
                  have hsl2 := hsl.below HBR.out
                  have hlx := HLO.out _ (getR_mem xss k hk2)
                  have H1 := hid (anyR_take (fun xs => xs.any (outP p)) xss k hk2 HN.out)
                  have H2 := hid (anyR_at (fun xs => xs.any (outP p)) xss k hk2)
                  clear hsl
                  generalize xss.getD k [] = xs at hcell H1 H2 hsl2 hlx
                  have HSL := hid hsl2
                  clear hsl2
                  go_wp2_with fail
                  go_loop [8] (fun i => ∃ m : Nat, m ≤ xs.length ∧ i = .int .i64 m ∧ (xs.take m).any (outP p) = false) (fun i => xs.length - (intOf i).toNat)
                  case atStart => exact ⟨0, Nat.zero_le _, rfl, by simp⟩
                  case round =>
                    obtain ⟨m, hm, rfl, hn2⟩ := hrel
                    have HN2 := hid hn2
                    clear hn2
                    by_cases hm2 : m < xs.length
                    · obtain ⟨a3, c3, he3, hh3⟩ := HSL.out
                      obtain ⟨b3, off3, ha3, hlt3, hc3⟩ := hh3 (by omega)
                      simp only [Value.slice.injEq] at he3
                      obtain ⟨rfl, _, rfl⟩ := he3
                      subst ha3
                      have hcm := hc3 m hm2
                      have K1 := hid (any_take (outP p) xs m hm2 HN2.out)
                      have K2 := hid (any_at (outP p) xs m hm2)
                      clear hc3 hh3
                      generalize xs.getD m 0 = x at hcm K1 K2
                      rw [outP_between] at K1 K2
                      cases hx : betweenB x 0 (p - 1)
                      · go_wp2_with (go_at_call 59; refine (between_any _ _ _ _).mono ?_; rintro e w' ⟨rfl, rfl⟩)
                        go_ret
                        exact ⟨ret_int (by rw [HE.out, if_pos (H2.out (K2.out (by rw [hx]; rfl)))]), HBR.out⟩
                      · go_wp2_with (go_at_call 59; refine (between_any _ _ _ _).mono ?_; rintro e w' ⟨rfl, rfl⟩)
                        go_round
                        case rel => exact ⟨m + 1, by omega, by go_num, K1.out (by rw [hx]; rfl)⟩
                        case measure => simp [intOf]; omega
                    · have hall : xs.any (outP p) = false := by
                        have := HN2.out; rwa [List.take_of_length_le (by omega)] at this
                      have HALL := hid hall
                      clear hall
                      go_wp2
                      go_round
                      case rel => exact ⟨k + 1, by omega, by go_num, H1.out HALL.out⟩
                      case measure => simp [intOf]; omega
                · have hall : xss.any (fun xs => xs.any (outP p)) = false := by
                    have := HN.out; rwa [List.take_of_length_le (by omega)] at this
                  have HALL := hid hall
                  clear hall
                  go_wp2
                  go_ret
                  exact ⟨ret_int (by rw [HE.out, if_neg (by rw [HALL.out]; exact Bool.false_ne_true)]), HBR.out⟩
    · have e : xss = [] := List.length_eq_zero_iff.1 (by omega)
      subst e
      have e : rowE p [] = 0 := by simp [rowE]
      rw [e]
      clear hr h0 hl e
      go_enter Try.func19, Try.ntmps19
      go_wp2
      go_loop [5] (fun i => i = .int .i64 0) (fun _ => 0)
      case atStart => rfl
      case round =>
        subst hrel
        go_wp2
        go_loop [6] (fun i => i = .int .i64 0) (fun _ => 0)
        case atStart => rfl
        case round =>
          subst hrel
          go_wp2
          go_loop [7] (fun i => i = .int .i64 0) (fun _ => 0)
          case atStart => rfl
          case round =>
            subst hrel
            go_wp2
            go_ret
            exact ⟨rfl, Below.refl _ _⟩

end Go.Proofs.Ytbjellgkmolifaa
