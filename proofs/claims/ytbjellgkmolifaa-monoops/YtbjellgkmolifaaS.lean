/- CheckMonos. -/
import Derived.Test.YtbjellgkmolifaaR
import Derived.Test.YtbjellgkmolifaaM
import Derived.Deep.RegionHeld
namespace Go.Proofs.Ytbjellgkmolifaa
set_option linter.unusedSimpArgs false
set_option linter.unusedVariables false
open Go.RowKit

set_option maxRecDepth 100000 in
set_option maxHeartbeats 1000000 in
theorem checkMonos_any (p n o v : Int) (xss : List (List Int)) (b off cap : Nat) (w : World) (hl : xss.length ≤ 2) (hlt : b < w.heap.size) (hs : SlsAt w b off xss) :
    Calls Try.prog 26 #[ringV p n o v, .slice (some ⟨b, off, none⟩) xss.length cap] w fun e w' => e = .returned (.int .i64 (errAll p n o v xss)) ∧ Below w.heap.size w w' := by
  have HS := hid hs
  clear hs
  go_enter Try.func26, Try.ntmps26
  go_wp2_with (go_at_call 33; refine (checkRing_any _ _ _ _ _).mono ?_; rintro e w1 ⟨rfl, hb1⟩)
  have hb0 : Below w.heap.size w w1 := below_one.trans (hb1.mono (by simp))
  have hbox := hid ((BoxAt.new w p n o v _).below hb1)
  have HS1 := hid (HS.out.below hlt hb0)
  have hlt1 : b < w1.heap.size := Nat.lt_of_lt_of_le hlt hb0.size
  have HB0 := hid hb0
  clear HS hb1 hb0
  go_loopw [5, 6] (fun e i wr => ∃ k : Nat, k ≤ xss.length ∧ i = .int .i64 k ∧ (∃ E : Int, e = .int .i64 E ∧ (E = 0 ∧ errR p n o v = 0 ∧ errAll p n o v xss = firstErr n (xss.drop k) ∨ E ≠ 0 ∧ errAll p n o v xss = E)) ∧ Below w1.heap.size w1 wr) (fun _ i _ => xss.length - (intOf i).toNat)
  case atStart =>
    refine ⟨0, Nat.zero_le _, rfl, ⟨_, rfl, ?_⟩, Below.refl _ _⟩
    unfold errAll
    by_cases h : errR p n o v = 0
    · exact Or.inl ⟨h, h, by rw [if_pos h]; rfl⟩
    · exact Or.inr ⟨h, by rw [if_neg h]⟩
  case round =>
    obtain ⟨k, hk, rfl, ⟨E, rfl, hE⟩, hbr⟩ := hrel
    have HBR := hid hbr
    clear hbr
    by_cases hk2 : k < xss.length
    · rcases hE with ⟨rfl, hR, hT⟩ | ⟨hE0, hT⟩
      · have HT := hid (And.intro hR hT)
        obtain ⟨_, hn1, hn2, _⟩ := ring_ok hR
        clear hR hT
        obtain ⟨vv, hcell, hsl⟩ := HS1.out k hk2
        rw [← HBR.out.cell (p := ⟨b, off + k, none⟩) hlt1] at hcell
        have HSL := hid (hsl.below HBR.out)
        have HD := hid (firstErr_drop n xss k hk2)
        clear hsl
        obtain ⟨bx, c0, c1, c2, c3⟩ := hbox.out.below HBR.out
        generalize xss.getD k [] = xs at HSL HD
        obtain ⟨a, cc, hvv, _⟩ := HSL.out
        subst hvv
        go_wp2_with fail
        go_region_with (go_at_call 70; refine (checkMono_any p n o v _ xs _ ⟨hn1, hn2⟩ ?_).mono ?_; exact HSL.out.below (Below.refl _ _).drew; rintro e w2 ⟨rfl, hb2⟩)
        all_goals
          go_wp2
          go_roundw
          case rel =>
            refine ⟨k + 1, by omega, by go_num, ⟨_, rfl, ?_⟩, HBR.out.trans ((((Below.refl _ _).drew).trans (hb2.mono (by simp))).mono HBR.out.size)⟩
            by_cases hz : errM n xs = 0
            · exact Or.inl ⟨hz, HT.out.1, by rw [HT.out.2, HD.out, if_pos hz]⟩
            · exact Or.inr ⟨hz, by rw [HT.out.2, HD.out, if_neg hz]⟩
          case measure => simp [intOf]; omega
      · have hE1 : (E == 0) = false := by simpa using hE0
        clear hE0
        go_wp2
        go_ret
        exact ⟨ret_int hT.symm, HB0.out.trans (HBR.out.mono HB0.out.size)⟩
    · have HE := hid hE
      clear hE
      go_wp2
      go_ret
      refine ⟨ret_int ?_, HB0.out.trans (HBR.out.mono HB0.out.size)⟩
      rcases HE.out with ⟨h1, h2, h3⟩ | ⟨h1, h2⟩
      · rw [h3, List.drop_eq_nil_of_le (by omega), h1]; rfl
      · exact h2.symm

end Go.Proofs.Ytbjellgkmolifaa
