/- CheckPolys, SamePoly, TopOf, Great of the reference. -/
import Derived.Test.YtilogbggilchaaaDoorRE
namespace Go.Proofs.YtilogbggilchaaaDoor
set_option linter.unusedSimpArgs false
set_option linter.unusedVariables false
open Go.RowKit
def firstOne (p n o : Int) : List (List Tm) → Int
  | [] => 0
  | f :: r => if errOne p n o f = 0 then firstOne p n o r else errOne p n o f
theorem firstOne_drop (p n o : Int) (fss : List (List Tm)) (k : Nat) (h : k < fss.length) :
    firstOne p n o (fss.drop k) = if errOne p n o (fss.getD k []) = 0 then firstOne p n o (fss.drop (k + 1)) else errOne p n o (fss.getD k []) := by
  rw [List.drop_eq_getElem_cons h]
  simp [firstOne, List.getD_eq_getElem?_getD, h]
def errPolys (p n o v : Int) (fss : List (List Tm)) : Int := if errR p n o v = 0 then firstOne p n o fss else errR p n o v
theorem firstOne_ok {p n o : Int} : ∀ {fss : List (List Tm)}, firstOne p n o fss = 0 → ∀ f ∈ fss, errOne p n o f = 0
  | [], _, f, hf => by simp at hf
  | g :: r, h, f, hf => by
    unfold firstOne at h
    by_cases hg : errOne p n o g = 0
    · rw [if_pos hg] at h
      rcases List.mem_cons.1 hf with rfl | hf
      · exact hg
      · exact firstOne_ok h f hf
    · rw [if_neg hg] at h; exact absurd h hg
theorem errPolys_ok {p n o v : Int} {fss : List (List Tm)} (h : errPolys p n o v fss = 0) : errR p n o v = 0 ∧ ∀ f ∈ fss, errOne p n o f = 0 := by
  unfold errPolys at h
  by_cases hr : errR p n o v = 0
  · rw [if_pos hr] at h; exact ⟨hr, firstOne_ok h⟩
  · rw [if_neg hr] at h; exact absurd h hr

set_option maxRecDepth 100000 in
set_option maxHeartbeats 1000000 in
theorem checkPolys_any (p n o v : Int) (lv : Value) (fss : List (List Tm)) (w : World) (hm : fss.length ≤ 4000000) (hs : Vl w lv fss) :
    Calls Tryd.prog 8 #[ringV p n o v, lv] w fun e w' => e = .returned (.int .i64 (errPolys p n o v fss)) ∧ Below w.heap.size w w' := by
  have HS := hid hs
  obtain ⟨la, lc, rfl, _⟩ := hs
  go_enter Tryd.func8, Tryd.ntmps8
  go_wp2_with (go_at_call 28; refine (checkRing_any _ _ _ _ _).mono ?_; rintro e w1 ⟨rfl, hb1⟩)
  have hb0 : Below w.heap.size w w1 := below_one.trans (hb1.mono (by simp))
  have hbox := hid ((BoxAt.new w p n o v _).below hb1)
  have HS1 := hid (HS.out.below hb0)
  have HB0 := hid hb0
  clear HS hb1 hb0
  go_loopw [5, 6] (fun e i wr => ∃ k : Nat, k ≤ fss.length ∧ i = .int .i64 k ∧ (∃ E : Int, e = .int .i64 E ∧ (E = 0 ∧ errR p n o v = 0 ∧ errPolys p n o v fss = firstOne p n o (fss.drop k) ∨ E ≠ 0 ∧ errPolys p n o v fss = E)) ∧ Below w1.heap.size w1 wr) (fun _ i _ => fss.length - (intOf i).toNat)
  case atStart =>
    refine ⟨0, Nat.zero_le _, rfl, ⟨_, rfl, ?_⟩, Below.refl _ _⟩
    unfold errPolys
    by_cases h : errR p n o v = 0
    · exact Or.inl ⟨h, h, by rw [if_pos h]; rfl⟩
    · exact Or.inr ⟨h, by rw [if_neg h]⟩
  case round =>
    obtain ⟨k, hk, rfl, ⟨E, rfl, hE⟩, hbr⟩ := hrel
    have HBR := hid hbr
    clear hbr
    by_cases hk2 : k < fss.length
    · rcases hE with ⟨rfl, hR, hT⟩ | ⟨hE0, hT⟩
      · have HT := hid (And.intro hR hT)
        obtain ⟨hpr, hn1, hn2, ho, _⟩ := ring_ok hR
        have HP := hid (errP_bd hpr)
        have HO := hid ho
        obtain ⟨a2, lc2, hv2, hat0⟩ := HS1.out
        obtain ⟨b, off, ha2, hlt1, hat⟩ := hat0 (by omega)
        simp only [Value.slice.injEq, true_and] at hv2
        obtain ⟨h1, h2⟩ := hv2
        subst h1
        subst h2
        subst ha2
        obtain ⟨vv, hcell, hsl⟩ := hat k hk2
        have HSL := hid (hsl.below HBR.out)
        have hcell' := cell_keep hcell HBR.out
        have HD := hid (firstOne_drop p n o fss k hk2)
        obtain ⟨bx, c0, c1, c2, c3⟩ := hbox.out.below HBR.out
        generalize fss.getD k [] = f at HSL HD
        obtain ⟨a, cc, hvv, _, _⟩ := HSL.out
        subst hvv
        clear hR hT hpr ho hat0 hat hcell hsl
        have KEEP : Hid (∀ W, Below wr.heap.size wr W → (Hid (Below wr.heap.size wr W) ∧ W.cell? ⟨w.heap.size, 0, none⟩ = some (.int .i64 p) ∧ W.cell? ⟨w.heap.size, 1, none⟩ = some (.int .i64 n) ∧ W.cell? ⟨w.heap.size, 2, none⟩ = some (.int .i64 o) ∧ W.cell? ⟨w.heap.size, 3, none⟩ = some (.int .i64 v) ∧ W.cell? ⟨b, off + k, none⟩ = some (.slice a f.length cc))) :=
          fun W hb => ⟨hb, cell_keep c0 hb, cell_keep c1 hb, cell_keep c2 hb, cell_keep c3 hb, cell_keep hcell' hb⟩
        go_wp2_with fail
        go_region_held (fun W => Hid (Below wr.heap.size wr W) ∧ W.cell? ⟨w.heap.size, 0, none⟩ = some (.int .i64 p) ∧ W.cell? ⟨w.heap.size, 1, none⟩ = some (.int .i64 n) ∧ W.cell? ⟨w.heap.size, 2, none⟩ = some (.int .i64 o) ∧ W.cell? ⟨w.heap.size, 3, none⟩ = some (.int .i64 v) ∧ W.cell? ⟨b, off + k, none⟩ = some (.slice a f.length cc))
          (first | exact KEEP.out _ (Below.refl _ _).drew | exact KEEP.out _ (below_step (by assumption) hb9 (Nat.le_refl _)))
          (first | (go_at_call 29; refine (checkOne_any p n o v _ f _ HP.out ⟨hn1, hn2⟩ HO.out ?_).mono ?_; exact HSL.out.below (Below.refl _ _).drew; rintro e w9 ⟨rfl, hb9⟩))
        have hb19 : Below wr.heap.size wr w9 := Hid.out (And.left (by assumption))
        have HB9 := hid (HBR.out.trans (hb19.mono HBR.out.size))
        clear hb9 hb19 KEEP
        go_wp2
        go_roundw
        case rel =>
          refine ⟨k + 1, by omega, by go_num, ⟨_, rfl, ?_⟩, HB9.out⟩
          by_cases hz : errOne p n o f = 0
          · exact Or.inl ⟨hz, HT.out.1, by rw [HT.out.2, HD.out, if_pos hz]⟩
          · exact Or.inr ⟨hz, by rw [HT.out.2, HD.out, if_neg hz]⟩
        case measure => simp [intOf]; omega
      · have hE1 : (E == 0) = false := by simpa using hE0
        clear hE0
        go_wp2
        go_ret
        exact ⟨ret_int hT.symm, HB0.out.trans (HBR.out.mono HB0.out.size)⟩
    · have HE := hid hE
      clear hE
      go_wp2
      go_ret
      refine ⟨ret_int ?_, HB0.out.trans (HBR.out.mono HB0.out.size)⟩
      rcases HE.out with ⟨h1, h2, h3⟩ | ⟨h1, h2⟩
      · rw [h3, List.drop_eq_nil_of_le (by omega), h1]; rfl
      · exact h2.symm
end Go.Proofs.YtilogbggilchaaaDoor
