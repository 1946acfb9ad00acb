/- SamePoly, TopOf, Great of the reference. -/
import Derived.Test.YtilogbggilchaaaDoorRF
namespace Go.Proofs.YtilogbggilchaaaDoor
set_option linter.unusedSimpArgs false
set_option linter.unusedVariables false
open Go.RowKit
theorem take_sameT {fs gs : List Tm} {k : Nat} (h : k < fs.length) (h2 : k < gs.length) (ht : fs.take k = gs.take k) (he : fs.getD k noT = gs.getD k noT) : fs.take (k + 1) = gs.take (k + 1) := by
  rw [List.take_succ_eq_append_getElem h, List.take_succ_eq_append_getElem h2, ht]
  simp [List.getD_eq_getElem?_getD, h, h2] at he
  rw [he]

set_option maxRecDepth 100000 in
set_option maxHeartbeats 1000000 in
theorem samePoly_any (x y : Value) (fs gs : List Tm) (w : World) (hm : fs.length ≤ 8000000) (hl : ∀ t ∈ fs, t.2.length ≤ 3) (pf : Pl w x fs) (pg : Pl w y gs) :
    Calls Tryd.prog 22 #[x, y] w fun e w' => e = .returned (.bool (decide (fs = gs))) ∧ Below w.heap.size w w' := by
  obtain ⟨fa, fc, rfl, _, hfc⟩ := pf
  obtain ⟨ga, gc, rfl, _, hgc⟩ := pg
  have HFC := hid hfc
  have HGC := hid hgc
  have HL := hid hl
  clear hfc hgc hl
  by_cases hne : fs.length = gs.length
  · have HNE := hid hne
    rw [← hne]
    clear hne
    go_enter Tryd.func22, Tryd.ntmps22
    go_wp2
    go_loopw [5] (fun i wr => ∃ k : Nat, k ≤ fs.length ∧ i = .int .i64 k ∧ fs.take k = gs.take k ∧ Below w.heap.size w wr) (fun i _ => fs.length - (intOf i).toNat)
    case atStart => exact ⟨0, Nat.zero_le _, rfl, rfl, Below.refl _ _⟩
    case round =>
      obtain ⟨k, hk, rfl, htk, hbr⟩ := hrel
      have HTK := hid htk
      have HBR := hid hbr
      clear htk hbr
      by_cases hk2 : k < fs.length
      · have hk3 : k < gs.length := by rw [← HNE.out]; exact hk2
        obtain ⟨b, off, rfl, hlt, hat⟩ := HFC.out (by omega)
        obtain ⟨b2, off2, rfl, hlt2, hat2⟩ := HGC.out (by omega)
        obtain ⟨c0, ev, c1, hse⟩ := hat k hk2
        obtain ⟨d0, ev2, d1, hse2⟩ := hat2 k hk3
        have HTS := hid (fun h => take_sameT hk2 hk3 HTK.out h)
        have HNS : Hid (fs.getD k noT ≠ gs.getD k noT → fs ≠ gs) := fun h e => h (by rw [e])
        have HL3 := hid (HL.out _ (getD_memT fs k hk2))
        generalize fs.getD k noT = t at c0 hse HTS HNS HL3
        generalize gs.getD k noT = u at d0 hse2 HTS HNS
        obtain ⟨tc, te⟩ := t
        obtain ⟨uc, ue⟩ := u
        have HSE := hid (hse.below HBR.out)
        have HSE2 := hid (hse2.below HBR.out)
        obtain ⟨ea, ec, rfl, _⟩ := hse
        obtain ⟨ea2, ec2, rfl, _⟩ := hse2
        simp only at c0 c1 d0 d1
        have k0 := cell_keep c0 HBR.out
        have k1 := cell_keep c1 HBR.out
        have m0 := cell_keep d0 HBR.out
        have m1 := cell_keep d1 HBR.out
        have hkI : (k : Int) < (gs.length : Int) := by omega
        clear hat hat2 c0 c1 d0 d1
        cases hc : (tc != uc)
        · have KEEP : Hid (∀ W, Below wr.heap.size wr W → (Hid (Below wr.heap.size wr W) ∧ W.cell? ⟨b, off + k * 2, none⟩ = some (.int .i64 tc) ∧ W.cell? ⟨b, off + k * 2 + 1, none⟩ = some (.slice ea te.length ec) ∧ W.cell? ⟨b2, off2 + k * 2, none⟩ = some (.int .i64 uc) ∧ W.cell? ⟨b2, off2 + k * 2 + 1, none⟩ = some (.slice ea2 ue.length ec2))) :=
            fun W hb => ⟨hb, cell_keep k0 hb, cell_keep k1 hb, cell_keep m0 hb, cell_keep m1 hb⟩
          have HE1 : Hid (tc = uc) := hid (by simpa using hc)
          go_wp2_with fail
          go_region_held (fun W => Hid (Below wr.heap.size wr W) ∧ W.cell? ⟨b, off + k * 2, none⟩ = some (.int .i64 tc) ∧ W.cell? ⟨b, off + k * 2 + 1, none⟩ = some (.slice ea te.length ec) ∧ W.cell? ⟨b2, off2 + k * 2, none⟩ = some (.int .i64 uc) ∧ W.cell? ⟨b2, off2 + k * 2 + 1, none⟩ = some (.slice ea2 ue.length ec2))
            (first | exact KEEP.out _ (Below.refl _ _).drew | exact KEEP.out _ (below_step (by assumption) hb9 (Nat.le_refl _)))
            (first | (go_at_call 45; refine (sameInts_any _ _ te ue _ HL3.out ?_ ?_).mono ?_; exact HSE.out.below (Below.refl _ _).drew; exact HSE2.out.below (Below.refl _ _).drew; rintro e w9 ⟨rfl, hd9⟩; have hb9 := below_ndraws (Below.refl wr.drew.heap.size wr.drew) hd9))
          have hb19 : Below wr.heap.size wr w9 := Hid.out (And.left (by assumption))
          have HB9 := hid (HBR.out.trans (hb19.mono HBR.out.size))
          clear hb9 hd9 hb19 KEEP
          cases hsm : sameB te ue
          · go_wp2_with fail
            go_ret
            refine ⟨ret_bool ?_, HB9.out⟩
            have h1 : te ≠ ue := by simpa [sameB] using hsm
            exact (decide_eq_false (HNS.out (fun e => h1 (by injection e)))).symm
          · have HEQ : Hid ((tc, te) = (uc, ue)) := by
              have h1 : te = ue := by simpa [sameB] using hsm
              show _ = _
              rw [HE1.out, h1]
            go_wp2_with fail
            go_roundw
            case rel => exact ⟨k + 1, by omega, by go_num, HTS.out HEQ.out, HB9.out⟩
            case measure => simp [intOf]; omega
        · have e1 : tc ≠ uc := by simpa using hc
          go_wp2_with fail
          go_quiet (fail)
          go_wp2_with fail
          go_ret
          exact ⟨ret_bool (decide_eq_false (HNS.out (fun e => e1 (by injection e)))).symm, below_drewN HBR.out _⟩
      · go_wp2
        go_ret
        refine ⟨ret_bool (decide_eq_true ?_).symm, HBR.out⟩
        have h := HTK.out
        rw [List.take_of_length_le (by omega), List.take_of_length_le (by rw [← HNE.out]; omega)] at h
        exact h
  · have hne2 : ((fs.length : Int) != (gs.length : Int)) = true := by simpa using (fun e : (fs.length : Int) = gs.length => hne (by omega))
    have HD : Hid (decide (fs = gs) = false) := decide_eq_false (fun e => hne (by rw [e]))
    rw [HD.out]
    clear hne
    go_enter Tryd.func22, Tryd.ntmps22
    go_wp2
    go_ret
    exact ⟨rfl, Below.refl _ _⟩

def topF (m : Int) : List Tm → Int
  | [] => m
  | t :: ts => topF (if m < sumI t.2 then sumI t.2 else m) ts
def greatB (fs : List Tm) : Bool := decide (200 < topF (-1) fs) || decide (2000 < fs.length)
end Go.Proofs.YtilogbggilchaaaDoor
