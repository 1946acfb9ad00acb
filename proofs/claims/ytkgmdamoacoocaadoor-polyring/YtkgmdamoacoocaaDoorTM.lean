/- falls, checkAll (of commit a6c30ce): what it tells. -/
import Derived.Test.YtkgmdamoacoocaaDoorTL
namespace Go.Proofs.YtkgmdamoacoocaaDoor
set_option linter.unusedSimpArgs false
set_option linter.unusedVariables false
open Go.RowKit

set_option maxRecDepth 100000 in
set_option maxHeartbeats 2000000 in
theorem falls_any (p n o v : Int) (N : Nat) (fv : Value) (ts : List Tm) (w : World) (ho : o = 1 ∨ o = 2) (hN0 : 0 < N) (hN3 : N ≤ 3) (hl : ts.length ≤ 2000) (ht : ∀ t ∈ ts, t.2.length = N ∧ ∀ x ∈ t.2, 0 ≤ x ∧ x ≤ 400) (pf : Pl w fv ts) :
    Calls Tryd.prog 50 #[ringV p n o v, fv] w fun e w' => e = .returned (.bool (fallsB o ts)) ∧ Below w.heap.size w w' := by
  obtain ⟨a, c, rfl, _, hfc⟩ := pf
  have HFC := hid hfc
  have HO := hid ho
  have HT := hid ht
  obtain ⟨w1, hw1⟩ : ∃ w1, w1 = w.alloc (.cells #[.int .i64 p, .int .i64 n, .int .i64 o, .int .i64 v] 23) := ⟨_, rfl⟩
  have hbx : BoxAt w1 w.heap.size p n o v := by rw [hw1]; exact BoxAt.new w p n o v _
  have hbw : Below w.heap.size w w1 := by rw [hw1]; exact below_oneG
  have HBX := hid hbx
  have HBW := hid hbw
  clear hfc ho ht hbx hbw
  go_enter Tryd.func50, Tryd.ntmps50
  go_wp2_with fail
  rw [← hw1]
  clear hw1
  go_loopw [5] (fun i wr => ∃ k : Nat, 0 < k ∧ i = .int .i64 k ∧ k ≤ 2001 ∧ fallsB o ts = fallsB o (ts.drop (k - 1)) ∧ Below w1.heap.size w1 wr) (fun i _ => ts.length - (intOf i).toNat)
  case atStart => exact ⟨1, by omega, rfl, by omega, by simp, Below.refl _ _⟩
  case round =>
    obtain ⟨k, hpos, rfl, hkb, hfl, hbr⟩ := hrel
    have HFL := hid hfl
    have HBR := hid hbr
    clear hfl hbr
    by_cases hk2 : k < ts.length
    · obtain ⟨b, off, rfl, hlt, hat⟩ := HFC.out (by omega)
      have hk3 : k - 1 < ts.length := by omega
      obtain ⟨_, ev2, c2, hse2⟩ := hat (k - 1) hk3
      obtain ⟨_, ev, c1, hse⟩ := hat k hk2
      have HD := hid (fallsB_drop o ts (k - 1) (by omega))
      rw [show k - 1 + 1 = k from Nat.sub_add_cancel hpos] at HD
      have HQ := hid (HT.out _ (getD_memT ts (k - 1) hk3))
      have HE := hid (HT.out _ (getD_memT ts k hk2))
      generalize ts.getD (k - 1) noT = q at hse2 HD HQ
      generalize ts.getD k noT = t at hse HD HE
      obtain ⟨qc, qe⟩ := q
      obtain ⟨tc, te⟩ := t
      have HSQ := hid (And.intro (hse2.below HBW.out) (hse.below HBW.out))
      obtain ⟨ea2, ec2, rfl, _⟩ := hse2
      obtain ⟨ea, ec, rfl, _⟩ := hse
      simp only at c1 c2
      have HLL : Hid (qe.length = te.length) := HQ.out.1.trans HE.out.1.symm
      have hq0 : 0 < qe.length := by rw [show qe.length = N from HQ.out.1]; exact hN0
      have hq3 : qe.length ≤ 3 := by rw [show qe.length = N from HQ.out.1]; exact hN3
      have HQB := hid (And.intro HQ.out.2 HE.out.2)
      obtain ⟨hq1, hq2, hq4, hq5, hq6, hq7, hq8⟩ := predFacts hpos hk2
      have hwr := wrapPred hpos (Nat.le_trans (Nat.le_of_lt hk2) hl)
      obtain ⟨_, bx0, bx1, bx2, bx3⟩ := HBX.out
      have KEEP : Hid (∀ W, Below w1.heap.size w1 W → (Hid (Below w1.heap.size w1 W) ∧ W.cell? ⟨w.heap.size, 0, none⟩ = some (.int .i64 p) ∧ W.cell? ⟨w.heap.size, 1, none⟩ = some (.int .i64 n) ∧ W.cell? ⟨w.heap.size, 2, none⟩ = some (.int .i64 o) ∧ W.cell? ⟨w.heap.size, 3, none⟩ = some (.int .i64 v) ∧ W.cell? ⟨b, off + (k - 1) * 2 + 1, none⟩ = some (.slice ea2 qe.length ec2) ∧ W.cell? ⟨b, off + k * 2 + 1, none⟩ = some (.slice ea te.length ec))) :=
        fun W hb => ⟨hb, cell_keep bx0 hb, cell_keep bx1 hb, cell_keep bx2 hb, cell_keep bx3 hb, cell_keep (cell_keep c2 HBW.out) hb, cell_keep (cell_keep c1 HBW.out) hb⟩
      clear hat c1 c2 bx0 bx1 bx2 bx3
      by_cases hgt : ordS o qe te ≤ 0
      · have HM : Hid (moreB o qe te = false) := by show _ = _; unfold moreB; exact decide_eq_false (by omega)
        go_wp2_with fail
        go_region_held (fun W => Hid (Below w1.heap.size w1 W) ∧ W.cell? ⟨w.heap.size, 0, none⟩ = some (.int .i64 p) ∧ W.cell? ⟨w.heap.size, 1, none⟩ = some (.int .i64 n) ∧ W.cell? ⟨w.heap.size, 2, none⟩ = some (.int .i64 o) ∧ W.cell? ⟨w.heap.size, 3, none⟩ = some (.int .i64 v) ∧ W.cell? ⟨b, off + (k - 1) * 2 + 1, none⟩ = some (.slice ea2 qe.length ec2) ∧ W.cell? ⟨b, off + k * 2 + 1, none⟩ = some (.slice ea te.length ec))
          (first | exact KEEP.out _ HBR.out.drew | exact KEEP.out _ (HBR.out.drew.trans (hb9.mono HBR.out.drew.size)))
          (first | (go_at_call 72; refine (bareCompare_any p n o v _ _ qe te _ HO.out hq0 hq3 HLL.out HQB.out.1 HQB.out.2 ?_ ?_).mono ?_; exact HSQ.out.1.below HBR.out.drew; exact HSQ.out.2.below HBR.out.drew; rintro e w9 ⟨rfl, hb9⟩))
        have HB9 := hid (show Below w1.heap.size w1 w9 from HBR.out.drew.trans (hb9.mono HBR.out.drew.size))
        clear hb9 KEEP
        go_wp2_with fail
        go_ret
        exact ⟨ret_bool (by rw [HFL.out, HD.out, HM.out]; rfl), HBW.out.trans (HB9.out.mono HBW.out.size)⟩
      · have HM : Hid (moreB o qe te = true) := by show _ = _; unfold moreB; exact decide_eq_true (by omega)
        go_wp2_with fail
        go_region_held (fun W => Hid (Below w1.heap.size w1 W) ∧ W.cell? ⟨w.heap.size, 0, none⟩ = some (.int .i64 p) ∧ W.cell? ⟨w.heap.size, 1, none⟩ = some (.int .i64 n) ∧ W.cell? ⟨w.heap.size, 2, none⟩ = some (.int .i64 o) ∧ W.cell? ⟨w.heap.size, 3, none⟩ = some (.int .i64 v) ∧ W.cell? ⟨b, off + (k - 1) * 2 + 1, none⟩ = some (.slice ea2 qe.length ec2) ∧ W.cell? ⟨b, off + k * 2 + 1, none⟩ = some (.slice ea te.length ec))
          (first | exact KEEP.out _ HBR.out.drew | exact KEEP.out _ (HBR.out.drew.trans (hb9.mono HBR.out.drew.size)))
          (first | (go_at_call 72; refine (bareCompare_any p n o v _ _ qe te _ HO.out hq0 hq3 HLL.out HQB.out.1 HQB.out.2 ?_ ?_).mono ?_; exact HSQ.out.1.below HBR.out.drew; exact HSQ.out.2.below HBR.out.drew; rintro e w9 ⟨rfl, hb9⟩))
        have HB9 := hid (show Below w1.heap.size w1 w9 from HBR.out.drew.trans (hb9.mono HBR.out.drew.size))
        clear hb9 KEEP
        go_wp2_with fail
        go_roundw
        case rel => exact ⟨k + 1, by omega, by go_num, by omega, by rw [HFL.out, HD.out, HM.out]; simp, HB9.out⟩
        case measure => simp [intOf]; omega
    · go_wp2
      go_ret
      exact ⟨ret_bool (by rw [HFL.out, fallsB_end o ts (k - 1) (by omega)]), HBW.out.trans (HBR.out.mono HBW.out.size)⟩

theorem errT_ok {p n : Int} : ∀ {ts : List Tm}, errT p n ts = 0 → ∀ t ∈ ts, errM n t.2 = 0
  | [], _, t, ht => by simp at ht
  | u :: ts, h, t, ht => by
    have hv : errT p n (u :: ts) = if u.1 < 1 ∨ p ≤ u.1 then 3 else if errM n u.2 ≠ 0 then errM n u.2 else errT p n ts := rfl
    rw [hv] at h
    by_cases h1 : u.1 < 1 ∨ p ≤ u.1
    · rw [if_pos h1] at h; omega
    · rw [if_neg h1] at h
      by_cases h2 : errM n u.2 ≠ 0
      · rw [if_pos h2] at h; exact absurd h h2
      · rw [if_neg h2] at h
        rcases List.mem_cons.1 ht with rfl | ht
        · simpa using h2
        · exact errT_ok h t ht
theorem errCT_ok {p n o v : Int} {ts : List Tm} (h : errCT p n o v ts = 0) : errR p n o v = 0 ∧ ts.length ≤ 2000 ∧ ∀ t ∈ ts, errM n t.2 = 0 := by
  unfold errCT at h
  by_cases h1 : errR p n o v = 0
  · rw [if_neg (by simpa using h1)] at h
    by_cases h2 : 2000 < ts.length
    · rw [if_pos h2] at h; omega
    · rw [if_neg h2] at h; exact ⟨h1, by omega, errT_ok h⟩
  · rw [if_pos h1] at h; exact absurd h h1

set_option maxRecDepth 100000 in
set_option maxHeartbeats 2000000 in
theorem curAll_any (p n o v : Int) (lv : Value) (fss : List (List Tm)) (w : World) (hm : fss.length ≤ 4000000) (hs : Vl w lv fss) :
    Calls Tryd.prog 23 #[ringV p n o v, lv] w fun e w' => e = .returned (.int .i64 (cur p n o v fss)) ∧ Below w.heap.size w w' := by
  have HS := hid hs
  obtain ⟨la, lc, rfl, hat0⟩ := hs
  have HAT := hid hat0
  obtain ⟨w1, hw1⟩ : ∃ w1, w1 = w.alloc (.cells #[.int .i64 p, .int .i64 n, .int .i64 o, .int .i64 v] 23) := ⟨_, rfl⟩
  have hbx : BoxAt w1 w.heap.size p n o v := by rw [hw1]; exact BoxAt.new w p n o v _
  have hbw : Below w.heap.size w w1 := by rw [hw1]; exact below_oneG
  have HBX := hid hbx
  have HBW := hid hbw
  clear hat0 hbx hbw
  go_enter Tryd.func23, Tryd.ntmps23
  go_wp2_with fail
  rw [← hw1]
  clear hw1
  go_loopw [10] (fun i wr => ∃ k : Nat, k ≤ fss.length ∧ i = .int .i64 k ∧ cur p n o v fss = cur p n o v (fss.drop k) ∧ Below w1.heap.size w1 wr) (fun i _ => fss.length - (intOf i).toNat)
  case atStart => exact ⟨0, Nat.zero_le _, rfl, by simp, Below.refl _ _⟩
  case round =>
    obtain ⟨k, hk, rfl, hcur, hbr⟩ := hrel
    have HBR := hid hbr
    clear hbr
    by_cases hk2 : k < fss.length
    · obtain ⟨b, off, rfl, hlt, hat⟩ := HAT.out (by omega)
      obtain ⟨vv, hcell, hsl⟩ := hat k hk2
      have HER := hid (hcur.trans (cur_drop p n o v fss k hk2))
      have HDN := hid (HBW.out.trans (HBR.out.mono HBW.out.size))
      have d0 := cell_keep hcell HDN.out
      generalize fss.getD k [] = f at hsl HER
      have HSL := hid (hsl.below HDN.out)
      obtain ⟨fa, fc, rfl, _, _⟩ := hsl
      obtain ⟨_, bx0, bx1, bx2, bx3⟩ := HBX.out.below HBR.out
      clear hcur hat hcell
      cases hz : (errCT p n o v f != 0)
      · have hz0 : errCT p n o v f = 0 := by simpa using hz
        obtain ⟨hR, hl, hall⟩ := errCT_ok hz0
        obtain ⟨_, hn1, hn2, ho, _⟩ := ring_ok hR
        have HOK : Hid (∀ t ∈ f, t.2.length = n.toNat ∧ ∀ x ∈ t.2, 0 ≤ x ∧ x ≤ 400) := fun t ht => by
          have h := errM_ok (hall t ht)
          exact ⟨by have := h.1; omega, fun x hx => by have := h.2.1 x hx; omega⟩
        have HO := hid ho
        have HZ := hid hz0
        have HNN : Hid (0 < n.toNat ∧ n.toNat ≤ 3) := ⟨by omega, by omega⟩
        clear hz0 hR hall ho
        cases hf : fallsB o f
        · go_wp2_with fail
          refine (checkTerms_any p n o v _ f _ HSL.out).mono ?_
          rintro e w2 ⟨rfl, hb2⟩
          rw [HZ.out]
          have HB2 := hid (HBR.out.trans (hb2.mono HBR.out.size))
          have z0 := cell_keep bx0 hb2
          have z1 := cell_keep bx1 hb2
          have z2 := cell_keep bx2 hb2
          have z3 := cell_keep bx3 hb2
          have HS2 := hid (HSL.out.below hb2)
          clear hb2 bx0 bx1 bx2 bx3
          go_wp2_with fail
          refine (falls_any p n o v n.toNat _ f _ HO.out HNN.out.1 HNN.out.2 hl HOK.out HS2.out).mono ?_
          rw [hf]
          rintro e w3 ⟨rfl, hb3⟩
          have HB3 := hid (HB2.out.trans (hb3.mono HB2.out.size))
          clear hb3
          go_wp2_with fail
          go_ret
          exact ⟨ret_int (by
            have h : errCur p n o v f = 4 := by unfold errCur; rw [if_neg (by simpa using HZ.out), if_pos hf]
            rw [HER.out, h]; rfl), HBW.out.trans (HB3.out.mono HBW.out.size)⟩
        · go_wp2_with fail
          refine (checkTerms_any p n o v _ f _ HSL.out).mono ?_
          rintro e w2 ⟨rfl, hb2⟩
          rw [HZ.out]
          have HB2 := hid (HBR.out.trans (hb2.mono HBR.out.size))
          have z0 := cell_keep bx0 hb2
          have z1 := cell_keep bx1 hb2
          have z2 := cell_keep bx2 hb2
          have z3 := cell_keep bx3 hb2
          have HS2 := hid (HSL.out.below hb2)
          clear hb2 bx0 bx1 bx2 bx3
          go_wp2_with fail
          refine (falls_any p n o v n.toNat _ f _ HO.out HNN.out.1 HNN.out.2 hl HOK.out HS2.out).mono ?_
          rw [hf]
          rintro e w3 ⟨rfl, hb3⟩
          have HB3 := hid (HB2.out.trans (hb3.mono HB2.out.size))
          clear hb3
          go_wp2_with fail
          go_roundw
          case rel => exact ⟨k + 1, Nat.succ_le_of_lt hk2, by go_num, by
            have h : errCur p n o v f = 0 := by unfold errCur; rw [if_neg (by simpa using HZ.out), if_neg (by rw [hf]; simp)]
            rw [HER.out, if_neg (by simpa using h)], HB3.out⟩
          case measure => simp [intOf]; omega
      · go_wp2_with fail
        refine (checkTerms_any p n o v _ f _ HSL.out).mono ?_
        rintro e w2 ⟨rfl, hb2⟩
        have HB2 := hid (HBR.out.trans (hb2.mono HBR.out.size))
        clear hb2
        go_wp2_with fail
        go_ret
        exact ⟨ret_int (by
          have h0 : errCT p n o v f ≠ 0 := by simpa using hz
          have h : errCur p n o v f = errCT p n o v f := by unfold errCur; rw [if_pos h0]
          rw [HER.out, h, if_pos h0]), HBW.out.trans (HB2.out.mono HBW.out.size)⟩
    · go_wp2
      go_ret
      exact ⟨ret_int (by rw [hcur, List.drop_eq_nil_of_le (by omega)]; rfl), HBW.out.trans (HBR.out.mono HBW.out.size)⟩

theorem cur_ok {p n o v : Int} : ∀ {fss : List (List Tm)}, cur p n o v fss = 0 → ∀ f ∈ fss, errCur p n o v f = 0
  | [], _, f, hf => by simp at hf
  | g :: r, h, f, hf => by
    unfold cur at h
    by_cases hg : errCur p n o v g = 0
    · rw [if_neg (by simpa using hg)] at h
      rcases List.mem_cons.1 hf with rfl | hf
      · exact hg
      · exact cur_ok h f hf
    · rw [if_pos hg] at h; exact absurd h hg
theorem cur_mk {p n o v : Int} : ∀ {fss : List (List Tm)}, (∀ f ∈ fss, errCur p n o v f = 0) → cur p n o v fss = 0
  | [], _ => rfl
  | g :: r, h => by
    unfold cur
    rw [if_neg (by simpa using h g (by simp))]
    exact cur_mk (fun f hf => h f (by simp [hf]))
/-- What the landed checkAll tells. -/
theorem tells (p n o v : Int) : Tells p n o v (cur p n o v) := by
  refine ⟨fun fss lv w hm hs => curAll_any p n o v lv fss w hm hs, fun fss hne h => ?_, fun hr fss h => cur_mk (fun f hf => cur_iff.2 ⟨hr, h f hf⟩)⟩
  have hall := cur_ok h
  cases fss with
  | nil => exact absurd rfl hne
  | cons g r => exact ⟨(cur_iff.1 (hall g (by simp))).1, fun f hf => (cur_iff.1 (hall f hf)).2⟩

end Go.Proofs.YtkgmdamoacoocaaDoor
