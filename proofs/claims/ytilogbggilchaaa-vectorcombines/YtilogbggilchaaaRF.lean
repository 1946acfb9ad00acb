/- CheckPolys, SamePoly, TopOf, Great of the reference. -/
import Derived.Test.YtilogbggilchaaaRE
namespace Go.Proofs.Ytilogbggilchaaa
set_option linter.unusedSimpArgs false
set_option linter.unusedVariables false
open Go.RowKit
def firstOne (p n o : Int) : List (List Tm) → Int
  | [] => 0
  | f :: r => if errOne p n o f = 0 then firstOne p n o r else errOne p n o f
theorem firstOne_drop (p n o : Int) (fss : List (List Tm)) (k : Nat) (h : k < fss.length) :
    firstOne p n o (fss.drop k) = if errOne p n o (fss.getD k []) = 0 then firstOne p n o (fss.drop (k + 1)) else errOne p n o (fss.getD k []) := by
  rw [List.drop_eq_getElem_cons h]
  simp [firstOne, List.getD_eq_getElem?_getD, h]
def errPolys (p n o v : Int) (fss : List (List Tm)) : Int := if errR p n o v = 0 then firstOne p n o fss else errR p n o v
theorem firstOne_ok {p n o : Int} : ∀ {fss : List (List Tm)}, firstOne p n o fss = 0 → ∀ f ∈ fss, errOne p n o f = 0
  | [], _, f, hf => by simp at hf
  | g :: r, h, f, hf => by
    unfold firstOne at h
    by_cases hg : errOne p n o g = 0
    · rw [if_pos hg] at h
      rcases List.mem_cons.1 hf with rfl | hf
      · exact hg
      · exact firstOne_ok h f hf
    · rw [if_neg hg] at h; exact absurd h hg
theorem errPolys_ok {p n o v : Int} {fss : List (List Tm)} (h : errPolys p n o v fss = 0) : errR p n o v = 0 ∧ ∀ f ∈ fss, errOne p n o f = 0 := by
  unfold errPolys at h
  by_cases hr : errR p n o v = 0
  · rw [if_pos hr] at h; exact ⟨hr, firstOne_ok h⟩
  · rw [if_neg hr] at h; exact absurd h hr

set_option maxRecDepth 100000 in
set_option maxHeartbeats 1000000 in
theorem checkPolys_any (p n o v : Int) (lv : Value) (fss : List (List Tm)) (w : World) (hm : fss.length ≤ 4000000) (hs : Vl w lv fss) :
    Calls Try.prog 9 #[ringV p n o v, lv] w fun e w' => e = .returned (.int .i64 (errPolys p n o v fss)) ∧ Below w.heap.size w w' := by
  have HS := hid hs
  obtain ⟨la, lc, rfl, _⟩ := hs
  go_enter Try.func9, Try.ntmps9
  go_wp2_with (go_at_call 32; refine (checkRing_any _ _ _ _ _).mono ?_; rintro e w1 ⟨rfl, hb1⟩)
  have hb0 : Below w.heap.size w w1 := below_one.trans (hb1.mono (by simp))
  have hbox := hid ((BoxAt.new w p n o v _).below hb1)
  have HS1 := hid (HS.out.below hb0)
  have HB0 := hid hb0
  clear HS hb1 hb0
  go_loopw [5, 6] (fun e i wr => ∃ k : Nat, k ≤ fss.length ∧ i = .int .i64 k ∧ (∃ E : Int, e = .int .i64 E ∧ (E = 0 ∧ errR p n o v = 0 ∧ errPolys p n o v fss = firstOne p n o (fss.drop k) ∨ E ≠ 0 ∧ errPolys p n o v fss = E)) ∧ Below w1.heap.size w1 wr) (fun _ i _ => fss.length - (intOf i).toNat)
  case atStart =>
    refine ⟨0, Nat.zero_le _, rfl, ⟨_, rfl, ?_⟩, Below.refl _ _⟩
    unfold errPolys
    by_cases h : errR p n o v = 0
    · exact Or.inl ⟨h, h, by rw [if_pos h]; rfl⟩
    · exact Or.inr ⟨h, by rw [if_neg h]⟩
  case round =>
    obtain ⟨k, hk, rfl, ⟨E, rfl, hE⟩, hbr⟩ := hrel
    have HBR := hid hbr
    clear hbr
    by_cases hk2 : k < fss.length
    · rcases hE with ⟨rfl, hR, hT⟩ | ⟨hE0, hT⟩
      · have HT := hid (And.intro hR hT)
        obtain ⟨hpr, hn1, hn2, ho, _⟩ := ring_ok hR
        have HP := hid (errP_bd hpr)
        have HO := hid ho
        obtain ⟨a2, lc2, hv2, hat0⟩ := HS1.out
        obtain ⟨b, off, ha2, hlt1, hat⟩ := hat0 (by omega)
        simp only [Value.slice.injEq, true_and] at hv2
        obtain ⟨h1, h2⟩ := hv2
        subst h1
        subst h2
        subst ha2
        obtain ⟨vv, hcell, hsl⟩ := hat k hk2
        have HSL := hid (hsl.below HBR.out)
        have hcell' := cell_keep hcell HBR.out
        have HD := hid (firstOne_drop p n o fss k hk2)
        obtain ⟨bx, c0, c1, c2, c3⟩ := hbox.out.below HBR.out
        generalize fss.getD k [] = f at HSL HD
        obtain ⟨a, cc, hvv, _, _⟩ := HSL.out
        subst hvv
        clear hR hT hpr ho hat0 hat hcell hsl
        have KEEP : Hid (∀ W, Below wr.heap.size wr W → (Hid (Below wr.heap.size wr W) ∧ W.cell? ⟨w.heap.size, 0, none⟩ = some (.int .i64 p) ∧ W.cell? ⟨w.heap.size, 1, none⟩ = some (.int .i64 n) ∧ W.cell? ⟨w.heap.size, 2, none⟩ = some (.int .i64 o) ∧ W.cell? ⟨w.heap.size, 3, none⟩ = some (.int .i64 v) ∧ W.cell? ⟨b, off + k, none⟩ = some (.slice a f.length cc))) :=
          fun W hb => ⟨hb, cell_keep c0 hb, cell_keep c1 hb, cell_keep c2 hb, cell_keep c3 hb, cell_keep hcell' hb⟩
        go_wp2_with fail
        go_region_held (fun W => Hid (Below wr.heap.size wr W) ∧ W.cell? ⟨w.heap.size, 0, none⟩ = some (.int .i64 p) ∧ W.cell? ⟨w.heap.size, 1, none⟩ = some (.int .i64 n) ∧ W.cell? ⟨w.heap.size, 2, none⟩ = some (.int .i64 o) ∧ W.cell? ⟨w.heap.size, 3, none⟩ = some (.int .i64 v) ∧ W.cell? ⟨b, off + k, none⟩ = some (.slice a f.length cc))
          (first | exact KEEP.out _ (Below.refl _ _).drew | exact KEEP.out _ (below_step (by assumption) hb9 (Nat.le_refl _)))
          (first | (go_at_call 34; refine (checkOne_any p n o v _ f _ HP.out ⟨hn1, hn2⟩ HO.out ?_).mono ?_; exact HSL.out.below (Below.refl _ _).drew; rintro e w9 ⟨rfl, hb9⟩))
        have hb19 : Below wr.heap.size wr w9 := Hid.out (And.left (by assumption))
        have HB9 := hid (HBR.out.trans (hb19.mono HBR.out.size))
        clear hb9 hb19 KEEP
        go_wp2
        go_roundw
        case rel =>
          refine ⟨k + 1, by omega, by go_num, ⟨_, rfl, ?_⟩, HB9.out⟩
          by_cases hz : errOne p n o f = 0
          · exact Or.inl ⟨hz, HT.out.1, by rw [HT.out.2, HD.out, if_pos hz]⟩
          · exact Or.inr ⟨hz, by rw [HT.out.2, HD.out, if_neg hz]⟩
        case measure => simp [intOf]; omega
      · have hE1 : (E == 0) = false := by simpa using hE0
        clear hE0
        go_wp2
        go_ret
        exact ⟨ret_int hT.symm, HB0.out.trans (HBR.out.mono HB0.out.size)⟩
    · have HE := hid hE
      clear hE
      go_wp2
      go_ret
      refine ⟨ret_int ?_, HB0.out.trans (HBR.out.mono HB0.out.size)⟩
      rcases HE.out with ⟨h1, h2, h3⟩ | ⟨h1, h2⟩
      · rw [h3, List.drop_eq_nil_of_le (by omega), h1]; rfl
      · exact h2.symm
theorem take_sameT {fs gs : List Tm} {k : Nat} (h : k < fs.length) (h2 : k < gs.length) (ht : fs.take k = gs.take k) (he : fs.getD k noT = gs.getD k noT) : fs.take (k + 1) = gs.take (k + 1) := by
  rw [List.take_succ_eq_append_getElem h, List.take_succ_eq_append_getElem h2, ht]
  simp [List.getD_eq_getElem?_getD, h, h2] at he
  rw [he]

set_option maxRecDepth 100000 in
set_option maxHeartbeats 1000000 in
theorem samePoly_any (x y : Value) (fs gs : List Tm) (w : World) (hm : fs.length ≤ 8000000) (hl : ∀ t ∈ fs, t.2.length ≤ 3) (pf : Pl w x fs) (pg : Pl w y gs) :
    Calls Try.prog 71 #[x, y] w fun e w' => e = .returned (.bool (decide (fs = gs))) ∧ Below w.heap.size w w' := by
  obtain ⟨fa, fc, rfl, _, hfc⟩ := pf
  obtain ⟨ga, gc, rfl, _, hgc⟩ := pg
  have HFC := hid hfc
  have HGC := hid hgc
  have HL := hid hl
  clear hfc hgc hl
  by_cases hne : fs.length = gs.length
  · have HNE := hid hne
    rw [← hne]
    clear hne
    go_enter Try.func71, Try.ntmps71
    go_wp2
    go_loopw [5] (fun i wr => ∃ k : Nat, k ≤ fs.length ∧ i = .int .i64 k ∧ fs.take k = gs.take k ∧ Below w.heap.size w wr) (fun i _ => fs.length - (intOf i).toNat)
    case atStart => exact ⟨0, Nat.zero_le _, rfl, rfl, Below.refl _ _⟩
    case round =>
      obtain ⟨k, hk, rfl, htk, hbr⟩ := hrel
      have HTK := hid htk
      have HBR := hid hbr
      clear htk hbr
      by_cases hk2 : k < fs.length
      · have hk3 : k < gs.length := by rw [← HNE.out]; exact hk2
        obtain ⟨b, off, rfl, hlt, hat⟩ := HFC.out (by omega)
        obtain ⟨b2, off2, rfl, hlt2, hat2⟩ := HGC.out (by omega)
        obtain ⟨c0, ev, c1, hse⟩ := hat k hk2
        obtain ⟨d0, ev2, d1, hse2⟩ := hat2 k hk3
        have HTS := hid (fun h => take_sameT hk2 hk3 HTK.out h)
        have HNS : Hid (fs.getD k noT ≠ gs.getD k noT → fs ≠ gs) := fun h e => h (by rw [e])
        have HL3 := hid (HL.out _ (getD_memT fs k hk2))
        generalize fs.getD k noT = t at c0 hse HTS HNS HL3
        generalize gs.getD k noT = u at d0 hse2 HTS HNS
        obtain ⟨tc, te⟩ := t
        obtain ⟨uc, ue⟩ := u
        have HSE := hid (hse.below HBR.out)
        have HSE2 := hid (hse2.below HBR.out)
        obtain ⟨ea, ec, rfl, _⟩ := hse
        obtain ⟨ea2, ec2, rfl, _⟩ := hse2
        simp only at c0 c1 d0 d1
        have k0 := cell_keep c0 HBR.out
        have k1 := cell_keep c1 HBR.out
        have m0 := cell_keep d0 HBR.out
        have m1 := cell_keep d1 HBR.out
        have hkI : (k : Int) < (gs.length : Int) := by omega
        clear hat hat2 c0 c1 d0 d1
        cases hc : (tc != uc)
        · have KEEP : Hid (∀ W, Below wr.heap.size wr W → (Hid (Below wr.heap.size wr W) ∧ W.cell? ⟨b, off + k * 2, none⟩ = some (.int .i64 tc) ∧ W.cell? ⟨b, off + k * 2 + 1, none⟩ = some (.slice ea te.length ec) ∧ W.cell? ⟨b2, off2 + k * 2, none⟩ = some (.int .i64 uc) ∧ W.cell? ⟨b2, off2 + k * 2 + 1, none⟩ = some (.slice ea2 ue.length ec2))) :=
            fun W hb => ⟨hb, cell_keep k0 hb, cell_keep k1 hb, cell_keep m0 hb, cell_keep m1 hb⟩
          have HE1 : Hid (tc = uc) := hid (by simpa using hc)
          go_wp2_with fail
          go_region_held (fun W => Hid (Below wr.heap.size wr W) ∧ W.cell? ⟨b, off + k * 2, none⟩ = some (.int .i64 tc) ∧ W.cell? ⟨b, off + k * 2 + 1, none⟩ = some (.slice ea te.length ec) ∧ W.cell? ⟨b2, off2 + k * 2, none⟩ = some (.int .i64 uc) ∧ W.cell? ⟨b2, off2 + k * 2 + 1, none⟩ = some (.slice ea2 ue.length ec2))
            (first | exact KEEP.out _ (Below.refl _ _).drew | exact KEEP.out _ (below_step (by assumption) hb9 (Nat.le_refl _)))
            (first | (go_at_call 17; refine (sameInts_any _ _ te ue _ HL3.out ?_ ?_).mono ?_; exact HSE.out.below (Below.refl _ _).drew; exact HSE2.out.below (Below.refl _ _).drew; rintro e w9 ⟨rfl, hd9⟩; have hb9 := below_ndraws (Below.refl wr.drew.heap.size wr.drew) hd9))
          have hb19 : Below wr.heap.size wr w9 := Hid.out (And.left (by assumption))
          have HB9 := hid (HBR.out.trans (hb19.mono HBR.out.size))
          clear hb9 hd9 hb19 KEEP
          cases hsm : sameB te ue
          · go_wp2_with fail
            go_ret
            refine ⟨ret_bool ?_, HB9.out⟩
            have h1 : te ≠ ue := by simpa [sameB] using hsm
            exact (decide_eq_false (HNS.out (fun e => h1 (by injection e)))).symm
          · have HEQ : Hid ((tc, te) = (uc, ue)) := by
              have h1 : te = ue := by simpa [sameB] using hsm
              show _ = _
              rw [HE1.out, h1]
            go_wp2_with fail
            go_roundw
            case rel => exact ⟨k + 1, by omega, by go_num, HTS.out HEQ.out, HB9.out⟩
            case measure => simp [intOf]; omega
        · have e1 : tc ≠ uc := by simpa using hc
          go_wp2_with fail
          go_quiet (fail)
          go_wp2_with fail
          go_ret
          exact ⟨ret_bool (decide_eq_false (HNS.out (fun e => e1 (by injection e)))).symm, below_drewN HBR.out _⟩
      · go_wp2
        go_ret
        refine ⟨ret_bool (decide_eq_true ?_).symm, HBR.out⟩
        have h := HTK.out
        rw [List.take_of_length_le (by omega), List.take_of_length_le (by rw [← HNE.out]; omega)] at h
        exact h
  · have hne2 : ((fs.length : Int) != (gs.length : Int)) = true := by simpa using (fun e : (fs.length : Int) = gs.length => hne (by omega))
    have HD : Hid (decide (fs = gs) = false) := decide_eq_false (fun e => hne (by rw [e]))
    rw [HD.out]
    clear hne
    go_enter Try.func71, Try.ntmps71
    go_wp2
    go_ret
    exact ⟨rfl, Below.refl _ _⟩

theorem degreeOf_slO (x : Value) (xs : List Int) (w : World) (h0 : 0 < xs.length) (hm : xs.length ≤ 3) (hb : ∀ x ∈ xs, 0 ≤ x ∧ x ≤ 400) (hs : Sl w x xs) :
    Calls Try.prog 55 #[x] w fun e w' => e = .returned (.int .i64 (sumI xs)) ∧ w' = w := by
  obtain ⟨a, cap, rfl, h1⟩ := hs
  obtain ⟨b, off, rfl, hlt, hc⟩ := h1 h0
  exact degreeOf_any xs b off cap w hb hm hc
def topF (m : Int) : List Tm → Int
  | [] => m
  | t :: ts => topF (if m < sumI t.2 then sumI t.2 else m) ts
theorem topF_take (ts : List Tm) : ∀ (m : Int) (k : Nat), k < ts.length → topF m (ts.take (k + 1)) = if topF m (ts.take k) < sumI (ts.getD k noT).2 then sumI (ts.getD k noT).2 else topF m (ts.take k) := by
  induction ts with
  | nil => intro m k h; simp at h
  | cons t ts ih =>
    intro m k h
    cases k with
    | zero => simp [topF]
    | succ k =>
      simp only [List.take_succ_cons, topF]
      rw [ih _ k (by simpa using h)]
      simp
theorem topF_bd : ∀ (ts : List Tm) (m : Int), (∀ t ∈ ts, sumI t.2 ≤ 1200) → m ≤ 1200 → m ≤ topF m ts ∧ topF m ts ≤ 1200
  | [], m, _, hm => ⟨Int.le_refl _, hm⟩
  | t :: ts, m, h, hm => by
    simp only [topF]
    have h1 := h t (by simp)
    have h2 := topF_bd ts (if m < sumI t.2 then sumI t.2 else m) (fun u hu => h u (by simp [hu])) (by split <;> omega)
    refine ⟨Int.le_trans ?_ h2.1, h2.2⟩
    split <;> omega

set_option maxRecDepth 100000 in
set_option maxHeartbeats 1000000 in
theorem topOf_any (x : Value) (fs : List Tm) (w : World) (hm : fs.length ≤ 8000000) (hl : ∀ t ∈ fs, 0 < t.2.length ∧ t.2.length ≤ 3 ∧ ∀ x ∈ t.2, 0 ≤ x ∧ x ≤ 400) (pf : Pl w x fs) :
    Calls Try.prog 48 #[x] w fun e w' => e = .returned (.int .i64 (topF (-1) fs)) ∧ w' = w := by
  obtain ⟨fa, fc, rfl, _, hfc⟩ := pf
  have HFC := hid hfc
  have HL := hid hl
  have HS : Hid (∀ t ∈ fs, 0 ≤ sumI t.2 ∧ sumI t.2 ≤ 1200) := fun t ht => by
    have h1 := hl t ht
    have h2 := sumI_bd t.2 h1.2.2
    omega
  clear hfc hl
  go_enter Try.func48, Try.ntmps48
  go_wp2
  go_loop [3, 4] (fun m i => ∃ k : Nat, k ≤ fs.length ∧ i = .int .i64 k ∧ m = .int .i64 (topF (-1) (fs.take k))) (fun _ i => fs.length - (intOf i).toNat)
  case atStart => exact ⟨0, Nat.zero_le _, rfl, rfl⟩
  case round =>
    obtain ⟨k, hk, rfl, rfl⟩ := hrel
    by_cases hk2 : k < fs.length
    · obtain ⟨b, off, rfl, hlt, hat⟩ := HFC.out (by omega)
      obtain ⟨c0, ev, c1, hse⟩ := hat k hk2
      have HT := hid (topF_take fs (-1) k hk2)
      have HLK := hid (HL.out _ (getD_memT fs k hk2))
      have htop := topF_bd (fs.take k) (-1) (fun t ht => (HS.out t (List.mem_of_mem_take ht)).2) (by omega)
      generalize topF (-1) (fs.take k) = m at HT htop
      generalize fs.getD k noT = t at c0 hse HT HLK
      obtain ⟨tc, te⟩ := t
      have HSE := hid hse
      obtain ⟨ea, ec, rfl, _⟩ := hse
      simp only at c1
      have hsb := sumI_bd te HLK.out.2.2
      have hl3 : te.length ≤ 3 := HLK.out.2.1
      have HDG := hid (fun W (h : Sl W (.slice ea te.length ec) te) => degreeOf_slO _ te W HLK.out.1 HLK.out.2.1 HLK.out.2.2 h)
      clear hat c0
      by_cases hgt : m < sumI te
      · go_wp2_with (go_at_call 55; refine (HDG.out _ HSE.out).mono ?_; rintro e w' ⟨rfl, rfl⟩)
        go_round
        case rel => exact ⟨k + 1, by omega, by go_num, by rw [HT.out, if_pos hgt]⟩
        case measure => simp [intOf]; omega
      · go_wp2_with (go_at_call 55; refine (HDG.out _ HSE.out).mono ?_; rintro e w' ⟨rfl, rfl⟩)
        go_round
        case rel => exact ⟨k + 1, by omega, by go_num, by rw [HT.out, if_neg (Int.not_lt.2 hgt)]⟩
        case measure => simp [intOf]; omega
    · go_wp2
      go_ret
      exact ⟨ret_int (by rw [List.take_of_length_le (by omega)]), rfl⟩

def greatB (fs : List Tm) : Bool := decide (200 < topF (-1) fs) || decide (2000 < fs.length)
set_option maxRecDepth 100000 in
set_option maxHeartbeats 1000000 in
theorem great_any (x : Value) (fs : List Tm) (w : World) (hm : fs.length ≤ 8000000) (hl : ∀ t ∈ fs, 0 < t.2.length ∧ t.2.length ≤ 3 ∧ ∀ x ∈ t.2, 0 ≤ x ∧ x ≤ 400) (pf : Pl w x fs) :
    Calls Try.prog 49 #[x] w fun e w' => e = .returned (.bool (greatB fs)) ∧ w' = w := by
  have HP := hid pf
  have HL := hid hl
  obtain ⟨fa, fc, rfl, _, _⟩ := pf
  clear hl
  unfold greatB
  by_cases hg : 200 < topF (-1) fs
  · go_enter Try.func49, Try.ntmps49
    go_wp2_with (go_at_call 48; refine (topOf_any _ fs _ hm HL.out HP.out).mono ?_; rintro e w' ⟨rfl, rfl⟩)
    go_ret
    exact ⟨ret_bool (by simp [hg]), rfl⟩
  · go_enter Try.func49, Try.ntmps49
    go_wp2_with (go_at_call 48; refine (topOf_any _ fs _ hm HL.out HP.out).mono ?_; rintro e w' ⟨rfl, rfl⟩)
    go_ret
    exact ⟨ret_bool (by rw [decide_eq_false (Int.not_lt.2 hg)]; simp; omega), rfl⟩
end Go.Proofs.Ytilogbggilchaaa
namespace Go.Proofs.Ytilogbggilchaaa
set_option linter.unusedSimpArgs false
set_option linter.unusedVariables false
theorem fold_mem {p o : Int} : ∀ (l out : List Tm) (x : Tm), x ∈ l.foldl (ins p o) out → (∃ y ∈ l, x.2 = y.2) ∨ ∃ u ∈ out, x.2 = u.2
  | [], out, x, h => Or.inr ⟨x, h, rfl⟩
  | t :: l, out, x, h => by
    rcases fold_mem l (ins p o out t) x h with ⟨y, hy, e⟩ | ⟨u, hu, e⟩
    · exact Or.inl ⟨y, by simp [hy], e⟩
    · rcases ins_mem hu with e2 | ⟨y, hy, e2⟩
      · exact Or.inl ⟨t, by simp, by rw [e, e2]⟩
      · exact Or.inr ⟨y, hy, by rw [e, e2]⟩
theorem col_mem {p o : Int} {l : List Tm} {x : Tm} (h : x ∈ colL p o l) : ∃ y ∈ l, x.2 = y.2 := by
  rcases fold_mem l [] x (List.mem_filter.1 h).1 with h | ⟨u, hu, _⟩
  · exact h
  · simp at hu
theorem ordS_sum {o : Int} {xs ys : List Int} (h : 0 < ordS o xs ys) : sumI ys ≤ sumI xs := by
  have h2 := cmpI_vals (sumI xs) (sumI ys)
  unfold ordS at h
  by_cases hz : cmpI (sumI xs) (sumI ys) = 0
  · omega
  · rw [if_neg hz] at h; omega
theorem topF_ge : ∀ (ts : List Tm) (m : Int), m ≤ topF m ts ∧ ∀ x ∈ ts, sumI x.2 ≤ topF m ts
  | [], m => ⟨Int.le_refl _, fun x hx => by simp at hx⟩
  | t :: ts, m => by
    have h := topF_ge ts (if m < sumI t.2 then sumI t.2 else m)
    simp only [topF]
    have hm : m ≤ (if m < sumI t.2 then sumI t.2 else m) ∧ sumI t.2 ≤ (if m < sumI t.2 then sumI t.2 else m) := by split <;> omega
    refine ⟨Int.le_trans hm.1 h.1, fun x hx => ?_⟩
    rcases List.mem_cons.1 hx with rfl | hx
    · exact Int.le_trans hm.2 h.1
    · exact h.2 x hx
theorem topF_le {B : Int} : ∀ (ts : List Tm) (m : Int), (∀ x ∈ ts, sumI x.2 ≤ B) → m ≤ B → topF m ts ≤ B
  | [], m, _, hm => hm
  | t :: ts, m, h, hm => by
    simp only [topF]
    refine topF_le ts _ (fun x hx => h x (by simp [hx])) ?_
    have := h t (by simp)
    split <;> omega
theorem great_small {ts : List Tm} (h : ∀ x ∈ ts, sumI x.2 ≤ 200) : greatB ts = decide (2000 < ts.length) := by
  unfold greatB
  have := topF_le ts (-1) h (by omega)
  rw [decide_eq_false (by omega), Bool.false_or]
theorem great_large {ts : List Tm} {x : Tm} (hx : x ∈ ts) (h : 200 < sumI x.2) : greatB ts = true := by
  unfold greatB
  have := (topF_ge ts (-1)).2 x hx
  rw [decide_eq_true (by omega), Bool.true_or]
theorem right_head {p o : Int} {N : Nat} {t : Tm} {ts : List Tm} (h : Canon p o N (t :: ts)) : ∀ x ∈ t :: ts, sumI x.2 ≤ sumI t.2 := by
  intro x hx
  rcases List.mem_cons.1 hx with rfl | hx
  · exact Int.le_refl _
  · exact ordS_sum (h.falls.1 x hx)
theorem prod_deg {p o : Int} {N : Nat} {t u : Tm} {f g : List Tm} (hf : Canon p o N (t :: f)) (hg : Canon p o N (u :: g)) : ∀ x ∈ colL p o (prodL p (t :: f) (u :: g)), sumI x.2 ≤ sumI t.2 + sumI u.2 := by
  intro x hx
  obtain ⟨y, hy, e⟩ := col_mem hx
  simp only [Go.Proofs.Ytilogbggilchaaa.prodL, prodT, List.mem_flatMap, List.mem_map] at hy
  obtain ⟨a, ha, b, hb, rfl⟩ := hy
  rw [e]
  simp only
  rw [sumI_zip _ _ (by rw [hf.len a ha, hg.len b hb])]
  have h1 := right_head hf a ha
  have h2 := right_head hg b hb
  omega
theorem prod_lead {p o : Int} {N : Nat} (he : errP p = 0) {t u : Tm} {f g : List Tm} (hf : Canon p o N (t :: f)) (hg : Canon p o N (u :: g)) : ∃ x ∈ colL p o (prodL p (t :: f) (u :: g)), x.2 = zipI (· + ·) t.2 u.2 := by
  apply Classical.byContradiction
  intro hno
  have hz : lin (delta (zipI (· + ·) t.2 u.2)) (colL p o (prodL p (t :: f) (u :: g))) = 0 := lin_delta_none (fun x hx e => hno ⟨x, hx, e⟩)
  have hl := lin_col p o (delta (zipI (· + ·) t.2 u.2)) (prodL p (t :: f) (u :: g))
  rw [hz] at hl
  have lt := hf.len t (by simp)
  have lu := hg.len u (by simp)
  have e0 : prodL p (t :: f) (u :: g) = (t.1 * u.1 % p, zipI (· + ·) t.2 u.2) :: (prodT p t g ++ prodL p f (u :: g)) := rfl
  have hne : ∀ x ∈ prodT p t g ++ prodL p f (u :: g), x.2 ≠ zipI (· + ·) t.2 u.2 := by
    intro x hx e
    have pos : 0 < ordS o (zipI (· + ·) t.2 u.2) x.2 := by
      rcases List.mem_append.1 hx with hx | hx
      · simp only [prodT, List.mem_map] at hx
        obtain ⟨b, hb, rfl⟩ := hx
        have lb := hg.len b (by simp [hb])
        simp only
        rw [zip_comm t.2 u.2, zip_comm t.2 b.2, ordS_add o u.2 b.2 t.2 (by omega) (by omega)]
        exact hg.falls.1 b hb
      · simp only [Go.Proofs.Ytilogbggilchaaa.prodL, prodT, List.mem_flatMap, List.mem_map] at hx
        obtain ⟨a, ha, b, hb, rfl⟩ := hx
        have la := hf.len a (by simp [ha])
        have lb := hg.len b hb
        simp only
        have h1 : 0 < ordS o (zipI (· + ·) t.2 u.2) (zipI (· + ·) a.2 u.2) := by
          rw [ordS_add o t.2 a.2 u.2 (by omega) (by omega)]; exact hf.falls.1 a ha
        rcases List.mem_cons.1 hb with rfl | hb
        · exact h1
        · have h2 : 0 < ordS o (zipI (· + ·) a.2 u.2) (zipI (· + ·) a.2 b.2) := by
            rw [zip_comm a.2 u.2, zip_comm a.2 b.2, ordS_add o u.2 b.2 a.2 (by omega) (by omega)]; exact hg.falls.1 b hb
          exact ordS_trans o _ _ _ (by rw [zipI_len _ _ _ (by omega), zipI_len _ _ _ (by omega)]; omega) (by rw [zipI_len _ _ _ (by omega), zipI_len _ _ _ (by omega)]) h1 h2
    rw [e] at pos
    have := (ordS_zero o (zipI (· + ·) t.2 u.2) (zipI (· + ·) t.2 u.2) rfl).2 rfl
    omega
  rw [e0] at hl
  simp only [lin] at hl
  rw [lin_delta_none hne] at hl
  have h1 := prime_mulI he (hf.coef t (by simp)).1 (hf.coef t (by simp)).2 (hg.coef u (by simp)).1 (hg.coef u (by simp)).2
  have h2 : delta (zipI (· + ·) t.2 u.2) (zipI (· + ·) t.2 u.2) = 1 := by unfold delta; rw [if_pos rfl]
  rw [h2] at hl
  have h3 := dvd_neg hl
  have := Int.le_of_dvd (by omega) h3
  omega
theorem great_prod {p o : Int} {N : Nat} (he : errP p = 0) {t u : Tm} {f g : List Tm} (hf : Canon p o N (t :: f)) (hg : Canon p o N (u :: g)) :
    greatB (colL p o (prodL p (t :: f) (u :: g))) = (decide (200 < sumI t.2 + sumI u.2) || decide (2000 < (colL p o (prodL p (t :: f) (u :: g))).length)) := by
  by_cases h : 200 < sumI t.2 + sumI u.2
  · obtain ⟨x, hx, e⟩ := prod_lead he hf hg
    rw [great_large hx (by rw [e, sumI_zip _ _ (by rw [hf.len t (by simp), hg.len u (by simp)])]; exact h), decide_eq_true h, Bool.true_or]
  · rw [great_small (fun x hx => by have := prod_deg hf hg x hx; omega), decide_eq_false h, Bool.false_or]
theorem great_none {p o : Int} {f g : List Tm} (h : f = [] ∨ g = []) : colL p o (prodL p f g) = [] := by
  rcases h with rfl | rfl
  · rfl
  · have : prodL p f [] = [] := by
      unfold Go.Proofs.Ytilogbggilchaaa.prodL
      induction f with
      | nil => rfl
      | cons t f ih => simp [prodT]
    rw [this]; rfl
theorem sum_deg {p o : Int} {N : Nat} {f g : List Tm} (hf : Right p o N f) (hg : Right p o N g) : ∀ x ∈ colL p o (f ++ g), sumI x.2 ≤ 200 := by
  intro x hx
  obtain ⟨y, hy, e⟩ := col_mem hx
  rw [e]
  exact (List.mem_append.1 hy).elim (hf.deg y) (hg.deg y)
end Go.Proofs.Ytilogbggilchaaa
