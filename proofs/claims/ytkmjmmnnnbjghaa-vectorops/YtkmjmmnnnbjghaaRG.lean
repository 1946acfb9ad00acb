/- SamePoly, TopOf, Great of the reference. -/
import Derived.Test.YtkmjmmnnnbjghaaRC
import Derived.Test.YtkmjmmnnnbjghaaM
namespace Go.Proofs.Ytkmjmmnnnbjghaa
set_option linter.unusedSimpArgs false
set_option linter.unusedVariables false
open Go.RowKit

theorem take_sameT {fs gs : List Tm} {k : Nat} (h : k < fs.length) (h2 : k < gs.length) (ht : fs.take k = gs.take k) (he : fs.getD k noT = gs.getD k noT) : fs.take (k + 1) = gs.take (k + 1) := by
  rw [List.take_succ_eq_append_getElem h, List.take_succ_eq_append_getElem h2, ht]
  simp [List.getD_eq_getElem?_getD, h, h2] at he
  rw [he]

set_option maxRecDepth 100000 in
set_option maxHeartbeats 1000000 in
theorem samePoly_any (x y : Value) (fs gs : List Tm) (w : World) (hm : fs.length ≤ 8000000) (hl : ∀ t ∈ fs, t.2.length ≤ 3) (pf : Pl w x fs) (pg : Pl w y gs) :
    Calls Try.prog 122 #[x, y] w fun e w' => e = .returned (.bool (decide (fs = gs))) ∧ Below w.heap.size w w' := by
  obtain ⟨fa, fc, rfl, _, hfc⟩ := pf
  obtain ⟨ga, gc, rfl, _, hgc⟩ := pg
  have HFC := hid hfc
  have HGC := hid hgc
  have HL := hid hl
  clear hfc hgc hl
  by_cases hne : fs.length = gs.length
  · have HNE := hid hne
    rw [← hne]
    clear hne
    go_enter Try.func122, Try.ntmps122
    go_wp2
    go_loopw [5] (fun i wr => ∃ k : Nat, k ≤ fs.length ∧ i = .int .i64 k ∧ fs.take k = gs.take k ∧ Below w.heap.size w wr) (fun i _ => fs.length - (intOf i).toNat)
    case atStart => exact ⟨0, Nat.zero_le _, rfl, rfl, Below.refl _ _⟩
    case round =>
      obtain ⟨k, hk, rfl, htk, hbr⟩ := hrel
      have HTK := hid htk
      have HBR := hid hbr
      clear htk hbr
      by_cases hk2 : k < fs.length
      · have hk3 : k < gs.length := by rw [← HNE.out]; exact hk2
        obtain ⟨b, off, rfl, hlt, hat⟩ := HFC.out (by omega)
        obtain ⟨b2, off2, rfl, hlt2, hat2⟩ := HGC.out (by omega)
        obtain ⟨c0, ev, c1, hse⟩ := hat k hk2
        obtain ⟨d0, ev2, d1, hse2⟩ := hat2 k hk3
        have HTS := hid (fun h => take_sameT hk2 hk3 HTK.out h)
        have HNS : Hid (fs.getD k noT ≠ gs.getD k noT → fs ≠ gs) := fun h e => h (by rw [e])
        have HL3 := hid (HL.out _ (getD_memT fs k hk2))
        generalize fs.getD k noT = t at c0 hse HTS HNS HL3
        generalize gs.getD k noT = u at d0 hse2 HTS HNS
        obtain ⟨tc, te⟩ := t
        obtain ⟨uc, ue⟩ := u
        have HSE := hid (hse.below HBR.out)
        have HSE2 := hid (hse2.below HBR.out)
        obtain ⟨ea, ec, rfl, _⟩ := hse
        obtain ⟨ea2, ec2, rfl, _⟩ := hse2
        simp only at c0 c1 d0 d1
        have k0 := cell_keep c0 HBR.out
        have k1 := cell_keep c1 HBR.out
        have m0 := cell_keep d0 HBR.out
        have m1 := cell_keep d1 HBR.out
        have hkI : (k : Int) < (gs.length : Int) := by omega
        clear hat hat2 c0 c1 d0 d1
        cases hc : (tc != uc)
        · have KEEP : Hid (∀ W, Below wr.heap.size wr W → (Hid (Below wr.heap.size wr W) ∧ W.cell? ⟨b, off + k * 2, none⟩ = some (.int .i64 tc) ∧ W.cell? ⟨b, off + k * 2 + 1, none⟩ = some (.slice ea te.length ec) ∧ W.cell? ⟨b2, off2 + k * 2, none⟩ = some (.int .i64 uc) ∧ W.cell? ⟨b2, off2 + k * 2 + 1, none⟩ = some (.slice ea2 ue.length ec2))) :=
            fun W hb => ⟨hb, cell_keep k0 hb, cell_keep k1 hb, cell_keep m0 hb, cell_keep m1 hb⟩
          have HE1 : Hid (tc = uc) := hid (by simpa using hc)
          go_wp2_with fail
          go_region_held (fun W => Hid (Below wr.heap.size wr W) ∧ W.cell? ⟨b, off + k * 2, none⟩ = some (.int .i64 tc) ∧ W.cell? ⟨b, off + k * 2 + 1, none⟩ = some (.slice ea te.length ec) ∧ W.cell? ⟨b2, off2 + k * 2, none⟩ = some (.int .i64 uc) ∧ W.cell? ⟨b2, off2 + k * 2 + 1, none⟩ = some (.slice ea2 ue.length ec2))
            (first | exact KEEP.out _ (Below.refl _ _).drew | exact KEEP.out _ (below_step (by assumption) hb9 (Nat.le_refl _)))
            (first | (go_at_call 36; refine (sameInts_any _ _ te ue _ HL3.out ?_ ?_).mono ?_; exact HSE.out.below (Below.refl _ _).drew; exact HSE2.out.below (Below.refl _ _).drew; rintro e w9 ⟨rfl, hd9⟩; have hb9 := below_ndraws (Below.refl wr.drew.heap.size wr.drew) hd9))
          have hb19 : Below wr.heap.size wr w9 := Hid.out (And.left (by assumption))
          have HB9 := hid (HBR.out.trans (hb19.mono HBR.out.size))
          clear hb9 hd9 hb19 KEEP
          cases hsm : sameB te ue
          · go_wp2_with fail
            go_ret
            refine ⟨ret_bool ?_, HB9.out⟩
            have h1 : te ≠ ue := by simpa [sameB] using hsm
            exact (decide_eq_false (HNS.out (fun e => h1 (by injection e)))).symm
          · have HEQ : Hid ((tc, te) = (uc, ue)) := by
              have h1 : te = ue := by simpa [sameB] using hsm
              show _ = _
              rw [HE1.out, h1]
            go_wp2_with fail
            go_roundw
            case rel => exact ⟨k + 1, by omega, by go_num, HTS.out HEQ.out, HB9.out⟩
            case measure => simp [intOf]; omega
        · have e1 : tc ≠ uc := by simpa using hc
          go_wp2_with fail
          go_quiet (fail)
          go_wp2_with fail
          go_ret
          exact ⟨ret_bool (decide_eq_false (HNS.out (fun e => e1 (by injection e)))).symm, below_drewN HBR.out _⟩
      · go_wp2
        go_ret
        refine ⟨ret_bool (decide_eq_true ?_).symm, HBR.out⟩
        have h := HTK.out
        rw [List.take_of_length_le (by omega), List.take_of_length_le (by rw [← HNE.out]; omega)] at h
        exact h
  · have hne2 : ((fs.length : Int) != (gs.length : Int)) = true := by simpa using (fun e : (fs.length : Int) = gs.length => hne (by omega))
    have HD : Hid (decide (fs = gs) = false) := decide_eq_false (fun e => hne (by rw [e]))
    rw [HD.out]
    clear hne
    go_enter Try.func122, Try.ntmps122
    go_wp2
    go_ret
    exact ⟨rfl, Below.refl _ _⟩

theorem degreeOf_slO (x : Value) (xs : List Int) (w : World) (h0 : 0 < xs.length) (hm : xs.length ≤ 3) (hb : ∀ x ∈ xs, 0 ≤ x ∧ x ≤ 400) (hs : Sl w x xs) :
    Calls Try.prog 29 #[x] w fun e w' => e = .returned (.int .i64 (sumI xs)) ∧ w' = w := by
  obtain ⟨a, cap, rfl, h1⟩ := hs
  obtain ⟨b, off, rfl, hlt, hc⟩ := h1 h0
  exact degreeOf_any xs b off cap w hb hm hc
/-- The degree of terms; -1: of none. -/
def topF (m : Int) : List Tm → Int
  | [] => m
  | t :: ts => topF (if m < sumI t.2 then sumI t.2 else m) ts
theorem topF_take (ts : List Tm) : ∀ (m : Int) (k : Nat), k < ts.length → topF m (ts.take (k + 1)) = if topF m (ts.take k) < sumI (ts.getD k noT).2 then sumI (ts.getD k noT).2 else topF m (ts.take k) := by
  induction ts with
  | nil => intro m k h; simp at h
  | cons t ts ih =>
    intro m k h
    cases k with
    | zero => simp [topF]
    | succ k =>
      simp only [List.take_succ_cons, topF]
      rw [ih _ k (by simpa using h)]
      simp
theorem topF_bd : ∀ (ts : List Tm) (m : Int), (∀ t ∈ ts, sumI t.2 ≤ 1200) → m ≤ 1200 → m ≤ topF m ts ∧ topF m ts ≤ 1200
  | [], m, _, hm => ⟨Int.le_refl _, hm⟩
  | t :: ts, m, h, hm => by
    simp only [topF]
    have h1 := h t (by simp)
    have h2 := topF_bd ts (if m < sumI t.2 then sumI t.2 else m) (fun u hu => h u (by simp [hu])) (by split <;> omega)
    refine ⟨Int.le_trans ?_ h2.1, h2.2⟩
    split <;> omega

set_option maxRecDepth 100000 in
set_option maxHeartbeats 1000000 in
theorem topOf_any (x : Value) (fs : List Tm) (w : World) (hm : fs.length ≤ 8000000) (hl : ∀ t ∈ fs, 0 < t.2.length ∧ t.2.length ≤ 3 ∧ ∀ x ∈ t.2, 0 ≤ x ∧ x ≤ 400) (pf : Pl w x fs) :
    Calls Try.prog 94 #[x] w fun e w' => e = .returned (.int .i64 (topF (-1) fs)) ∧ w' = w := by
  obtain ⟨fa, fc, rfl, _, hfc⟩ := pf
  have HFC := hid hfc
  have HL := hid hl
  have HS : Hid (∀ t ∈ fs, 0 ≤ sumI t.2 ∧ sumI t.2 ≤ 1200) := fun t ht => by
    have h1 := hl t ht
    have h2 := sumI_bd t.2 h1.2.2
    omega
  clear hfc hl
  go_enter Try.func94, Try.ntmps94
  go_wp2
  go_loop [3, 4] (fun m i => ∃ k : Nat, k ≤ fs.length ∧ i = .int .i64 k ∧ m = .int .i64 (topF (-1) (fs.take k))) (fun _ i => fs.length - (intOf i).toNat)
  case atStart => exact ⟨0, Nat.zero_le _, rfl, rfl⟩
  case round =>
    obtain ⟨k, hk, rfl, rfl⟩ := hrel
    by_cases hk2 : k < fs.length
    · obtain ⟨b, off, rfl, hlt, hat⟩ := HFC.out (by omega)
      obtain ⟨c0, ev, c1, hse⟩ := hat k hk2
      have HT := hid (topF_take fs (-1) k hk2)
      have HLK := hid (HL.out _ (getD_memT fs k hk2))
      have htop := topF_bd (fs.take k) (-1) (fun t ht => (HS.out t (List.mem_of_mem_take ht)).2) (by omega)
      generalize topF (-1) (fs.take k) = m at HT htop
      generalize fs.getD k noT = t at c0 hse HT HLK
      obtain ⟨tc, te⟩ := t
      have HSE := hid hse
      obtain ⟨ea, ec, rfl, _⟩ := hse
      simp only at c1
      have hsb := sumI_bd te HLK.out.2.2
      have hl3 : te.length ≤ 3 := HLK.out.2.1
      have HDG := hid (fun W (h : Sl W (.slice ea te.length ec) te) => degreeOf_slO _ te W HLK.out.1 HLK.out.2.1 HLK.out.2.2 h)
      clear hat c0
      by_cases hgt : m < sumI te
      · go_wp2_with (go_at_call 29; refine (HDG.out _ HSE.out).mono ?_; rintro e w' ⟨rfl, rfl⟩)
        go_round
        case rel => exact ⟨k + 1, by omega, by go_num, by rw [HT.out, if_pos hgt]⟩
        case measure => simp [intOf]; omega
      · go_wp2_with (go_at_call 29; refine (HDG.out _ HSE.out).mono ?_; rintro e w' ⟨rfl, rfl⟩)
        go_round
        case rel => exact ⟨k + 1, by omega, by go_num, by rw [HT.out, if_neg (Int.not_lt.2 hgt)]⟩
        case measure => simp [intOf]; omega
    · go_wp2
      go_ret
      exact ⟨ret_int (by rw [List.take_of_length_le (by omega)]), rfl⟩

def greatB (fs : List Tm) : Bool := decide (200 < topF (-1) fs) || decide (2000 < fs.length)
set_option maxRecDepth 100000 in
set_option maxHeartbeats 1000000 in
theorem great_any (x : Value) (fs : List Tm) (w : World) (hm : fs.length ≤ 8000000) (hl : ∀ t ∈ fs, 0 < t.2.length ∧ t.2.length ≤ 3 ∧ ∀ x ∈ t.2, 0 ≤ x ∧ x ≤ 400) (pf : Pl w x fs) :
    Calls Try.prog 95 #[x] w fun e w' => e = .returned (.bool (greatB fs)) ∧ w' = w := by
  have HP := hid pf
  have HL := hid hl
  obtain ⟨fa, fc, rfl, _, _⟩ := pf
  clear hl
  unfold greatB
  by_cases hg : 200 < topF (-1) fs
  · go_enter Try.func95, Try.ntmps95
    go_wp2_with (go_at_call 94; refine (topOf_any _ fs _ hm HL.out HP.out).mono ?_; rintro e w' ⟨rfl, rfl⟩)
    go_ret
    exact ⟨ret_bool (by simp [hg]), rfl⟩
  · go_enter Try.func95, Try.ntmps95
    go_wp2_with (go_at_call 94; refine (topOf_any _ fs _ hm HL.out HP.out).mono ?_; rintro e w' ⟨rfl, rfl⟩)
    go_ret
    exact ⟨ret_bool (by rw [decide_eq_false (Int.not_lt.2 hg)]; simp; omega), rfl⟩

end Go.Proofs.Ytkmjmmnnnbjghaa

/- Rows of polynomials of the call's own: their cells are slices, so no polynomial lies in them. -/
namespace Go.Proofs.Ytkmjmmnnnbjghaa
set_option linter.unusedSimpArgs false
set_option linter.unusedVariables false
open Go.RowKit

/-- All cells of a block are slices. -/
def SlK (w : World) (g : Nat) : Prop := ∀ j u, w.cell? ⟨g, j, none⟩ = some u → ∃ a n c, u = .slice a n c
theorem SlK.below {w w' : World} {g : Nat} (h : SlK w g) (hlt : g < w.heap.size) (hb : Below w.heap.size w w') : SlK w' g := by
  intro j u hu
  rw [hb.cell (p := ⟨g, j, none⟩) hlt] at hu
  exact h j u hu
theorem cell_far {w w' : World} {g b o : Nat} (hg : w.grownBy w' (some g)) (hlt : b < w.heap.size) (hne : b ≠ g) : w'.cell? ⟨b, o, none⟩ = w.cell? ⟨b, o, none⟩ :=
  World.cell?_of_block (hg.block b hlt (by simpa using hne))
theorem sl_keep {w w' : World} {g : Nat} (hk : SlK w g) (hg : w.grownBy w' (some g)) {v : Value} {xs : List Int} (h : Sl w v xs) : Sl w' v xs := by
  obtain ⟨a, cap, rfl, h⟩ := h
  refine ⟨a, cap, rfl, fun hp => ?_⟩
  obtain ⟨b, off, rfl, hlt, hc⟩ := h hp
  have hne : b ≠ g := by
    intro e
    subst e
    obtain ⟨_, _, _, hx⟩ := hk _ _ (hc 0 hp)
    cases hx
  exact ⟨b, off, rfl, Nat.lt_of_lt_of_le hlt hg.size, fun i hi => by rw [cell_far hg hlt hne]; exact hc i hi⟩
theorem pl_keep {w w' : World} {g : Nat} (hk : SlK w g) (hg : w.grownBy w' (some g)) {v : Value} {ts : List Tm} (h : Pl w v ts) : Pl w' v ts := by
  obtain ⟨a, cap, rfl, hcap, h⟩ := h
  refine ⟨a, cap, rfl, hcap, fun hp => ?_⟩
  obtain ⟨b, off, rfl, hlt, hc⟩ := h hp
  have hne : b ≠ g := by
    intro e
    subst e
    obtain ⟨_, _, _, hx⟩ := hk _ _ (hc 0 hp).1
    cases hx
  refine ⟨b, off, rfl, Nat.lt_of_lt_of_le hlt hg.size, fun i hi => ?_⟩
  obtain ⟨h1, u, h2, h3⟩ := hc i hi
  exact ⟨by rw [cell_far hg hlt hne]; exact h1, u, by rw [cell_far hg hlt hne]; exact h2, sl_keep hk hg h3⟩

theorem slk_alloc {w : World} {C : Array Value} {T : TypeId} (h : ∀ u ∈ C.toList, ∃ a n c, u = .slice a n c) : SlK (w.alloc (.cells C T)) w.heap.size := by
  intro j u hu
  have e : (w.alloc (.cells C T)).cell? ⟨w.heap.size, j, none⟩ = C[j]? := by
    unfold World.cell?
    rw [show (w.alloc (.cells C T)).heap[w.heap.size]? = some (.cells C T (0, 0)) from heap_alloc_new w _]
    simp
  rw [e] at hu
  exact h u (by rw [Array.mem_toList_iff]; exact Array.mem_of_getElem? hu)
theorem slk_row {w : World} {g : Nat} {C : Array Value} {T : TypeId} (hg : w.heap[g]? = some (.cells C T (0, 0))) (h : ∀ u ∈ C.toList, ∃ a n c, u = .slice a n c) : SlK w g := by
  intro j u hu
  have e : w.cell? ⟨g, j, none⟩ = C[j]? := by
    unfold World.cell?
    rw [hg]
    simp
  rw [e] at hu
  exact h u (by rw [Array.mem_toList_iff]; exact Array.mem_of_getElem? hu)
theorem row_slk {w : World} {g : Nat} {C : Array Value} {T : TypeId} (hg : w.heap[g]? = some (.cells C T (0, 0))) (h : SlK w g) : ∀ u ∈ C.toList, ∃ a n c, u = .slice a n c := by
  intro u hu
  obtain ⟨j, hj, rfl⟩ := List.getElem_of_mem hu
  refine h j _ ?_
  unfold World.cell?
  rw [hg]
  simp at hj ⊢

/-- One more onto a row of slices: its cells are slices still. -/
theorem run_append_slk {P : Program} (w : World) (base : Nat) (t ty e : TypeId) (i : TypeInfo) (ht : P.underlying t = some (.slice e)) (hi : P.info? e = some i) (hz : i.zero = some (.slice none 0 0)) (hsize : i.size = 1) (hby : i.bytes = 24)
    (v : Value) (n : Nat) (xs : List Value) (hown : w.ownsRow base e 1 v n xs) (hk : ∀ g, v.ownBlock = some g → SlK w g)
    (a : Addr) (c : Nat) (u : Value) (hu : ∃ a n c, u = .slice a n c) (hnew : ∀ j x, [u][j]? = some x → w.cell? (a.add j) = some x) (hn : n ≤ 4000000) (hbase : base ≤ w.heap.size) :
    ∃ v' w', (Builtin.append_ #[t, t] ty #[v, .slice (some a) 1 c]).run P w = .ok v' w' ∧ w'.ownsRow base e 1 v' (n + 1) (xs ++ [u]) ∧ w.grownBy w' v.ownBlock ∧ (∀ g, v'.ownBlock = some g → SlK w' g) := by
  have hone : ∀ x ∈ [u], x.oneCell' = true := by
    intro x hx
    rw [List.mem_singleton] at hx
    obtain ⟨_, _, _, e⟩ := hu
    rw [hx, e]; rfl
  obtain ⟨v', w', hr, h2, h3, _⟩ := run_append_own (P := P) w base t ty e i (.slice none 0 0) 1 24 ht hi hz hsize hby rfl (by decide) v n xs hown a 1 c [u] (by simp) hnew hone (by unfold maxLen; omega) (by omega) hbase
  refine ⟨v', w', hr, h2, h3, ?_⟩
  have hzero : ∀ (m : Nat), ∀ x ∈ (Builtin.zeroCells (Value.cells (.slice none 0 0)) m).toList, ∃ a n c, x = .slice a n c := by
    intro m x hx
    simp [Builtin.zeroCells, Value.cells] at hx
    obtain ⟨l, _, hx⟩ := hx
    rw [Nat.mod_one] at hx
    exact ⟨none, 0, 0, by rw [← hx]; rfl⟩
  rcases hown.2 with ⟨rfl, rfl⟩ | ⟨g, cap, cur, rfl, hbg, hg, hnc, hcm, hcs, htake⟩
  · have hr2 := run_append_nil (P := P) w t ty e i (.slice none 0 0) ht hi hz a 1 c [u] (by rw [hsize]; rfl) hnew (by omega) (by omega) (by rw [hby]; omega)
    rw [hr] at hr2
    simp only [Result.ok.injEq] at hr2
    obtain ⟨rfl, rfl⟩ := hr2
    intro g hg
    simp only [Value.ownBlock, Option.some.injEq] at hg
    subst hg
    refine slk_alloc (w := w.drew) (fun x hx => ?_)
    rw [Array.toList_append, List.mem_append] at hx
    rcases hx with hx | hx
    · simp at hx; rw [hx]; exact hu
    · exact hzero _ x hx
  · have hcur := row_slk hg (hk g rfl)
    by_cases hroom : n + 1 ≤ cap
    · have hr2 := run_append_room (P := P) w t ty e i ht hi g n cap cur hg a 1 c [u] (by rw [hsize]; rfl) hnew hone hroom (by rw [hsize, hcs]; simp; omega)
      rw [hr] at hr2
      simp only [Result.ok.injEq] at hr2
      obtain ⟨rfl, rfl⟩ := hr2
      intro g2 hg2
      simp only [Value.ownBlock, Option.some.injEq] at hg2
      subst hg2
      refine slk_row (setRow_heap w g cur _ e _ hg) (fun x hx => ?_)
      rw [List.toList_toArray, List.mem_append, List.mem_append] at hx
      rcases hx with (hx | hx) | hx
      · exact hcur x (List.mem_of_mem_take hx)
      · rw [List.mem_singleton] at hx; rw [hx]; exact hu
      · exact hcur x (List.mem_of_mem_drop hx)
    · have holds : ∀ j x, xs[j]? = some x → w.cell? ((⟨g, 0, none⟩ : Addr).add j) = some x := hown.cells (g := g) rfl
      have hr2 := run_append_grow (P := P) w t ty e i (.slice none 0 0) ht hi hz ⟨g, 0, none⟩ n cap xs (by rw [hsize]; exact hown.1) holds a 1 c [u] (by rw [hsize]; rfl) hnew (by omega) (by omega) (growslice_fits (by omega) (by rw [hby]; omega))
      rw [hr] at hr2
      simp only [Result.ok.injEq] at hr2
      obtain ⟨rfl, rfl⟩ := hr2
      intro g2 hg2
      simp only [Value.ownBlock, Option.some.injEq] at hg2
      subst hg2
      refine slk_alloc (w := w.drew) (fun x hx => ?_)
      rw [Array.toList_append, Array.toList_append, List.mem_append, List.mem_append] at hx
      rcases hx with (hx | hx) | hx
      · rw [List.toList_toArray, ← htake] at hx
        exact hcur x (List.mem_of_mem_take hx)
      · simp at hx; rw [hx]; exact hu
      · exact hzero _ x hx

theorem Try.infoPolyW : (Try.prog.info? 54).map (fun i => (i.zero, i.size, i.bytes)) = some (some (.slice none 0 0), 1, 24) := by kernel_rfl
def nilV : Value := .slice none 0 0
/-- A row of these polynomials, of the call's own. -/
structure PRow (B : Nat) (w : World) (v : Value) (us : List Value) (fss : List (List Tm)) : Prop where
  len : us.length = fss.length
  own : w.ownsRow B 54 1 v fss.length us
  kind : ∀ g, v.ownBlock = some g → SlK w g
  pls : ∀ i, i < fss.length → Pl w (us.getD i nilV) (fss.getD i [])
theorem PRow.next {B : Nat} {w w' : World} {v : Value} {us : List Value} {fss : List (List Tm)} (h : PRow B w v us fss) (hb : Below w.heap.size w w') : PRow B w' v us fss :=
  ⟨h.len, ownBlock_lt h.own hb, fun g hg => (h.kind g hg).below (World.ownsRow.lt h.own g hg).2 hb, fun i hi => (h.pls i hi).below hb⟩
theorem PRow.nil (B : Nat) (w : World) : PRow B w (.slice none 0 0) [] [] :=
  ⟨rfl, World.ownsRow_nil _ _ _ _, fun g hg => by simp [Value.ownBlock] at hg, fun i hi => by simp at hi⟩
theorem PRow.vl {B : Nat} {w : World} {v : Value} {us : List Value} {fss : List (List Tm)} (h : PRow B w v us fss) : Vl w v fss := by
  obtain ⟨a, c, rfl⟩ := own_sl h.own
  refine ⟨a, c, rfl, fun hp => ?_⟩
  obtain ⟨g, rfl, _, hlt, _⟩ := own_at1 h.own 0 hp
  refine ⟨g, 0, rfl, hlt, fun i hi => ?_⟩
  obtain ⟨g2, hg2, _, _, hc⟩ := own_at1 h.own i hi
  simp only [Option.some.injEq, Addr.mk.injEq, and_true] at hg2
  subst hg2
  refine ⟨us.getD i nilV, ?_, h.pls i hi⟩
  rw [Nat.zero_add, hc]
  have : i < us.length := by rw [h.len]; exact hi
  simp [List.getD_eq_getElem?_getD, this]
theorem PRow.snoc {B : Nat} {W W2 : World} {v v2 : Value} {us : List Value} {fss : List (List Tm)} {u : Value} {f : List Tm} (h : PRow B W v us fss) (hu : Pl W u f)
    (h2 : W2.ownsRow B 54 1 v2 (fss.length + 1) (us ++ [u])) (g2 : W.grownBy W2 v.ownBlock) (k2 : ∀ g, v2.ownBlock = some g → SlK W2 g) : PRow B W2 v2 (us ++ [u]) (fss ++ [f]) := by
  have keep : ∀ {x : Value} {ts : List Tm}, Pl W x ts → Pl W2 x ts := by
    intro x ts hx
    cases ho : v.ownBlock with
    | none =>
      rw [ho] at g2
      exact hx.below ⟨g2.os, g2.tape, g2.output, g2.size, fun k hk => g2.block k hk (by simp)⟩
    | some g =>
      rw [ho] at g2
      exact pl_keep (h.kind g ho) g2 hx
  refine ⟨by simp [h.len], by rw [List.length_append]; exact h2, k2, fun i hi => ?_⟩
  rw [List.length_append] at hi
  simp only [List.length_cons, List.length_nil] at hi
  rcases Nat.lt_or_ge i fss.length with hl | hl
  · have e1 : (us ++ [u]).getD i nilV = us.getD i nilV := by simp [List.getD_eq_getElem?_getD, List.getElem?_append_left (show i < us.length by rw [h.len]; exact hl)]
    have e2 : (fss ++ [f]).getD i [] = fss.getD i [] := by simp [List.getD_eq_getElem?_getD, List.getElem?_append_left hl]
    rw [e1, e2]
    exact keep (h.pls i hl)
  · have e : i = fss.length := by omega
    subst e
    have e1 : (us ++ [u]).getD fss.length nilV = u := by rw [← h.len]; simp [List.getD_eq_getElem?_getD]
    have e2 : (fss ++ [f]).getD fss.length [] = f := by simp [List.getD_eq_getElem?_getD]
    rw [e1, e2]
    exact keep hu
theorem PRow.grown {B : Nat} {w W w' : World} {v : Value} {us : List Value} {fss : List (List Tm)} (h : PRow B W v us fss) (hb : Below B w W) (hg : W.grownBy w' v.ownBlock) (hB : B ≤ w.heap.size) : Below B w w' := own_grown h.own hb hg hB

/-- At a step of a region that draws its order. -/
theorem step_append_prow {ops : Array Oper} {o : Oper} {a : Act} {w : World} {K : Act → World → Prop} {Q : Exit → Act → World → Prop} {E : Prop} (hgd : o.guard = none) (s x : Operand) (t : TypeId)
    (ho : o.op = .call { callee := .builtin .append, args := #[s, x], argTypes := #[t, t] }) (ht : Try.prog.underlying t = some (.slice 54))
    (B : Nat) (v : Value) (us : List Value) (fss : List (List Tm)) (hs : a.eval s = v) (h : PRow B w v us fss) (ad : Addr) (c : Nat) (u : Value) (f : List Tm) (hu : Pl w u f) (hx : a.eval x = .slice (some ad) 1 c)
    (hnew : ∀ j y, [u][j]? = some y → w.cell? (ad.add j) = some y) (hn : fss.length ≤ 4000000) (hB : B ≤ w.heap.size)
    (hK : ∀ v' w', PRow B w' v' (us ++ [u]) (fss ++ [f]) → w.grownBy w' v.ownBlock → K (a.put o.dst v') w') :
    if Region.wanted o (yielded ops a.tmps) = true then Oper.wp Try.prog o a w K Q else E := by
  have hw : Region.wanted o (yielded ops a.tmps) = true := by simp [Region.wanted, hgd]
  rw [if_pos hw]
  obtain ⟨i0, hi, hz0, hz1, hz2⟩ := info_parts Try.infoPolyW
  obtain ⟨v', w', hr, h2, h3, h4⟩ := run_append_slk (P := Try.prog) w B t o.type 54 i0 ht hi hz0 hz1 hz2 v fss.length us h.own h.kind ad c u (by obtain ⟨a, c, e, _⟩ := hu; exact ⟨_, _, _, e⟩) hnew hn hB
  unfold Oper.wp execOp
  simp only [ho, resolve, invoke, builtin, Sem.run_bind, Sem.run_pure, Result.andThen_ok, List.map_toArray, List.map_cons, List.map_nil, hs, hx, hr]
  exact hK v' w' (h.snoc hu h2 h3 h4) h3

end Go.Proofs.Ytkmjmmnnnbjghaa

/- VSum, VTimes of the reference. -/
namespace Go.Proofs.Ytkmjmmnnnbjghaa
set_option linter.unusedSimpArgs false
set_option linter.unusedVariables false
open Go.RowKit

theorem vl_at {w : World} {a : Option Addr} {c : Nat} {fss : List (List Tm)} (h : Vl w (.slice a fss.length c) fss) (k : Nat) (hk : k < fss.length) : ∃ b off fa fc, a = some ⟨b, off, none⟩ ∧ b < w.heap.size ∧ w.cell? ⟨b, off + k, none⟩ = some (.slice fa (fss.getD k []).length fc) ∧ Pl w (.slice fa (fss.getD k []).length fc) (fss.getD k []) := by
  obtain ⟨a2, c2, e, h1⟩ := h
  obtain ⟨b, off, rfl, hlt, hat⟩ := h1 (by omega)
  simp only [Value.slice.injEq, true_and] at e
  obtain ⟨rfl, rfl⟩ := e
  obtain ⟨v, hc, hp⟩ := hat k hk
  have hp2 := hp
  obtain ⟨fa, fc, rfl, _, _⟩ := hp
  exact ⟨b, off, fa, fc, rfl, hlt, hc, hp2⟩
theorem len_snoc {α : Type} (l : List α) (x : α) : (l ++ [x]).length = l.length + 1 := by simp
theorem take_snocL {α : Type} (l : List (List α)) (k : Nat) (h : k < l.length) : l.take (k + 1) = l.take k ++ [l.getD k []] := by
  rw [List.take_succ_eq_append_getElem h]; simp [List.getD_eq_getElem?_getD, h]
theorem getD_mapL {α : Type} (F : List α → List α) (l : List (List α)) (k : Nat) (h : k < l.length) : (l.map F).getD k [] = F (l.getD k []) := by
  simp [List.getD_eq_getElem?_getD, h]
def sums (p o : Int) (fss gss : List (List Tm)) : List (List Tm) := List.zipWith (fun f g => colL p o (f ++ g)) fss gss
theorem sums_len {p o : Int} {fss gss : List (List Tm)} (h : fss.length = gss.length) : (sums p o fss gss).length = fss.length := by
  unfold sums; rw [List.length_zipWith]; omega
theorem sums_at {p o : Int} {fss gss : List (List Tm)} {k : Nat} (h : fss.length = gss.length) (hk : k < fss.length) : (sums p o fss gss).getD k [] = colL p o (fss.getD k [] ++ gss.getD k []) := by
  unfold sums
  simp [List.getD_eq_getElem?_getD, List.getElem?_zipWith, hk, show k < gss.length by omega]
def prods (p o : Int) (f : List Tm) (gss : List (List Tm)) : List (List Tm) := gss.map fun g => colL p o (prodL p f g)
theorem one_newP (w : World) (x : Value) (T : TypeId) : ∀ j u, [x][j]? = some u → (w.alloc (.cells #[x] T)).cell? ((⟨w.heap.size, 0, none⟩ : Addr).add j) = some u := by
  intro j u hj
  rcases j with _ | j
  · simp at hj; subst hj; simp [Addr.add, go_sem]
  · simp at hj
/-- A list of terms that may be summed up. -/
def Sm (p : Int) (N : Nat) (f : List Tm) : Prop := (∀ t ∈ f, Tok p N t) ∧ f.length ≤ 2000000

set_option maxRecDepth 100000 in
set_option maxHeartbeats 2000000 in
theorem vsum_any (p n o v : Int) (N : Nat) (x y : Value) (fss gss : List (List Tm)) (w : World) (hp : 2 ≤ p ∧ p ≤ 101) (ho : o = 1 ∨ o = 2) (hN0 : 0 < N) (hN : N ≤ 3) (hl : fss.length = gss.length) (hm : fss.length ≤ 1000) (hf : ∀ f ∈ fss, Sm p N f) (hg : ∀ g ∈ gss, Sm p N g) (pf : Vl w x fss) (pg : Vl w y gss) :
    Calls Try.prog 42 #[ringV p n o v, x, y] w fun e w' => ∃ u, e = .returned u ∧ Vl w' u (sums p o fss gss) ∧ Below w.heap.size w w' := by
  have HX := hid pf
  have HY := hid pg
  have HF := hid hf
  have HG := hid hg
  have HP := hid hp
  have HO := hid ho
  have HL := hid hl
  obtain ⟨ax, cx, rfl, _⟩ := pf
  obtain ⟨ay, cy, rfl, _⟩ := pg
  clear hf hg hp ho hl
  obtain ⟨w1, hw1⟩ : ∃ w1, w1 = w.alloc (.cells #[.int .i64 p, .int .i64 n, .int .i64 o, .int .i64 v] 39) := ⟨_, rfl⟩
  have hbx : BoxAt w1 w.heap.size p n o v := by rw [hw1]; exact BoxAt.new w p n o v _
  have hbw : Below w.heap.size w w1 := by rw [hw1]; exact below_oneG
  have HBX := hid hbx
  have HBW := hid hbw
  clear hbx hbw
  go_enter Try.func42, Try.ntmps42
  go_wp2_with fail
  rw [← hw1]
  clear hw1
  go_loopw [7, 8] (fun z i wr => ∃ (k : Nat) (us : List Value), k ≤ fss.length ∧ i = .int .i64 k ∧ PRow w1.heap.size wr z us ((sums p o fss gss).take k) ∧ Below w1.heap.size w1 wr) (fun _ i _ => fss.length - (intOf i).toNat)
  case atStart => exact ⟨0, [], Nat.zero_le _, rfl, PRow.nil _ _, Below.refl _ _⟩
  case round =>
    obtain ⟨k, us, hk, rfl, hrow, hbr⟩ := hrel
    have HROW := hid hrow
    have HBR := hid hbr
    obtain ⟨ys, hys⟩ : ∃ ys, (sums p o fss gss).take k = ys := ⟨_, rfl⟩
    have HTL : Hid (ys.length = k) := by show _ = _; rw [← hys, List.length_take, sums_len HL.out]; omega
    rw [hys] at hrow HROW
    have HYS := hid hys
    clear hys
    obtain ⟨za, zc, hz⟩ := own_sl hrow.own
    subst hz
    clear hrow hbr
    by_cases hk2 : k < fss.length
    · have hk3 : k < gss.length := by have := HL.out; omega
      obtain ⟨b, off, fa, fc, rfl, hlt, c0, hpf⟩ := vl_at HX.out k hk2
      obtain ⟨b2, off2, ga, gc, rfl, hlt2, d0, hpg⟩ := vl_at HY.out k hk3
      have hkI : (k : Int) < (gss.length : Int) := by omega
      have HDN := hid (HBW.out.trans (HBR.out.mono HBW.out.size))
      have HTS : Hid ((sums p o fss gss).take (k + 1) = ys ++ [colL p o (fss.getD k [] ++ gss.getD k [])]) := by
        show _ = _
        rw [← HYS.out, take_snocL _ _ (by rw [sums_len HL.out]; exact hk2), sums_at HL.out hk2]
      have HFG := hid (And.intro (HF.out _ (getD_memL fss k hk2)) (HG.out _ (getD_memL gss k hk3)))
      generalize fss.getD k [] = f at c0 hpf HTS HFG
      generalize gss.getD k [] = g at d0 hpg HTS HFG
      have HPF := hid (hpf.below HBW.out)
      have HPG := hid (hpg.below HBW.out)
      clear hpf hpg
      obtain ⟨_, bx0, bx1, bx2, bx3⟩ := HBX.out
      have KEEP : Hid (∀ W, Below w1.heap.size w1 W → (Hid (Below w1.heap.size w1 W) ∧ W.cell? ⟨w.heap.size, 0, none⟩ = some (.int .i64 p) ∧ W.cell? ⟨w.heap.size, 1, none⟩ = some (.int .i64 n) ∧ W.cell? ⟨w.heap.size, 2, none⟩ = some (.int .i64 o) ∧ W.cell? ⟨w.heap.size, 3, none⟩ = some (.int .i64 v) ∧ W.cell? ⟨b, off + k, none⟩ = some (.slice fa f.length fc) ∧ W.cell? ⟨b2, off2 + k, none⟩ = some (.slice ga g.length gc))) :=
        fun W hb => ⟨hb, cell_keep bx0 hb, cell_keep bx1 hb, cell_keep bx2 hb, cell_keep bx3 hb, cell_keep (cell_keep c0 HBW.out) hb, cell_keep (cell_keep d0 HBW.out) hb⟩
      have HB0 : Hid (Below w1.heap.size w1 wr.drew) := HBR.out.drew
      clear bx0 bx1 bx2 bx3 c0 d0
      go_wp2
      go_region_held_law (fun W => Hid (Below w1.heap.size w1 W) ∧ W.cell? ⟨w.heap.size, 0, none⟩ = some (.int .i64 p) ∧ W.cell? ⟨w.heap.size, 1, none⟩ = some (.int .i64 n) ∧ W.cell? ⟨w.heap.size, 2, none⟩ = some (.int .i64 o) ∧ W.cell? ⟨w.heap.size, 3, none⟩ = some (.int .i64 v) ∧ W.cell? ⟨b, off + k, none⟩ = some (.slice fa f.length fc) ∧ W.cell? ⟨b2, off2 + k, none⟩ = some (.slice ga g.length gc))
        (first | exact KEEP.out _ HB0.out | exact KEEP.out _ HB7.out | exact KEEP.out _ (HB6.out.trans (belowNew.mono HB6.out.size)) | exact KEEP.out _ HB6.out)
        (first
          | (refine step_append_prow rfl (.tmp 15) (.tmp 26) 56 rfl Try.underlying56 w1.heap.size (.slice za ys.length zc) us ys (by simp [Act.eval, Act.put]) (PR6.out.next belowNew) ⟨w6.heap.size, 0, none⟩ 1 (.slice ua6 (colL p o (f ++ g)).length uc6) (colL p o (f ++ g)) (HU6.out.below belowNew) (by simp [Act.eval, Act.put]) (one_newP _ _ _) (by rw [HTL.out]; omega) (Nat.le_trans HB6.out.size (by simp)) ?_; intro v7 w7 r1 r2; have HB7 := hid (show Below w1.heap.size w1 w7 from (PR6.out.next belowNew).grown (HB6.out.trans (belowNew.mono HB6.out.size)) r2 (Nat.le_refl _)); obtain ⟨va7, vc7, hv7⟩ := own_sl r1.own; rw [len_snoc] at hv7; subst hv7; have HR7 := hid r1; clear r1 r2)
          | (go_at_call 83; refine (refSum_any p n o v N _ _ f g _ HP.out HO.out hN0 hN HFG.out.1.1 HFG.out.2.1 ?_ ?_ ?_).mono ?_; (have h1 := HFG.out.1.2; have h2 := HFG.out.2.2; omega); exact HPF.out.below HB0.out; exact HPG.out.below HB0.out; rintro e w6 ⟨u6, rfl, hu6, hb6⟩; have PR6 := hid (HROW.out.next (((Below.refl wr.heap.size wr).drew).trans hb6)); have HB6 := hid (show Below w1.heap.size w1 w6 from HB0.out.trans (hb6.mono HB0.out.size)); have HU6 := hid hu6; obtain ⟨ua6, uc6, rfl, _, _⟩ := hu6; clear hb6))
      all_goals
        go_wp2
        first
          | exact ⟨⟨k + 1, us ++ [_], by omega, by go_num, by rw [HTS.out]; exact HR7.out, HB7.out⟩, by simp [intOf]; omega⟩
          | (go_roundw
             case rel => exact ⟨k + 1, us ++ [_], by omega, by go_num, by rw [HTS.out]; exact HR7.out, HB7.out⟩
             case measure => simp [intOf]; omega)
    · have e : k = fss.length := by omega
      subst e
      have HE : Hid (sums p o fss gss = ys) := by show _ = _; rw [← HYS.out, List.take_of_length_le (by rw [sums_len HL.out]; exact Nat.le_refl _)]
      have HV := hid HROW.out.vl
      go_wp2
      go_ret
      exact ⟨_, rfl, by rw [HE.out]; exact HV.out, HBW.out.trans (HBR.out.mono HBW.out.size)⟩

set_option maxRecDepth 100000 in
set_option maxHeartbeats 2000000 in
theorem vtimes_any (p n o v : Int) (N : Nat) (x y : Value) (f : List Tm) (gss : List (List Tm)) (w : World) (hp : 2 ≤ p ∧ p ≤ 101) (ho : o = 1 ∨ o = 2) (hN0 : 0 < N) (hN : N ≤ 3) (hm : gss.length ≤ 1000) (hf : Right p o N f) (hg : ∀ g ∈ gss, Right p o N g) (pf : Pl w x f) (pg : Vl w y gss) :
    Calls Try.prog 43 #[ringV p n o v, x, y] w fun e w' => ∃ u, e = .returned u ∧ Vl w' u (prods p o f gss) ∧ Below w.heap.size w w' := by
  have HX := hid pf
  have HY := hid pg
  have HF := hid hf
  have HG := hid hg
  have HP := hid hp
  have HO := hid ho
  obtain ⟨ax, cx, rfl, _, _⟩ := pf
  obtain ⟨ay, cy, rfl, _⟩ := pg
  unfold prods
  clear hf hg hp ho
  obtain ⟨w1, hw1⟩ : ∃ w1, w1 = w.alloc (.cells #[.int .i64 p, .int .i64 n, .int .i64 o, .int .i64 v] 39) := ⟨_, rfl⟩
  have hbx : BoxAt w1 w.heap.size p n o v := by rw [hw1]; exact BoxAt.new w p n o v _
  have hbw : Below w.heap.size w w1 := by rw [hw1]; exact below_oneG
  have HBX := hid hbx
  have HBW := hid hbw
  clear hbx hbw
  go_enter Try.func43, Try.ntmps43
  go_wp2_with fail
  rw [← hw1]
  clear hw1
  go_loopw [7, 8] (fun z i wr => ∃ (k : Nat) (us : List Value), k ≤ gss.length ∧ i = .int .i64 k ∧ PRow w1.heap.size wr z us (((gss.map fun g => colL p o (prodL p f g))).take k) ∧ Below w1.heap.size w1 wr) (fun _ i _ => gss.length - (intOf i).toNat)
  case atStart => exact ⟨0, [], Nat.zero_le _, rfl, PRow.nil _ _, Below.refl _ _⟩
  case round =>
    obtain ⟨k, us, hk, rfl, hrow, hbr⟩ := hrel
    have HROW := hid hrow
    have HBR := hid hbr
    obtain ⟨ys, hys⟩ : ∃ ys, ((gss.map fun g => colL p o (prodL p f g))).take k = ys := ⟨_, rfl⟩
    have HTL : Hid (ys.length = k) := by show _ = _; rw [← hys, List.length_take, List.length_map]; omega
    rw [hys] at hrow HROW
    have HYS := hid hys
    clear hys
    obtain ⟨za, zc, hz⟩ := own_sl hrow.own
    subst hz
    clear hrow hbr
    by_cases hk2 : k < gss.length
    · obtain ⟨b2, off2, ga, gc, rfl, hlt2, d0, hpg⟩ := vl_at HY.out k hk2
      have HDN := hid (HBW.out.trans (HBR.out.mono HBW.out.size))
      have HTS : Hid (((gss.map fun g => colL p o (prodL p f g))).take (k + 1) = ys ++ [colL p o (prodL p f (gss.getD k []))]) := by
        show _ = _
        rw [← HYS.out, take_snocL _ _ (by rw [List.length_map]; exact hk2), getD_mapL (fun g => colL p o (prodL p f g)) _ _ hk2]
      have HGK := hid (HG.out _ (getD_memL gss k hk2))
      generalize gss.getD k [] = g at d0 hpg HTS HGK
      have HPG := hid (hpg.below HBW.out)
      clear hpg
      obtain ⟨_, bx0, bx1, bx2, bx3⟩ := HBX.out
      have KEEP : Hid (∀ W, Below w1.heap.size w1 W → (Hid (Below w1.heap.size w1 W) ∧ W.cell? ⟨w.heap.size, 0, none⟩ = some (.int .i64 p) ∧ W.cell? ⟨w.heap.size, 1, none⟩ = some (.int .i64 n) ∧ W.cell? ⟨w.heap.size, 2, none⟩ = some (.int .i64 o) ∧ W.cell? ⟨w.heap.size, 3, none⟩ = some (.int .i64 v) ∧ W.cell? ⟨b2, off2 + k, none⟩ = some (.slice ga g.length gc))) :=
        fun W hb => ⟨hb, cell_keep bx0 hb, cell_keep bx1 hb, cell_keep bx2 hb, cell_keep bx3 hb, cell_keep (cell_keep d0 HBW.out) hb⟩
      have HB0 : Hid (Below w1.heap.size w1 wr.drew) := HBR.out.drew
      clear bx0 bx1 bx2 bx3 d0
      go_wp2
      go_region_held_law (fun W => Hid (Below w1.heap.size w1 W) ∧ W.cell? ⟨w.heap.size, 0, none⟩ = some (.int .i64 p) ∧ W.cell? ⟨w.heap.size, 1, none⟩ = some (.int .i64 n) ∧ W.cell? ⟨w.heap.size, 2, none⟩ = some (.int .i64 o) ∧ W.cell? ⟨w.heap.size, 3, none⟩ = some (.int .i64 v) ∧ W.cell? ⟨b2, off2 + k, none⟩ = some (.slice ga g.length gc))
        (first | exact KEEP.out _ HB0.out | exact KEEP.out _ HB7.out | exact KEEP.out _ (HB6.out.trans (belowNew.mono HB6.out.size)) | exact KEEP.out _ HB6.out)
        (first
          | (refine step_append_prow rfl (.tmp 15) (.tmp 23) 56 rfl Try.underlying56 w1.heap.size (.slice za ys.length zc) us ys (by simp [Act.eval, Act.put]) (PR6.out.next belowNew) ⟨w6.heap.size, 0, none⟩ 1 (.slice ua6 (colL p o (prodL p f g)).length uc6) (colL p o (prodL p f g)) (HU6.out.below belowNew) (by simp [Act.eval, Act.put]) (one_newP _ _ _) (by rw [HTL.out]; omega) (Nat.le_trans HB6.out.size (by simp)) ?_; intro v7 w7 r1 r2; have HB7 := hid (show Below w1.heap.size w1 w7 from (PR6.out.next belowNew).grown (HB6.out.trans (belowNew.mono HB6.out.size)) r2 (Nat.le_refl _)); obtain ⟨va7, vc7, hv7⟩ := own_sl r1.own; rw [len_snoc] at hv7; subst hv7; have HR7 := hid r1; clear r1 r2)
          | (go_at_call 84; refine (refProduct_any p n o v N _ _ f g _ HP.out HO.out hN0 hN HF.out.canon.len HGK.out.canon.len ?_ ?_ HF.out.bd HGK.out.bd HF.out.len HGK.out.len ?_ ?_).mono ?_; exact (fun t ht => ⟨by have := HF.out.canon.coef t ht; omega, (HF.out.canon.coef t ht).2⟩); exact (fun t ht => ⟨by have := HGK.out.canon.coef t ht; omega, (HGK.out.canon.coef t ht).2⟩); exact (HX.out.below HBW.out).below HB0.out; exact HPG.out.below HB0.out; rintro e w6 ⟨u6, rfl, hu6, hb6⟩; have PR6 := hid (HROW.out.next (((Below.refl wr.heap.size wr).drew).trans hb6)); have HB6 := hid (show Below w1.heap.size w1 w6 from HB0.out.trans (hb6.mono HB0.out.size)); have HU6 := hid hu6; obtain ⟨ua6, uc6, rfl, _, _⟩ := hu6; clear hb6))
      all_goals
        go_wp2
        first
          | exact ⟨⟨k + 1, us ++ [_], by omega, by go_num, by rw [HTS.out]; exact HR7.out, HB7.out⟩, by simp [intOf]; omega⟩
          | (go_roundw
             case rel => exact ⟨k + 1, us ++ [_], by omega, by go_num, by rw [HTS.out]; exact HR7.out, HB7.out⟩
             case measure => simp [intOf]; omega)
    · have e : k = gss.length := by omega
      subst e
      have HE : Hid ((gss.map fun g => colL p o (prodL p f g)) = ys) := by show _ = _; rw [← HYS.out, List.take_of_length_le (by rw [List.length_map]; exact Nat.le_refl _)]
      have HV := hid HROW.out.vl
      go_wp2
      go_ret
      exact ⟨_, rfl, by rw [HE.out]; exact HV.out, HBW.out.trans (HBR.out.mono HBW.out.size)⟩

end Go.Proofs.Ytkmjmmnnnbjghaa

/- Polynomials of which nothing lies in one block; Sum of the reference. -/
namespace Go.Proofs.Ytkmjmmnnnbjghaa
set_option linter.unusedSimpArgs false
set_option linter.unusedVariables false
open Go.RowKit

/-- A polynomial of which nothing lies in the block g. -/
def PlX (g : Nat) (w : World) (v : Value) (ts : List Tm) : Prop :=
  ∃ (a : Option Addr) (cap : Nat) (us : List TV), v = .slice a us.length cap ∧ us.length ≤ cap ∧ us.map tm = ts ∧ Es w us ∧ (∀ t ∈ us, ApartO (some g) t.2.1) ∧
    (0 < us.length → ∃ b off, a = some ⟨b, off, none⟩ ∧ b < w.heap.size ∧ b ≠ g ∧ ∀ j u, (flat us)[j]? = some u → w.cell? ⟨b, off + j, none⟩ = some u)
theorem PlX.pl {g : Nat} {w : World} {v : Value} {ts : List Tm} (h : PlX g w v ts) : Pl w v ts := by
  obtain ⟨a, cap, us, rfl, hc, rfl, he, _, h1⟩ := h
  refine ⟨a, cap, by rw [List.length_map], by rw [List.length_map]; exact hc, fun hp => ?_⟩
  rw [List.length_map] at hp
  obtain ⟨b, off, rfl, hlt, _, hcs⟩ := h1 hp
  refine ⟨b, off, rfl, hlt, fun i hi => ?_⟩
  rw [List.length_map] at hi
  rw [tm_at us i hi]
  have h2 := flat_at us i hi
  exact ⟨hcs _ _ h2.1, _, hcs _ _ h2.2, he _ (tv_mem us i hi)⟩
theorem PlX.below {g : Nat} {w w' : World} {v : Value} {ts : List Tm} (h : PlX g w v ts) (hb : Below w.heap.size w w') : PlX g w' v ts := by
  obtain ⟨a, cap, us, rfl, hc, hm, he, ha, h1⟩ := h
  refine ⟨a, cap, us, rfl, hc, hm, he.below hb, ha, fun hp => ?_⟩
  obtain ⟨b, off, rfl, hlt, hne, hcs⟩ := h1 hp
  exact ⟨b, off, rfl, Nat.lt_of_lt_of_le hlt hb.size, hne, fun j u hj => cell_keep (hcs j u hj) hb⟩
theorem own_plx {g : Nat} {w : World} {B : Nat} {v : Value} {ts : List TV} (h : w.ownsRow B 61 2 v ts.length (flat ts)) (he : Es w ts) (ha : ∀ t ∈ ts, ApartO (some g) t.2.1) (hg : g < B) : PlX g w v (ts.map tm) := by
  rcases h.2 with ⟨h1, h2⟩ | ⟨b, cap, cur, rfl, hb, hh, hn, hm, hcs, ht⟩
  · exact ⟨none, 0, ts, by rw [h1, h2], by omega, rfl, he, ha, fun hp => by omega⟩
  · have hlt := World.ownsRow.lt h b rfl
    refine ⟨_, cap, ts, rfl, hn, rfl, he, ha, fun hp => ⟨b, 0, rfl, hlt.2, by omega, fun j u hj => ?_⟩⟩
    have hjl : j < ts.length * 2 := by
      rw [← flat_len]
      apply Nat.lt_of_not_le; intro hle; rw [List.getElem?_eq_none hle] at hj; simp at hj
    rw [Nat.zero_add, h.cellAt j hjl]; exact hj
theorem plx_of {g : Nat} {w : World} {v : Value} {ts : List Tm} (h : Pl w v ts) (hn : ∀ t ∈ ts, 0 < t.2.length) (hg : w.heap.size ≤ g) : PlX g w v ts := by
  obtain ⟨a, cap, us, rfl, hc, rfl, he, h1⟩ := h.tvs
  refine ⟨a, cap, us, rfl, hc, rfl, he, fun t ht => ?_, fun hp => ?_⟩
  · obtain ⟨a2, c2, e, h2⟩ := he t ht
    obtain ⟨b, off, rfl, hlt, _⟩ := h2 (hn (tm t) (List.mem_map_of_mem ht))
    intro b2 off2 n c e2 e3
    rw [e] at e2
    simp only [Value.slice.injEq, Option.some.injEq, Addr.mk.injEq] at e2 e3
    omega
  · obtain ⟨b, off, rfl, hlt, hcs⟩ := h1 hp
    exact ⟨b, off, rfl, hlt, by omega, hcs⟩
theorem plx_keep {g g2 : Nat} {w w' : World} (hk : SlK w g2) (hg : w.grownBy w' (some g2)) {v : Value} {ts : List Tm} (h : PlX g w v ts) : PlX g w' v ts := by
  obtain ⟨a, cap, us, rfl, hc, hm, he, ha, h1⟩ := h
  refine ⟨a, cap, us, rfl, hc, hm, fun t ht => sl_keep hk hg (he t ht), ha, fun hp => ?_⟩
  obtain ⟨b, off, rfl, hlt, hne, hcs⟩ := h1 hp
  have hne2 : b ≠ g2 := by
    intro e
    subst e
    obtain ⟨_, _, _, hx⟩ := hk _ _ (hcs _ _ (flat_at us 0 hp).1)
    cases hx
  exact ⟨b, off, rfl, Nat.lt_of_lt_of_le hlt hg.size, hne, fun j u hj => by rw [cell_far hg hlt hne2]; exact hcs j u hj⟩
theorem PlX.grown {g : Nat} {w w' : World} {v : Value} {ts : List Tm} (h : PlX g w v ts) (hg : w.grownBy w' (some g)) : PlX g w' v ts := by
  obtain ⟨a, cap, us, rfl, hc, hm, he, ha, h1⟩ := h
  refine ⟨a, cap, us, rfl, hc, hm, fun t ht => grown_slO hg (he t ht) (ha t ht), ha, fun hp => ?_⟩
  obtain ⟨b, off, rfl, hlt, hne, hcs⟩ := h1 hp
  exact ⟨b, off, rfl, Nat.lt_of_lt_of_le hlt hg.size, hne, fun j u hj => by rw [cell_far hg hlt hne]; exact hcs j u hj⟩

/-- A vector of which nothing lies in the block g. -/
def VlX (g : Nat) (w : World) (v : Value) (fss : List (List Tm)) : Prop :=
  ∃ a cap, v = .slice a fss.length cap ∧ (0 < fss.length → ∃ b off, a = some ⟨b, off, none⟩ ∧ b < w.heap.size ∧ b ≠ g ∧ ∀ i, i < fss.length → ∃ u, w.cell? ⟨b, off + i, none⟩ = some u ∧ PlX g w u (fss.getD i []))
theorem VlX.vl {g : Nat} {w : World} {v : Value} {fss : List (List Tm)} (h : VlX g w v fss) : Vl w v fss := by
  obtain ⟨a, cap, rfl, h1⟩ := h
  refine ⟨a, cap, rfl, fun hp => ?_⟩
  obtain ⟨b, off, rfl, hlt, _, hc⟩ := h1 hp
  refine ⟨b, off, rfl, hlt, fun i hi => ?_⟩
  obtain ⟨u, h2, h3⟩ := hc i hi
  exact ⟨u, h2, h3.pl⟩
theorem VlX.below {g : Nat} {w w' : World} {v : Value} {fss : List (List Tm)} (h : VlX g w v fss) (hb : Below w.heap.size w w') : VlX g w' v fss := by
  obtain ⟨a, cap, rfl, h1⟩ := h
  refine ⟨a, cap, rfl, fun hp => ?_⟩
  obtain ⟨b, off, rfl, hlt, hne, hc⟩ := h1 hp
  refine ⟨b, off, rfl, Nat.lt_of_lt_of_le hlt hb.size, hne, fun i hi => ?_⟩
  obtain ⟨u, h2, h3⟩ := hc i hi
  exact ⟨u, cell_keep h2 hb, h3.below hb⟩
theorem VlX.grown {g : Nat} {w w' : World} {v : Value} {fss : List (List Tm)} (h : VlX g w v fss) (hg : w.grownBy w' (some g)) : VlX g w' v fss := by
  obtain ⟨a, cap, rfl, h1⟩ := h
  refine ⟨a, cap, rfl, fun hp => ?_⟩
  obtain ⟨b, off, rfl, hlt, hne, hc⟩ := h1 hp
  refine ⟨b, off, rfl, Nat.lt_of_lt_of_le hlt hg.size, hne, fun i hi => ?_⟩
  obtain ⟨u, h2, h3⟩ := hc i hi
  exact ⟨u, by rw [cell_far hg hlt hne]; exact h2, h3.grown hg⟩
theorem vlx_of {g : Nat} {w : World} {v : Value} {fss : List (List Tm)} (h : Vl w v fss) (hn : ∀ f ∈ fss, ∀ t ∈ f, 0 < t.2.length) (hg : w.heap.size ≤ g) : VlX g w v fss := by
  obtain ⟨a, cap, rfl, h1⟩ := h
  refine ⟨a, cap, rfl, fun hp => ?_⟩
  obtain ⟨b, off, rfl, hlt, hc⟩ := h1 hp
  refine ⟨b, off, rfl, hlt, by omega, fun i hi => ?_⟩
  obtain ⟨u, h2, h3⟩ := hc i hi
  exact ⟨u, h2, plx_of h3 (hn _ (getD_memL fss i hi)) hg⟩
theorem VlX.nil (g : Nat) (w : World) : VlX g w (.slice none 0 0) [] := ⟨none, 0, rfl, fun h => absurd h (by simp)⟩
theorem vlx_at {g : Nat} {w : World} {a : Option Addr} {c : Nat} {fss : List (List Tm)} (h : VlX g w (.slice a fss.length c) fss) (k : Nat) (hk : k < fss.length) : ∃ b off fa fc, a = some ⟨b, off, none⟩ ∧ b < w.heap.size ∧ w.cell? ⟨b, off + k, none⟩ = some (.slice fa (fss.getD k []).length fc) ∧ PlX g w (.slice fa (fss.getD k []).length fc) (fss.getD k []) := by
  obtain ⟨a2, c2, e, h1⟩ := h
  obtain ⟨b, off, rfl, hlt, _, hat⟩ := h1 (by omega)
  simp only [Value.slice.injEq, true_and] at e
  obtain ⟨rfl, rfl⟩ := e
  obtain ⟨v, hc, hp⟩ := hat k hk
  have hp2 := hp
  obtain ⟨fa, fc, rfl, _, _⟩ := hp.pl
  exact ⟨b, off, fa, fc, rfl, hlt, hc, hp2⟩

/-- A row of one's own of such polynomials. -/
structure PRowX (g B : Nat) (w : World) (v : Value) (us : List Value) (fss : List (List Tm)) : Prop where
  row : PRow B w v us fss
  pls : ∀ i, i < fss.length → PlX g w (us.getD i nilV) (fss.getD i [])
theorem PRowX.own {g B : Nat} {w : World} {v : Value} {us : List Value} {fss : List (List Tm)} (h : PRowX g B w v us fss) : w.ownsRow B 54 1 v fss.length us := h.row.own
theorem PRowX.next {g B : Nat} {w w' : World} {v : Value} {us : List Value} {fss : List (List Tm)} (h : PRowX g B w v us fss) (hb : Below w.heap.size w w') : PRowX g B w' v us fss :=
  ⟨h.row.next hb, fun i hi => (h.pls i hi).below hb⟩
theorem PRowX.nil (g B : Nat) (w : World) : PRowX g B w (.slice none 0 0) [] [] := ⟨PRow.nil _ _, fun i hi => by simp at hi⟩
theorem PRowX.vlx {g B : Nat} {w : World} {v : Value} {us : List Value} {fss : List (List Tm)} (h : PRowX g B w v us fss) (hg : g < B) : VlX g w v fss := by
  obtain ⟨a, c, rfl⟩ := own_sl h.row.own
  refine ⟨a, c, rfl, fun hp => ?_⟩
  obtain ⟨b, rfl, hB, hlt, _⟩ := own_at1 h.row.own 0 hp
  refine ⟨b, 0, rfl, hlt, by omega, fun i hi => ?_⟩
  obtain ⟨b2, hb2, _, _, hc⟩ := own_at1 h.row.own i hi
  simp only [Option.some.injEq, Addr.mk.injEq, and_true] at hb2
  subst hb2
  refine ⟨us.getD i nilV, ?_, h.pls i hi⟩
  rw [Nat.zero_add, hc]
  have : i < us.length := by rw [h.row.len]; exact hi
  simp [List.getD_eq_getElem?_getD, this]
theorem PRowX.snoc {g B : Nat} {W W2 : World} {v v2 : Value} {us : List Value} {fss : List (List Tm)} {u : Value} {f : List Tm} (h : PRowX g B W v us fss) (hu : PlX g W u f)
    (h2 : W2.ownsRow B 54 1 v2 (fss.length + 1) (us ++ [u])) (g2 : W.grownBy W2 v.ownBlock) (k2 : ∀ g, v2.ownBlock = some g → SlK W2 g) : PRowX g B W2 v2 (us ++ [u]) (fss ++ [f]) := by
  have keep : ∀ {x : Value} {ts : List Tm}, PlX g W x ts → PlX g W2 x ts := by
    intro x ts hx
    cases ho : v.ownBlock with
    | none =>
      rw [ho] at g2
      exact hx.below ⟨g2.os, g2.tape, g2.output, g2.size, fun k hk => g2.block k hk (by simp)⟩
    | some g =>
      rw [ho] at g2
      exact plx_keep (h.row.kind g ho) g2 hx
  refine ⟨h.row.snoc hu.pl h2 g2 k2, fun i hi => ?_⟩
  rw [List.length_append] at hi
  simp only [List.length_cons, List.length_nil] at hi
  rcases Nat.lt_or_ge i fss.length with hl | hl
  · have e1 : (us ++ [u]).getD i nilV = us.getD i nilV := by simp [List.getD_eq_getElem?_getD, List.getElem?_append_left (show i < us.length by rw [h.row.len]; exact hl)]
    have e2 : (fss ++ [f]).getD i [] = fss.getD i [] := by simp [List.getD_eq_getElem?_getD, List.getElem?_append_left hl]
    rw [e1, e2]
    exact keep (h.pls i hl)
  · have e : i = fss.length := by omega
    subst e
    have e1 : (us ++ [u]).getD fss.length nilV = u := by rw [← h.row.len]; simp [List.getD_eq_getElem?_getD]
    have e2 : (fss ++ [f]).getD fss.length [] = f := by simp [List.getD_eq_getElem?_getD]
    rw [e1, e2]
    exact keep hu
theorem PRowX.grown {g B : Nat} {w W w' : World} {v : Value} {us : List Value} {fss : List (List Tm)} (h : PRowX g B W v us fss) (hb : Below B w W) (hg : W.grownBy w' v.ownBlock) (hB : B ≤ w.heap.size) : Below B w w' := own_grown h.row.own hb hg hB
theorem step_append_prowX {g0 : Nat} {ops : Array Oper} {o : Oper} {a : Act} {w : World} {K : Act → World → Prop} {Q : Exit → Act → World → Prop} {E : Prop} (hgd : o.guard = none) (s x : Operand) (t : TypeId)
    (ho : o.op = .call { callee := .builtin .append, args := #[s, x], argTypes := #[t, t] }) (ht : Try.prog.underlying t = some (.slice 54))
    (B : Nat) (v : Value) (us : List Value) (fss : List (List Tm)) (hs : a.eval s = v) (h : PRowX g0 B w v us fss) (ad : Addr) (c : Nat) (u : Value) (f : List Tm) (hu : PlX g0 w u f) (hx : a.eval x = .slice (some ad) 1 c)
    (hnew : ∀ j y, [u][j]? = some y → w.cell? (ad.add j) = some y) (hn : fss.length ≤ 4000000) (hB : B ≤ w.heap.size)
    (hK : ∀ v' w', PRowX g0 B w' v' (us ++ [u]) (fss ++ [f]) → w.grownBy w' v.ownBlock → K (a.put o.dst v') w') :
    if Region.wanted o (yielded ops a.tmps) = true then Oper.wp Try.prog o a w K Q else E := by
  have hw : Region.wanted o (yielded ops a.tmps) = true := by simp [Region.wanted, hgd]
  rw [if_pos hw]
  obtain ⟨i0, hi, hz0, hz1, hz2⟩ := info_parts Try.infoPolyW
  obtain ⟨v', w', hr, h2, h3, h4⟩ := run_append_slk (P := Try.prog) w B t o.type 54 i0 ht hi hz0 hz1 hz2 v fss.length us h.row.own h.row.kind ad c u (by obtain ⟨a, c, e, _⟩ := hu.pl; exact ⟨_, _, _, e⟩) hnew hn hB
  unfold Oper.wp execOp
  simp only [ho, resolve, invoke, builtin, Sem.run_bind, Sem.run_pure, Result.andThen_ok, List.map_toArray, List.map_cons, List.map_nil, hs, hx, hr]
  exact hK v' w' (h.snoc hu h2 h3 h4) h3
theorem own_tvs {w : World} {B : Nat} {v : Value} {us : List TV} (h : w.ownsRow B 61 2 v us.length (flat us)) : ∃ a c, v = .slice a us.length c ∧ us.length ≤ c ∧ (0 < us.length → ∃ b off, a = some ⟨b, off, none⟩ ∧ b < w.heap.size ∧ ∀ j u, (flat us)[j]? = some u → w.cell? ⟨b, off + j, none⟩ = some u) := by
  rcases h.2 with ⟨h1, h2⟩ | ⟨b, cap, cur, rfl, hb, hh, hn, hm, hcs, ht⟩
  · exact ⟨none, 0, by rw [h1, h2], by omega, fun hp => by omega⟩
  · have hlt := World.ownsRow.lt h b rfl
    refine ⟨_, cap, rfl, hn, fun hp => ⟨b, 0, rfl, hlt.2, fun j u hj => ?_⟩⟩
    have hjl : j < us.length * 2 := by
      rw [← flat_len]
      apply Nat.lt_of_not_le; intro hle; rw [List.getElem?_eq_none hle] at hj; simp at hj
    rw [Nat.zero_add, h.cellAt j hjl]; exact hj

set_option maxRecDepth 100000 in
set_option maxHeartbeats 1000000 in
theorem refSum_plx (g0 : Nat) (p n o v : Int) (N : Nat) (fv gv : Value) (fs gs : List Tm) (w : World) (hg0 : g0 < w.heap.size) (hp : 2 ≤ p ∧ p ≤ 101) (ho : o = 1 ∨ o = 2) (hN0 : 0 < N) (hN : N ≤ 3) (tf : ∀ t ∈ fs, Tok p N t) (tg : ∀ t ∈ gs, Tok p N t) (hm : fs.length + gs.length ≤ 4000000)
    (pf : PlX g0 w fv fs) (pg : PlX g0 w gv gs) :
    Calls Try.prog 83 #[ringV p n o v, fv, gv] w fun e w' => ∃ u, e = .returned u ∧ PlX g0 w' u (colL p o (fs ++ gs)) ∧ Below w.heap.size w w' := by
  obtain ⟨fa, fc, us, rfl, _, hus, hue, hua, hucs⟩ := pf
  obtain ⟨ga, gc, vs, rfl, _, hvs, hve, hva, hvcs⟩ := pg
  have HAP : Hid (∀ t ∈ us ++ vs, ApartO (some g0) t.2.1) := fun t ht => (List.mem_append.1 ht).elim (hua t) (hva t)
  have HG0 := hid hg0
  obtain ⟨ws, hws⟩ : ∃ ws, ws = us ++ vs := ⟨_, rfl⟩
  have HWS := hid hws
  clear hua hva hws hg0
  have hul : us.length = fs.length := by rw [← hus, List.length_map]
  have hvl : vs.length = gs.length := by rw [← hvs, List.length_map]
  have hm' : us.length + vs.length ≤ 4000000 := by omega
  have HT : Hid ((us ++ vs).map tm = fs ++ gs ∧ ∀ t ∈ fs ++ gs, Tok p N t) := ⟨by rw [List.map_append, hus, hvs], fun t ht => (List.mem_append.1 ht).elim (tf t) (tg t)⟩
  have HES := hid (And.intro hue hve)
  obtain ⟨i0, hi, hz0, hz1, hz2⟩ := info_parts Try.infoTerm
  have HI := hid (And.intro hi (And.intro hz0 (And.intro hz1 hz2)))
  obtain ⟨w1, hw1⟩ : ∃ w1, w1 = w.alloc (.cells #[.int .i64 p, .int .i64 n, .int .i64 o, .int .i64 v] 39) := ⟨_, rfl⟩
  have hbx : BoxAt w1 w.heap.size p n o v := by rw [hw1]; exact BoxAt.new w p n o v _
  have hbw : Below w.heap.size w w1 := by rw [hw1]; exact below_oneG
  have HBW := hid hbw
  obtain ⟨_, bx0, bx1, bx2, bx3⟩ := hbx
  have CU : Hid (∀ W, Below w1.heap.size w1 W → 0 < us.length → ∃ b off, fa = some ⟨b, off, none⟩ ∧ ∀ i u, (flat us)[i]? = some u → W.cell? ⟨b, off + i, none⟩ = some u) := fun W hb h => by
    obtain ⟨b, off, e, hlt, _, hc⟩ := hucs h
    exact ⟨b, off, e, fun i u hi => cell_keep (cell_keep (hc i u hi) hbw) hb⟩
  have CV : Hid (∀ W, Below w1.heap.size w1 W → 0 < vs.length → ∃ b off, ga = some ⟨b, off, none⟩ ∧ ∀ i u, (flat vs)[i]? = some u → W.cell? ⟨b, off + i, none⟩ = some u) := fun W hb h => by
    obtain ⟨b, off, e, hlt, _, hc⟩ := hvcs h
    exact ⟨b, off, e, fun i u hi => cell_keep (cell_keep (hc i u hi) hbw) hb⟩
  have KEEP : Hid (∀ W, Below w1.heap.size w1 W → (Hid (Below w1.heap.size w1 W) ∧ W.cell? ⟨w.heap.size, 0, none⟩ = some (.int .i64 p) ∧ W.cell? ⟨w.heap.size, 1, none⟩ = some (.int .i64 n) ∧ W.cell? ⟨w.heap.size, 2, none⟩ = some (.int .i64 o) ∧ W.cell? ⟨w.heap.size, 3, none⟩ = some (.int .i64 v))) :=
    fun W hb => ⟨hb, cell_keep bx0 hb, cell_keep bx1 hb, cell_keep bx2 hb, cell_keep bx3 hb⟩
  have BA := hid (show Below w1.heap.size w1 (w1.drew.alloc (.cells #[] 61)) from (Below.refl w1.heap.size w1).drew.alloc (Nat.le_refl _) _)
  have OA : Hid ((w1.drew.alloc (.cells #[] 61)).ownsRow w1.heap.size 61 2 (.slice (some ⟨w1.heap.size, 0, none⟩) 0 0) 0 []) := World.ownsRow_made w1.drew #[] 0 (Nat.le_refl _) (by decide) (by simp)
  have HP := hid hp
  have HO := hid ho
  clear hus hvs hue hve hucs hvcs tf tg hul hvl hi hz0 hz1 hz2 bx0 bx1 bx2 bx3 hbw hp ho hm
  go_enter Try.func83, Try.ntmps83
  go_wp2_with fail
  rw [← hw1]
  clear hw1
  go_region_held_law (fun W => Hid (Below w1.heap.size w1 W) ∧ W.cell? ⟨w.heap.size, 0, none⟩ = some (.int .i64 p) ∧ W.cell? ⟨w.heap.size, 1, none⟩ = some (.int .i64 n) ∧ W.cell? ⟨w.heap.size, 2, none⟩ = some (.int .i64 o) ∧ W.cell? ⟨w.heap.size, 3, none⟩ = some (.int .i64 v))
    (first | exact KEEP.out _ (Below.refl _ _).drew | exact KEEP.out _ HB9.out | exact KEEP.out _ HB6.out | exact KEEP.out _ HB5.out | exact KEEP.out _ BA.out)
    (first
      | (refine step_append_tvsA rfl (.tmp 8) (.tmp 9) 53 54 rfl w1.heap.size 61 i0 _ Try.underlying53 Try.underlying54 HI.out.1 HI.out.2.1 HI.out.2.2.1 HI.out.2.2.2 rfl (.slice (some ⟨w1.heap.size, 0, none⟩) 0 0) 0 [] (by simp [Act.eval, Act.put]) OA.out us us.length rfl fa fc (by simp [Act.eval, Act.put]) (CU.out _ BA.out) (flat_one HES.out.1) (by omega) BA.out.size ?_; intro v5 w5 r1 r2 _; rw [Nat.zero_add, List.nil_append] at r1; have OWN5 := hid r1; have HB5 := hid (show Below w1.heap.size w1 w5 from own_grown OA.out BA.out r2 (Nat.le_refl _)); obtain ⟨va5, vc5, hv5⟩ := own_sl' r1; subst hv5; clear r1 r2)
      | (refine step_append_tvsA rfl (.tmp 10) (.tmp 11) 53 54 rfl w1.heap.size 61 i0 _ Try.underlying53 Try.underlying54 HI.out.1 HI.out.2.1 HI.out.2.2.1 HI.out.2.2.2 rfl (.slice va5 us.length vc5) us.length (flat us) (by simp [Act.eval, Act.put]) OWN5.out vs vs.length rfl ga gc (by simp [Act.eval, Act.put]) (CV.out _ HB5.out) (flat_one HES.out.2) (by omega) HB5.out.size ?_; intro v6 w6 r1 r2 _; have HB6 := hid (show Below w1.heap.size w1 w6 from own_grown OWN5.out HB5.out r2 (Nat.le_refl _)); have r1b : w6.ownsRow w1.heap.size 61 2 v6 ws.length (flat ws) := (by rw [HWS.out, flat_append, List.length_append]; exact r1); have ES6 : Hid (Es w6 ws) := (by rw [HWS.out]; exact (fun t ht => ((List.mem_append.1 ht).elim (HES.out.1 t) (HES.out.2 t)).below (HBW.out.trans (HB6.out.mono HBW.out.size)))); obtain ⟨va6, vc6, hv6, hcap6, hcs6⟩ := own_tvs r1b; subst hv6; have HC6 := hid (And.intro hcap6 hcs6); clear r1b hcap6 hcs6; clear r1 r2)
      | (go_at_call 121; refine (collect_fp (ApartO (some g0)) p n o v N va6 vc6 ws (fs ++ gs) _ HP.out HO.out hN0 hN HT.out.2 ?_ HC6.out.1 ?_ ES6.out HC6.out.2 ?_).mono ?_; (rw [← HT.out.1, List.length_map, List.length_append]; exact hm'); (rw [HWS.out]; exact HT.out.1); (rw [HWS.out]; exact HAP.out); rintro e w9 ⟨u9, ls9, rfl, ho9, he9, hl9, ha9, hb9⟩; have HB9 := hid (show Below w1.heap.size w1 w9 from HB6.out.trans (hb9.mono HB6.out.size)); have HU9 : Hid (PlX g0 w9 u9 (colL p o (fs ++ gs))) := (by rw [← hl9]; exact own_plx ho9 he9 ha9 (Nat.lt_of_lt_of_le HG0.out (Nat.le_trans HBW.out.size HB6.out.size))); obtain ⟨ua9, uc9, hv9⟩ := own_sl' ho9; subst hv9; clear ho9 he9 hl9 ha9 hb9))
  go_wp2
  go_ret
  exact ⟨_, rfl, HU9.out, HBW.out.trans (HB9.out.mono HBW.out.size)⟩

end Go.Proofs.Ytkmjmmnnnbjghaa
