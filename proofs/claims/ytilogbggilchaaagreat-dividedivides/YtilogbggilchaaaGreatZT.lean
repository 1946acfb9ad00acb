/- The sum's Add, walked. -/
import Derived.Test.YtilogbggilchaaaGreatZQ
import Derived.Test.YtilogbggilchaaaGreatShelf
namespace Go.Proofs.YtilogbggilchaaaGreat
set_option linter.unusedSimpArgs false
set_option linter.unusedVariables false
open Go.RowKit
def lenOf1 (w : World) (sb : Nat) : Nat := lenC (w.cell? ⟨sb, 1, none⟩)

set_option maxRecDepth 100000 in
set_option maxHeartbeats 2000000 in
theorem add_any (B sb ob : Nat) (p k0 k1 k2 : Int) (G : Ft → Prop) (sv rv vv : Value) (us : List Value) (rows : List (List Ft)) (fs : List Ft) (w : World) (hs : SumW B w sb ob rv us rows) (hB : B ≤ w.heap.size) (hob : OrdB w ob p k0 k1 k2 sv) (hosb : ob ≠ sb) (hp : 2 ≤ p ∧ p ≤ 101) (hn : rows.length ≤ 65) (hf : Fv w vv fs) (hr : Rok p G rows) (hrf : Rok p G [fs])
    (hG : ∀ x t, Alk x t → G t → G x) (hM : ∀ r, Dn r → (∀ t ∈ r, G t) → r.length ≤ 100000000000) :
    Calls Tryz.prog 58 #[.pointer (some ⟨sb, 0, none⟩), vv] w fun e w' => e = .returned (.tuple #[]) ∧ ∃ rv' us' rows', SumW B w' sb ob rv' us' rows' ∧ Rok p G rows' ∧ rows'.length ≤ 65 ∧ (∀ k, p ∣ cnt k rows'.flatten - (cnt k rows.flatten + cnt k fs)) ∧ Frm (SFp sb rv) w w' ∧ (∀ k, rv'.ownBlock = some k → k < w.heap.size → rv.ownBlock = some k) := by
  have HOB := hid hob
  have HG := hid hG
  have HM := hid hM
  have HSBL := hid hs.lt
  have HAO := hid (hs.ob_apart hob)
  have H0 : Hid (AdW p G B w w sb ob rv rv rows fs rows vv fs) := ⟨⟨us, hs⟩, Frm.refl _ _, fun _ h _ => h, hf, hr, hrf, fun k => ⟨0, by omega⟩⟩
  obtain ⟨va, vc, rfl, _, _⟩ := hf
  have hfl := HM.out fs (hrf.dn fs (by simp)) (hrf.gd fs (by simp))
  have w64 : IntKind.u64.wrap (fs.length : Int) = fs.length := by rw [IntKind.wrap_u64]; omega
  have HBL := hid (Tryz.bits_Len (fs.length : Int) w (by omega) (by omega))
  have hb64 := bitLen64 ((fs.length : Int)).toNat
  obtain ⟨a0, ha0⟩ : ∃ a0, Lib.bitLen ((fs.length : Int)).toNat = a0 := ⟨_, rfl⟩
  rw [ha0] at HBL hb64
  clear hs hob hG hM hr hrf ha0
  go_enter Tryz.func58, Tryz.ntmps58
  go_wp2_with (go_at_call 95; refine HBL.out.mono ?_; rintro e w9 ⟨rfl, h9⟩; have h9b := h9.symm; clear h9; subst h9b)
  go_loopw [1, 4] (fun v i wr => ∃ (v1 : Value) (a : Nat) (rows1 : List (List Ft)) (f1 : List Ft), v1 = v ∧ a ≤ 64 ∧ i = .int .i64 a ∧ rows1.length = rows.length ∧ AdW p G B w wr sb ob rv rv rows fs rows1 v1 f1) (fun _ _ wr => cellLen wr rv)
  case atStart => exact ⟨_, a0, rows, fs, rfl, hb64, rfl, rfl, H0.out⟩
  case round =>
    clear H0 HBL
    obtain ⟨v1, a, rows1, f1, hv1, ha, rfl, hl1, hw⟩ := hrel
    subst hv1
    obtain ⟨fa1, fc1, hfv1, _, _⟩ := hw.fv
    subst hfv1
    have HW := hid hw
    obtain ⟨us1, hs1⟩ := hw.sum
    have HS1 := hid hs1
    obtain ⟨x0, x1, x2⟩ := hs1.cells
    obtain ⟨ra, rc, hrv⟩ := own_sl hs1.rws.own
    subst hrv
    have HTOT := hid hs1.rws.total
    clear hw hs1
    by_cases hal : a < rows1.length
    · obtain ⟨g, c, e, _, hlt, z1, z2⟩ := HS1.out.rws.at a hal
      simp only [Value.slice.injEq] at e
      obtain ⟨rfl, _, rfl⟩ := e
      have hfv := HS1.out.rws.fvs a hal
      generalize hu : us1.getD a nilV = u at hfv z1
      cases hrow : rows1.getD a [] with
      | nil =>
        rw [hrow] at hfv
        obtain ⟨ua, ucap, rfl, _, _⟩ := hfv
        have HROW := hid hrow
        clear hrow hu
        go_wp2_with fail
        go_loopw [] (fun wr2 => ∃ (rv2 : Value) (rows2 : List (List Ft)), rows2.length ≤ 65 ∧ (a < rows2.length → rows2.getD a [] = []) ∧ AdW p G B w wr2 sb ob (.slice (some ⟨g, 0, none⟩) rows1.length rc) rv2 rows fs rows2 (.slice fa1 f1.length fc1) f1) (fun wr2 => 66 - lenOf1 wr2 sb)
        case atStart => exact ⟨_, rows1, by omega, fun _ => HROW.out, HW.out⟩
        case round =>
          clear HW HS1 HTOT
          obtain ⟨rv2, rows2, hl2, hem, hw2⟩ := hrel
          have HW2 := hid hw2
          obtain ⟨us2, hs2⟩ := hw2.sum
          have HS2 := hid hs2
          obtain ⟨y0, y1, y2⟩ := hs2.cells
          obtain ⟨ra2, rc2, hrv2⟩ := own_sl hs2.rws.own
          subst hrv2
          have hlen1 : lenOf1 wr sb = rows2.length := by unfold lenOf1; rw [y1]; rfl
          clear hw2 hs2
          by_cases h2 : rows2.length ≤ a
          · have HWA := hid (HW2.out.next (belowNew (A := .cells #[.slice none 0 0] 64)))
            have HSA := hid (HS2.out.next (belowNew (A := .cells #[.slice none 0 0] 64)))
            have hBa : B ≤ (wr.alloc (.cells #[.slice none 0 0] 64)).heap.size := by have := HWA.out.frm.size; omega
            have STEP : Hid (∀ v' w', w'.ownsRow B 64 1 v' (rows2.length + 1) (us2 ++ [.slice none 0 0]) → (wr.alloc (.cells #[.slice none 0 0] 64)).grownBy w' (Value.slice ra2 rows2.length rc2).ownBlock → (∀ g, v'.ownBlock = some g → SlK w' g) → (v'.ownBlock = (Value.slice ra2 rows2.length rc2).ownBlock ∨ v'.ownBlock = some (wr.alloc (.cells #[.slice none 0 0] 64)).heap.size) →
                (∃ x, w'.cell? ⟨sb, 1, none⟩ = some x) ∧ w'.frozen? ⟨sb, 1, none⟩ = false ∧ AdW p G B w (w'.setCell ⟨sb, 1, none⟩ v') sb ob (.slice (some ⟨g, 0, none⟩) rows1.length rc) v' rows fs (rows2 ++ [[]]) (.slice fa1 f1.length fc1) f1 ∧ (w'.setCell ⟨sb, 1, none⟩ v').cell? ⟨sb, 1, none⟩ = some v' ∧ lenC (some v') = rows2.length + 1) := fun v' w' q2 q3 q4 q5 => by
              have hb2 := World.ownsRow.kept HSA.out.box q3 (Or.inr (by simpa [Value.ownBlock] using fun e => HSA.out.apart e.symm))
              have hc2 := World.ownsRow.cellAt hb2 1 (by omega)
              obtain ⟨a3, c3, e3⟩ := own_sl q2
              exact ⟨⟨_, hc2⟩, World.ownsRow.frozenAt hb2 1, HWA.out.grow HSA.out q2 q3 q4 q5, World.cell?_setCell_same _ _ _ hc2, by rw [e3]; rfl⟩
            go_wp2_with (at_builtin; refine wpList_append_rows rfl (.tmp 63) (.tmp 64) 107 rfl Tryz.underlying107 B _ us2 rows2 rfl HSA.out.rws ⟨wr.heap.size, 0, none⟩ 1 rfl (one_newP _ _ _) (by omega) hBa ?_; intro v' w' q2 q3 q4 q5; obtain ⟨a3, c3, e3⟩ := own_sl q2; subst e3; have S5 := hid (STEP.out _ w' q2 q3 q4 q5); clear q2 q3 q4 q5; obtain ⟨x5, d5⟩ := S5.out.1; have d6 := S5.out.2.1)
            go_roundw
            case rel =>
              refine ⟨_, rows2 ++ [[]], by rw [List.length_append]; simp; omega, fun h => ?_, S5.out.2.2.1⟩
              rw [List.length_append] at h
              simp only [List.length_cons, List.length_nil] at h
              have e : a = rows2.length := by omega
              subst e
              simp [List.getD_eq_getElem?_getD]
            case measure =>
              have h7 := S5.out.2.2.2
              show 66 - lenOf1 _ sb < 66 - lenOf1 wr sb
              unfold lenOf1 at hlen1 ⊢
              rw [h7.1, h7.2, hlen1]
              omega
          · have ha2 : a < rows2.length := by omega
            have HEM := hid (hem ha2)
            obtain ⟨g2, c2, e2, _, hlt2, m1, m2⟩ := HS2.out.rws.at a ha2
            simp only [Value.slice.injEq] at e2
            obtain ⟨rfl, _, rfl⟩ := e2
            have HPUT := hid (HS2.out.put a ha2 (.slice fa1 f1.length fc1) f1 HW2.out.fv)
            go_wp2
            go_end0
            refine ⟨rfl, _, _, rows2.set a f1, HPUT.out.1, HW2.out.ok.set HW2.out.okf a, by rw [List.length_set]; exact hl2, fun k => ?_, HW2.out.frm.trans (Frm.of_grown (S := fun k => k = g2) HPUT.out.2 fun x e => by simpa using e.symm) fun x hx e => ?_, HW2.out.loc⟩
            · rw [cnt_set k f1 rows2 a ha2, HEM.out]
              have := HW2.out.cn k
              simpa [cnt] using this
            · subst e; exact Or.inr (HW2.out.loc _ rfl hx)
      | cons t ts =>
        have HROW := hid hrow
        have HFU := hid hfv
        rw [hrow] at hfv
        obtain ⟨ub, uof, ucap, rfl, _⟩ := hfv.head
        have HOW := hid (HOB.out.frm HW.out.frm (fun e => by rcases e with e | e; exact hosb e; exact HAO.out e))
        have hf1l := HM.out f1 (HW.out.okf.dn f1 (by simp)) (HW.out.okf.gd f1 (by simp))
        have HR2 := hid (HW.out.ok.getD a)
        have hr1l := HM.out (rows1.getD a []) (HR2.out.dn _ (List.mem_singleton.2 rfl)) (HR2.out.gd _ (List.mem_singleton.2 rfl))
        have hmrl := HM.out (mergeK p f1 (rows1.getD a [])) ((HW.out.okf.merge hp.1 HG.out HR2.out).dn _ (List.mem_singleton.2 rfl)) ((HW.out.okf.merge hp.1 HG.out HR2.out).gd _ (List.mem_singleton.2 rfl))
        clear hrow hu hfv
        have HMG : Hid (∀ W, Below wr.heap.size wr W → Calls Tryz.prog 96 #[.pointer (some ⟨ob, 0, none⟩), .slice fa1 f1.length fc1, .slice (some ⟨ub, uof, none⟩) (ts.length + 1) ucap] W fun e w' => ∃ u, e = .returned u ∧ Fv w' u (mergeK p f1 (rows1.getD a [])) ∧ Below W.heap.size W w') := fun W hb =>
          flatMerge_any ob p k0 k1 k2 sv _ _ f1 (rows1.getD a []) W (HOW.out.below hb) hp (fun t ht => by have := HW.out.okf.co f1 (by simp) t ht; omega) (fun t ht => by have := HR2.out.co _ (List.mem_singleton.2 rfl) t ht; omega) (by omega) (HW.out.fv.below hb) (HFU.out.below hb)
        have KEEP : Hid (∀ W, Below wr.heap.size wr W → (Hid (Below wr.heap.size wr W) ∧ W.cell? ⟨sb, 0, none⟩ = some (.pointer (some ⟨ob, 0, none⟩)) ∧ W.cell? ⟨sb, 1, none⟩ = some (.slice (some ⟨g, 0, none⟩) rows1.length rc) ∧ W.cell? ⟨g, a, none⟩ = some (.slice (some ⟨ub, uof, none⟩) (ts.length + 1) ucap))) := fun W hb => ⟨hb, cell_keep x0 hb, cell_keep x1 hb, cell_keep z1 hb⟩
        have HB0 : Hid (Below wr.heap.size wr wr.drew) := (Below.refl _ _).drew
        go_wp2_with fail
        go_region_held (fun W => Hid (Below wr.heap.size wr W) ∧ W.cell? ⟨sb, 0, none⟩ = some (.pointer (some ⟨ob, 0, none⟩)) ∧ W.cell? ⟨sb, 1, none⟩ = some (.slice (some ⟨g, 0, none⟩) rows1.length rc) ∧ W.cell? ⟨g, a, none⟩ = some (.slice (some ⟨ub, uof, none⟩) (ts.length + 1) ucap))
          (first | exact KEEP.out _ HB0.out | exact KEEP.out _ (HB0.out.trans (HB9.out.mono HB0.out.size)))
          (first | (go_at_call 96; refine (HMG.out _ HB0.out).mono ?_; rintro e w9 ⟨u9, rfl, hf9, hb9⟩; have HF9 := hid hf9; have HB9 := hid hb9; clear hf9 hb9))
        have HBT := hid (HB0.out.trans (HB9.out.mono HB0.out.size))
        obtain ⟨_, d0, d1, d2⟩ := KEEP.out _ HBT.out
        have HS9 := hid (HS1.out.next HBT.out)
        have d3 : w9.frozen? ⟨g, a, none⟩ = false := World.ownsRow.frozenAt HS9.out.rws.own a
        obtain ⟨ua9, uc9, hu9, _, _⟩ := HF9.out
        subst hu9
        have HAD := hid (AdW.merge hp.1 HG.out (HW.out.next HBT.out) a hal HF9.out)
        have htot := tot_set [] rows1 a hal
        rw [HROW.out] at htot
        simp only [List.length_cons, List.length_nil] at htot
        have HTT := hid htot
        clear htot
        generalize mergeK p f1 (rows1.getD a []) = mg at HF9 HAD hmrl
        have w64b : IntKind.u64.wrap (mg.length : Int) = mg.length := by rw [IntKind.wrap_u64]; omega
        have hb65 := bitLen64 ((mg.length : Int)).toNat
        have HBL2 : Hid (∀ W, Calls Tryz.prog 95 #[.int .u64 (mg.length : Int)] W fun e w' => e = .returned (.int .i64 (Lib.bitLen ((mg.length : Int)).toNat)) ∧ w' = W) := fun W => Tryz.bits_Len (mg.length : Int) W (by omega) (by omega)
        obtain ⟨a9, ha9⟩ : ∃ a9, Lib.bitLen ((mg.length : Int)).toNat = a9 := ⟨_, rfl⟩
        rw [ha9] at HBL2 hb65
        clear ha9
        go_wp2_with (go_at_call 95; refine (HBL2.out _).mono ?_; rintro e w8 ⟨rfl, h8⟩; have h8b := h8.symm; clear h8; subst h8b)
        go_roundw
        case rel => exact ⟨_, max a a9, rows1.set a [], mg, rfl, by omega, by rw [show ((max a a9 : Nat) : Int) = max (a : Int) a9 by omega], by rw [List.length_set]; exact hl1, HAD.out⟩
        case measure =>
          obtain ⟨us7, hs7⟩ := HAD.out.sum
          have h7 := hs7.rws.total
          have h8 := HTOT.out
          have h9 := HTT.out
          omega
    · go_wp2_with fail
      go_loopw [] (fun wr2 => ∃ (rv2 : Value) (rows2 : List (List Ft)), rows2.length ≤ 65 ∧ (a < rows2.length → rows2.getD a [] = []) ∧ AdW p G B w wr2 sb ob (.slice ra rows1.length rc) rv2 rows fs rows2 (.slice fa1 f1.length fc1) f1) (fun wr2 => 66 - lenOf1 wr2 sb)
      case atStart => exact ⟨_, rows1, by omega, fun h => absurd h hal, HW.out⟩
      case round =>
        clear HW HS1 HTOT
        obtain ⟨rv2, rows2, hl2, hem, hw2⟩ := hrel
        have HW2 := hid hw2
        obtain ⟨us2, hs2⟩ := hw2.sum
        have HS2 := hid hs2
        obtain ⟨y0, y1, y2⟩ := hs2.cells
        obtain ⟨ra2, rc2, hrv2⟩ := own_sl hs2.rws.own
        subst hrv2
        have hlen1 : lenOf1 wr sb = rows2.length := by unfold lenOf1; rw [y1]; rfl
        clear hw2 hs2
        by_cases h2 : rows2.length ≤ a
        · have HWA := hid (HW2.out.next (belowNew (A := .cells #[.slice none 0 0] 64)))
          have HSA := hid (HS2.out.next (belowNew (A := .cells #[.slice none 0 0] 64)))
          have hBa : B ≤ (wr.alloc (.cells #[.slice none 0 0] 64)).heap.size := by have := HWA.out.frm.size; omega
          have STEP : Hid (∀ v' w', w'.ownsRow B 64 1 v' (rows2.length + 1) (us2 ++ [.slice none 0 0]) → (wr.alloc (.cells #[.slice none 0 0] 64)).grownBy w' (Value.slice ra2 rows2.length rc2).ownBlock → (∀ g, v'.ownBlock = some g → SlK w' g) → (v'.ownBlock = (Value.slice ra2 rows2.length rc2).ownBlock ∨ v'.ownBlock = some (wr.alloc (.cells #[.slice none 0 0] 64)).heap.size) →
              (∃ x, w'.cell? ⟨sb, 1, none⟩ = some x) ∧ w'.frozen? ⟨sb, 1, none⟩ = false ∧ AdW p G B w (w'.setCell ⟨sb, 1, none⟩ v') sb ob (.slice ra rows1.length rc) v' rows fs (rows2 ++ [[]]) (.slice fa1 f1.length fc1) f1 ∧ (w'.setCell ⟨sb, 1, none⟩ v').cell? ⟨sb, 1, none⟩ = some v' ∧ lenC (some v') = rows2.length + 1) := fun v' w' q2 q3 q4 q5 => by
            have hb2 := World.ownsRow.kept HSA.out.box q3 (Or.inr (by simpa [Value.ownBlock] using fun e => HSA.out.apart e.symm))
            have hc2 := World.ownsRow.cellAt hb2 1 (by omega)
            obtain ⟨a3, c3, e3⟩ := own_sl q2
            exact ⟨⟨_, hc2⟩, World.ownsRow.frozenAt hb2 1, HWA.out.grow HSA.out q2 q3 q4 q5, World.cell?_setCell_same _ _ _ hc2, by rw [e3]; rfl⟩
          go_wp2_with (at_builtin; refine wpList_append_rows rfl (.tmp 63) (.tmp 64) 107 rfl Tryz.underlying107 B _ us2 rows2 rfl HSA.out.rws ⟨wr.heap.size, 0, none⟩ 1 rfl (one_newP _ _ _) (by omega) hBa ?_; intro v' w' q2 q3 q4 q5; obtain ⟨a3, c3, e3⟩ := own_sl q2; subst e3; have S5 := hid (STEP.out _ w' q2 q3 q4 q5); clear q2 q3 q4 q5; obtain ⟨x5, d5⟩ := S5.out.1; have d6 := S5.out.2.1)
          go_roundw
          case rel =>
            refine ⟨_, rows2 ++ [[]], by rw [List.length_append]; simp; omega, fun h => ?_, S5.out.2.2.1⟩
            rw [List.length_append] at h
            simp only [List.length_cons, List.length_nil] at h
            have e : a = rows2.length := by omega
            subst e
            simp [List.getD_eq_getElem?_getD]
          case measure =>
            have h7 := S5.out.2.2.2
            show 66 - lenOf1 _ sb < 66 - lenOf1 wr sb
            unfold lenOf1 at hlen1 ⊢
            rw [h7.1, h7.2, hlen1]
            omega
        · have ha2 : a < rows2.length := by omega
          have HEM := hid (hem ha2)
          obtain ⟨g2, c2, e2, _, hlt2, m1, m2⟩ := HS2.out.rws.at a ha2
          simp only [Value.slice.injEq] at e2
          obtain ⟨rfl, _, rfl⟩ := e2
          have HPUT := hid (HS2.out.put a ha2 (.slice fa1 f1.length fc1) f1 HW2.out.fv)
          go_wp2
          go_end0
          refine ⟨rfl, _, _, rows2.set a f1, HPUT.out.1, HW2.out.ok.set HW2.out.okf a, by rw [List.length_set]; exact hl2, fun k => ?_, HW2.out.frm.trans (Frm.of_grown (S := fun k => k = g2) HPUT.out.2 fun x e => by simpa using e.symm) fun x hx e => ?_, HW2.out.loc⟩
          · rw [cnt_set k f1 rows2 a ha2, HEM.out]
            have := HW2.out.cn k
            simpa [cnt] using this
          · subst e; exact Or.inr (HW2.out.loc _ rfl hx)
structure SmD (p : Int) (G : Ft → Prop) (B : Nat) (w : World) (sb ob : Nat) (rv : Value) (us : List Value) (rows : List (List Ft)) (C : Int → Int) : Prop where
  sum : SumW B w sb ob rv us rows
  ok : Rok p G rows
  len : rows.length ≤ 65
  cn : ∀ k, p ∣ cnt k rows.flatten - C k
theorem sum_new (w : World) (ob : Nat) (B : Nat) (hB : B ≤ w.heap.size) : SumW B (w.alloc (.cells #[.pointer (some ⟨ob, 0, none⟩), .slice none 0 0] 109)) w.heap.size ob (.slice none 0 0) [] [] :=
  ⟨⟨by simp, .inr ⟨w.heap.size, 1, _, rfl, hB, heap_alloc_new w _, Nat.le_refl _, by decide, by simp, by simp⟩⟩, kdb_alloc (fun u hu x e => by simp at hu; rcases hu with rfl | rfl <;> cases e), RowsW.nil _ _⟩

set_option maxRecDepth 100000 in
set_option maxHeartbeats 2000000 in
theorem newSum_any (ob vb voff vc : Nat) (p k0 k1 k2 : Int) (G : Ft → Prop) (sv vv : Value) (fs : List Ft) (w : World) (hob : OrdB w ob p k0 k1 k2 sv) (hp : 2 ≤ p ∧ p ≤ 101) (hv : w.cell? ⟨vb, voff, none⟩ = some vv) (hf : Fv w vv fs) (hrf : Rok p G [fs])
    (hG : ∀ x t, Alk x t → G t → G x) (hM : ∀ r, Dn r → (∀ t ∈ r, G t) → r.length ≤ 100000000000) :
    Calls Tryz.prog 22 #[.pointer (some ⟨ob, 0, none⟩), .slice (some ⟨vb, voff, none⟩) 1 vc] w fun e w' => e = .returned (.pointer (some ⟨w.heap.size, 0, none⟩)) ∧ ∃ rv us rows, SmD p G w.heap.size w' w.heap.size ob rv us rows (fun k => cnt k fs) ∧ Below w.heap.size w w' := by
  have HOB := hid hob
  have HF := hid hf
  have HV := hid hv
  have hobl := hob.lt
  obtain ⟨va, vcc, rfl, _, _⟩ := hf
  obtain ⟨w1, hw1⟩ : ∃ w1, w1 = w.alloc (.cells #[.pointer (some ⟨ob, 0, none⟩), .slice none 0 0] 109) := ⟨_, rfl⟩
  have HB1 : Hid (Below w.heap.size w w1) := by rw [hw1]; exact belowNew
  have HS1 : Hid (SumW w.heap.size w1 w.heap.size ob (.slice none 0 0) [] []) := by rw [hw1]; exact sum_new w ob _ (Nat.le_refl _)
  have HAD := hid (add_any w.heap.size w.heap.size ob p k0 k1 k2 G sv (.slice none 0 0) _ [] [] fs w1 HS1.out (by have := HB1.out.size; omega) (HOB.out.below HB1.out) (by omega) hp (by simp) (HF.out.below HB1.out) ⟨fun r hr => by simp at hr, fun r hr => by simp at hr, fun r hr => by simp at hr⟩ hrf hG hM)
  have c1 := cell_keep HV.out HB1.out
  clear hob hv hrf hG hM
  go_enter Tryz.func22, Tryz.ntmps22
  go_wp2_with fail
  rw [← hw1]
  clear hw1
  go_loopw [13] (fun i wr => (i = .int .i64 0 ∧ wr = w1) ∨ (i = .int .i64 1 ∧ ∃ rv us rows, SmD p G w.heap.size wr w.heap.size ob rv us rows (fun k => cnt k fs) ∧ Below w.heap.size w wr)) (fun i _ => 1 - (intOf i).toNat)
  case atStart => exact Or.inl ⟨rfl, rfl⟩
  case round =>
    rcases hrel with ⟨rfl, rfl⟩ | ⟨rfl, rv, us, rows, hsm, hb⟩
    · go_wp2_with (go_at_call 58; refine HAD.out.mono ?_; rintro e w9 ⟨rfl, rv9, us9, rows9, q1, q2, q3, q4, q5, q6⟩; have H9 : Hid (SmD p G w.heap.size w9 w.heap.size ob rv9 us9 rows9 (fun k => cnt k fs) ∧ Below w.heap.size w w9) := ⟨⟨q1, q2, q3, fun k => by have := q4 k; simpa [cnt] using this⟩, HB1.out.trans (q5.to_below HB1.out.size (fun x hx => by rcases hx with hx | hx; exact Nat.le_of_eq hx.symm; simp [Value.ownBlock] at hx))⟩; clear q1 q2 q3 q4 q5 q6)
      go_roundw
      case rel => exact Or.inr ⟨by go_num, rv9, us9, rows9, H9.out.1, H9.out.2⟩
      case measure => simp [intOf]
    · have HSM := hid (And.intro hsm hb)
      clear hsm hb
      go_wp2
      go_ret
      exact ⟨rfl, rv, us, rows, HSM.out.1, HSM.out.2⟩
end Go.Proofs.YtilogbggilchaaaGreat
