/- The sum's Add, walked. -/
import Derived.Test.YtilogbggilchaaaGreatZQ
import Derived.Test.YtilogbggilchaaaGreatShelf
import Derived.Test.YtilogbggilchaaaGreatWA
import Derived.Test.YtilogbggilchaaaGreatWJ
namespace Go.Proofs.YtilogbggilchaaaGreat
set_option linter.unusedSimpArgs false
set_option linter.unusedVariables false
open Go.RowKit
def lenOf1 (w : World) (sb : Nat) : Nat := lenC (w.cell? ⟨sb, 1, none⟩)

set_option maxRecDepth 100000 in
set_option maxHeartbeats 2000000 in
theorem add_any (B sb ob : Nat) (p k0 k1 k2 : Int) (G : Ft → Prop) (sv rv vv : Value) (us : List Value) (rows : List (List Ft)) (fs : List Ft) (w : World) (hs : SumW B w sb ob rv us rows) (hB : B ≤ w.heap.size) (hob : OrdB w ob p k0 k1 k2 sv) (hosb : ob ≠ sb) (hp : 2 ≤ p ∧ p ≤ 101) (hn : rows.length ≤ 65) (hf : Fv w vv fs) (hr : Rok p G rows) (hrf : Rok p G [fs])
    (hG : ∀ x t, Alk x t → G t → G x) (hM : ∀ r, Dn r → (∀ t ∈ r, G t) → r.length ≤ 100000000000) :
    Calls Tryz.prog 58 #[.pointer (some ⟨sb, 0, none⟩), vv] w fun e w' => e = .returned (.tuple #[]) ∧ ∃ rv' us' rows', SumW B w' sb ob rv' us' rows' ∧ Rok p G rows' ∧ rows'.length ≤ 65 ∧ (∀ k, p ∣ cnt k rows'.flatten - (cnt k rows.flatten + cnt k fs)) ∧ Frm (SFp sb rv) w w' ∧ (∀ k, rv'.ownBlock = some k → k < w.heap.size → rv.ownBlock = some k) := by
  have HOB := hid hob
  have HG := hid hG
  have HM := hid hM
  have HSBL := hid hs.lt
  have HAO := hid (hs.ob_apart hob)
  have H0 : Hid (AdW p G B w w sb ob rv rv rows fs rows vv fs) := ⟨⟨us, hs⟩, Frm.refl _ _, fun _ h _ => h, hf, hr, hrf, fun k => ⟨0, by omega⟩⟩
  obtain ⟨va, vc, rfl, _, _⟩ := hf
  have hfl := HM.out fs (hrf.dn fs (by simp)) (hrf.gd fs (by simp))
  have w64 : IntKind.u64.wrap (fs.length : Int) = fs.length := by rw [IntKind.wrap_u64]; omega
  have HBL := hid (Tryz.bits_Len (fs.length : Int) w (by omega) (by omega))
  have hb64 := bitLen64 ((fs.length : Int)).toNat
  obtain ⟨a0, ha0⟩ : ∃ a0, Lib.bitLen ((fs.length : Int)).toNat = a0 := ⟨_, rfl⟩
  rw [ha0] at HBL hb64
  clear hs hob hG hM hr hrf ha0
  go_enter Tryz.func58, Tryz.ntmps58
  go_wp2_with (go_at_call 95; refine HBL.out.mono ?_; rintro e w9 ⟨rfl, h9⟩; have h9b := h9.symm; clear h9; subst h9b)
  go_loopw [1, 4] (fun v i wr => ∃ (v1 : Value) (a : Nat) (rows1 : List (List Ft)) (f1 : List Ft), v1 = v ∧ a ≤ 64 ∧ i = .int .i64 a ∧ rows1.length = rows.length ∧ AdW p G B w wr sb ob rv rv rows fs rows1 v1 f1) (fun _ _ wr => cellLen wr rv)
  case atStart => exact ⟨_, a0, rows, fs, rfl, hb64, rfl, rfl, H0.out⟩
  case round =>
    clear H0 HBL
    obtain ⟨v1, a, rows1, f1, hv1, ha, rfl, hl1, hw⟩ := hrel
    subst hv1
    obtain ⟨fa1, fc1, hfv1, _, _⟩ := hw.fv
    subst hfv1
    have HW := hid hw
    obtain ⟨us1, hs1⟩ := hw.sum
    have HS1 := hid hs1
    obtain ⟨x0, x1, x2⟩ := hs1.cells
    obtain ⟨ra, rc, hrv⟩ := own_sl hs1.rws.own
    subst hrv
    have HTOT := hid hs1.rws.total
    clear hw hs1
    by_cases hal : a < rows1.length
    · obtain ⟨g, c, e, _, hlt, z1, z2⟩ := HS1.out.rws.at a hal
      simp only [Value.slice.injEq] at e
      obtain ⟨rfl, _, rfl⟩ := e
      have hfv := HS1.out.rws.fvs a hal
      generalize hu : us1.getD a nilV = u at hfv z1
      cases hrow : rows1.getD a [] with
      | nil =>
        rw [hrow] at hfv
        obtain ⟨ua, ucap, rfl, _, _⟩ := hfv
        have HROW := hid hrow
        clear hrow hu
        go_wp2_with fail
        go_loopw [] (fun wr2 => ∃ (rv2 : Value) (rows2 : List (List Ft)), rows2.length ≤ 65 ∧ (a < rows2.length → rows2.getD a [] = []) ∧ AdW p G B w wr2 sb ob (.slice (some ⟨g, 0, none⟩) rows1.length rc) rv2 rows fs rows2 (.slice fa1 f1.length fc1) f1) (fun wr2 => 66 - lenOf1 wr2 sb)
        case atStart => exact ⟨_, rows1, by omega, fun _ => HROW.out, HW.out⟩
        case round =>
          clear HW HS1 HTOT
          obtain ⟨rv2, rows2, hl2, hem, hw2⟩ := hrel
          have HW2 := hid hw2
          obtain ⟨us2, hs2⟩ := hw2.sum
          have HS2 := hid hs2
          obtain ⟨y0, y1, y2⟩ := hs2.cells
          obtain ⟨ra2, rc2, hrv2⟩ := own_sl hs2.rws.own
          subst hrv2
          have hlen1 : lenOf1 wr sb = rows2.length := by unfold lenOf1; rw [y1]; rfl
          clear hw2 hs2
          by_cases h2 : rows2.length ≤ a
          · have HWA := hid (HW2.out.next (belowNew (A := .cells #[.slice none 0 0] 64)))
            have HSA := hid (HS2.out.next (belowNew (A := .cells #[.slice none 0 0] 64)))
            have hBa : B ≤ (wr.alloc (.cells #[.slice none 0 0] 64)).heap.size := by have := HWA.out.frm.size; omega
            have STEP : Hid (∀ v' w', w'.ownsRow B 64 1 v' (rows2.length + 1) (us2 ++ [.slice none 0 0]) → (wr.alloc (.cells #[.slice none 0 0] 64)).grownBy w' (Value.slice ra2 rows2.length rc2).ownBlock → (∀ g, v'.ownBlock = some g → SlK w' g) → (v'.ownBlock = (Value.slice ra2 rows2.length rc2).ownBlock ∨ v'.ownBlock = some (wr.alloc (.cells #[.slice none 0 0] 64)).heap.size) →
                (∃ x, w'.cell? ⟨sb, 1, none⟩ = some x) ∧ w'.frozen? ⟨sb, 1, none⟩ = false ∧ AdW p G B w (w'.setCell ⟨sb, 1, none⟩ v') sb ob (.slice (some ⟨g, 0, none⟩) rows1.length rc) v' rows fs (rows2 ++ [[]]) (.slice fa1 f1.length fc1) f1 ∧ (w'.setCell ⟨sb, 1, none⟩ v').cell? ⟨sb, 1, none⟩ = some v' ∧ lenC (some v') = rows2.length + 1) := fun v' w' q2 q3 q4 q5 => by
              have hb2 := World.ownsRow.kept HSA.out.box q3 (Or.inr (by simpa [Value.ownBlock] using fun e => HSA.out.apart e.symm))
              have hc2 := World.ownsRow.cellAt hb2 1 (by omega)
              obtain ⟨a3, c3, e3⟩ := own_sl q2
              exact ⟨⟨_, hc2⟩, World.ownsRow.frozenAt hb2 1, HWA.out.grow HSA.out q2 q3 q4 q5, World.cell?_setCell_same _ _ _ hc2, by rw [e3]; rfl⟩
            go_wp2_with (at_builtin; refine wpList_append_rows rfl (.tmp 63) (.tmp 64) 107 rfl Tryz.underlying107 B _ us2 rows2 rfl HSA.out.rws ⟨wr.heap.size, 0, none⟩ 1 rfl (one_newP _ _ _) (by omega) hBa ?_; intro v' w' q2 q3 q4 q5; obtain ⟨a3, c3, e3⟩ := own_sl q2; subst e3; have S5 := hid (STEP.out _ w' q2 q3 q4 q5); clear q2 q3 q4 q5; obtain ⟨x5, d5⟩ := S5.out.1; have d6 := S5.out.2.1)
            go_roundw
            case rel =>
              refine ⟨_, rows2 ++ [[]], by rw [List.length_append]; simp; omega, fun h => ?_, S5.out.2.2.1⟩
              rw [List.length_append] at h
              simp only [List.length_cons, List.length_nil] at h
              have e : a = rows2.length := by omega
              subst e
              simp [List.getD_eq_getElem?_getD]
            case measure =>
              have h7 := S5.out.2.2.2
              show 66 - lenOf1 _ sb < 66 - lenOf1 wr sb
              unfold lenOf1 at hlen1 ⊢
              rw [h7.1, h7.2, hlen1]
              omega
          · have ha2 : a < rows2.length := by omega
            have HEM := hid (hem ha2)
            obtain ⟨g2, c2, e2, _, hlt2, m1, m2⟩ := HS2.out.rws.at a ha2
            simp only [Value.slice.injEq] at e2
            obtain ⟨rfl, _, rfl⟩ := e2
            have HPUT := hid (HS2.out.put a ha2 (.slice fa1 f1.length fc1) f1 HW2.out.fv)
            go_wp2
            go_end0
            refine ⟨rfl, _, _, rows2.set a f1, HPUT.out.1, HW2.out.ok.set HW2.out.okf a, by rw [List.length_set]; exact hl2, fun k => ?_, HW2.out.frm.trans (Frm.of_grown (S := fun k => k = g2) HPUT.out.2 fun x e => by simpa using e.symm) fun x hx e => ?_, HW2.out.loc⟩
            · rw [cnt_set k f1 rows2 a ha2, HEM.out]
              have := HW2.out.cn k
              simpa [cnt] using this
            · subst e; exact Or.inr (HW2.out.loc _ rfl hx)
      | cons t ts =>
        have HROW := hid hrow
        have HFU := hid hfv
        rw [hrow] at hfv
        obtain ⟨ub, uof, ucap, rfl, _⟩ := hfv.head
        have HOW := hid (HOB.out.frm HW.out.frm (fun e => by rcases e with e | e; exact hosb e; exact HAO.out e))
        have hf1l := HM.out f1 (HW.out.okf.dn f1 (by simp)) (HW.out.okf.gd f1 (by simp))
        have HR2 := hid (HW.out.ok.getD a)
        have hr1l := HM.out (rows1.getD a []) (HR2.out.dn _ (List.mem_singleton.2 rfl)) (HR2.out.gd _ (List.mem_singleton.2 rfl))
        have hmrl := HM.out (mergeK p f1 (rows1.getD a [])) ((HW.out.okf.merge hp.1 HG.out HR2.out).dn _ (List.mem_singleton.2 rfl)) ((HW.out.okf.merge hp.1 HG.out HR2.out).gd _ (List.mem_singleton.2 rfl))
        clear hrow hu hfv
        have HMG : Hid (∀ W, Below wr.heap.size wr W → Calls Tryz.prog 96 #[.pointer (some ⟨ob, 0, none⟩), .slice fa1 f1.length fc1, .slice (some ⟨ub, uof, none⟩) (ts.length + 1) ucap] W fun e w' => ∃ u, e = .returned u ∧ Fv w' u (mergeK p f1 (rows1.getD a [])) ∧ Below W.heap.size W w') := fun W hb =>
          flatMerge_any ob p k0 k1 k2 sv _ _ f1 (rows1.getD a []) W (HOW.out.below hb) hp (fun t ht => by have := HW.out.okf.co f1 (by simp) t ht; omega) (fun t ht => by have := HR2.out.co _ (List.mem_singleton.2 rfl) t ht; omega) (by omega) (HW.out.fv.below hb) (HFU.out.below hb)
        have KEEP : Hid (∀ W, Below wr.heap.size wr W → (Hid (Below wr.heap.size wr W) ∧ W.cell? ⟨sb, 0, none⟩ = some (.pointer (some ⟨ob, 0, none⟩)) ∧ W.cell? ⟨sb, 1, none⟩ = some (.slice (some ⟨g, 0, none⟩) rows1.length rc) ∧ W.cell? ⟨g, a, none⟩ = some (.slice (some ⟨ub, uof, none⟩) (ts.length + 1) ucap))) := fun W hb => ⟨hb, cell_keep x0 hb, cell_keep x1 hb, cell_keep z1 hb⟩
        have HB0 : Hid (Below wr.heap.size wr wr.drew) := (Below.refl _ _).drew
        go_wp2_with fail
        go_region_held (fun W => Hid (Below wr.heap.size wr W) ∧ W.cell? ⟨sb, 0, none⟩ = some (.pointer (some ⟨ob, 0, none⟩)) ∧ W.cell? ⟨sb, 1, none⟩ = some (.slice (some ⟨g, 0, none⟩) rows1.length rc) ∧ W.cell? ⟨g, a, none⟩ = some (.slice (some ⟨ub, uof, none⟩) (ts.length + 1) ucap))
          (first | exact KEEP.out _ HB0.out | exact KEEP.out _ (HB0.out.trans (HB9.out.mono HB0.out.size)))
          (first | (go_at_call 96; refine (HMG.out _ HB0.out).mono ?_; rintro e w9 ⟨u9, rfl, hf9, hb9⟩; have HF9 := hid hf9; have HB9 := hid hb9; clear hf9 hb9))
        have HBT := hid (HB0.out.trans (HB9.out.mono HB0.out.size))
        obtain ⟨_, d0, d1, d2⟩ := KEEP.out _ HBT.out
        have HS9 := hid (HS1.out.next HBT.out)
        have d3 : w9.frozen? ⟨g, a, none⟩ = false := World.ownsRow.frozenAt HS9.out.rws.own a
        obtain ⟨ua9, uc9, hu9, _, _⟩ := HF9.out
        subst hu9
        have HAD := hid (AdW.merge hp.1 HG.out (HW.out.next HBT.out) a hal HF9.out)
        have htot := tot_set [] rows1 a hal
        rw [HROW.out] at htot
        simp only [List.length_cons, List.length_nil] at htot
        have HTT := hid htot
        clear htot
        generalize mergeK p f1 (rows1.getD a []) = mg at HF9 HAD hmrl
        have w64b : IntKind.u64.wrap (mg.length : Int) = mg.length := by rw [IntKind.wrap_u64]; omega
        have hb65 := bitLen64 ((mg.length : Int)).toNat
        have HBL2 : Hid (∀ W, Calls Tryz.prog 95 #[.int .u64 (mg.length : Int)] W fun e w' => e = .returned (.int .i64 (Lib.bitLen ((mg.length : Int)).toNat)) ∧ w' = W) := fun W => Tryz.bits_Len (mg.length : Int) W (by omega) (by omega)
        obtain ⟨a9, ha9⟩ : ∃ a9, Lib.bitLen ((mg.length : Int)).toNat = a9 := ⟨_, rfl⟩
        rw [ha9] at HBL2 hb65
        clear ha9
        go_wp2_with (go_at_call 95; refine (HBL2.out _).mono ?_; rintro e w8 ⟨rfl, h8⟩; have h8b := h8.symm; clear h8; subst h8b)
        go_roundw
        case rel => exact ⟨_, max a a9, rows1.set a [], mg, rfl, by omega, by rw [show ((max a a9 : Nat) : Int) = max (a : Int) a9 by omega], by rw [List.length_set]; exact hl1, HAD.out⟩
        case measure =>
          obtain ⟨us7, hs7⟩ := HAD.out.sum
          have h7 := hs7.rws.total
          have h8 := HTOT.out
          have h9 := HTT.out
          omega
    · go_wp2_with fail
      go_loopw [] (fun wr2 => ∃ (rv2 : Value) (rows2 : List (List Ft)), rows2.length ≤ 65 ∧ (a < rows2.length → rows2.getD a [] = []) ∧ AdW p G B w wr2 sb ob (.slice ra rows1.length rc) rv2 rows fs rows2 (.slice fa1 f1.length fc1) f1) (fun wr2 => 66 - lenOf1 wr2 sb)
      case atStart => exact ⟨_, rows1, by omega, fun h => absurd h hal, HW.out⟩
      case round =>
        clear HW HS1 HTOT
        obtain ⟨rv2, rows2, hl2, hem, hw2⟩ := hrel
        have HW2 := hid hw2
        obtain ⟨us2, hs2⟩ := hw2.sum
        have HS2 := hid hs2
        obtain ⟨y0, y1, y2⟩ := hs2.cells
        obtain ⟨ra2, rc2, hrv2⟩ := own_sl hs2.rws.own
        subst hrv2
        have hlen1 : lenOf1 wr sb = rows2.length := by unfold lenOf1; rw [y1]; rfl
        clear hw2 hs2
        by_cases h2 : rows2.length ≤ a
        · have HWA := hid (HW2.out.next (belowNew (A := .cells #[.slice none 0 0] 64)))
          have HSA := hid (HS2.out.next (belowNew (A := .cells #[.slice none 0 0] 64)))
          have hBa : B ≤ (wr.alloc (.cells #[.slice none 0 0] 64)).heap.size := by have := HWA.out.frm.size; omega
          have STEP : Hid (∀ v' w', w'.ownsRow B 64 1 v' (rows2.length + 1) (us2 ++ [.slice none 0 0]) → (wr.alloc (.cells #[.slice none 0 0] 64)).grownBy w' (Value.slice ra2 rows2.length rc2).ownBlock → (∀ g, v'.ownBlock = some g → SlK w' g) → (v'.ownBlock = (Value.slice ra2 rows2.length rc2).ownBlock ∨ v'.ownBlock = some (wr.alloc (.cells #[.slice none 0 0] 64)).heap.size) →
              (∃ x, w'.cell? ⟨sb, 1, none⟩ = some x) ∧ w'.frozen? ⟨sb, 1, none⟩ = false ∧ AdW p G B w (w'.setCell ⟨sb, 1, none⟩ v') sb ob (.slice ra rows1.length rc) v' rows fs (rows2 ++ [[]]) (.slice fa1 f1.length fc1) f1 ∧ (w'.setCell ⟨sb, 1, none⟩ v').cell? ⟨sb, 1, none⟩ = some v' ∧ lenC (some v') = rows2.length + 1) := fun v' w' q2 q3 q4 q5 => by
            have hb2 := World.ownsRow.kept HSA.out.box q3 (Or.inr (by simpa [Value.ownBlock] using fun e => HSA.out.apart e.symm))
            have hc2 := World.ownsRow.cellAt hb2 1 (by omega)
            obtain ⟨a3, c3, e3⟩ := own_sl q2
            exact ⟨⟨_, hc2⟩, World.ownsRow.frozenAt hb2 1, HWA.out.grow HSA.out q2 q3 q4 q5, World.cell?_setCell_same _ _ _ hc2, by rw [e3]; rfl⟩
          go_wp2_with (at_builtin; refine wpList_append_rows rfl (.tmp 63) (.tmp 64) 107 rfl Tryz.underlying107 B _ us2 rows2 rfl HSA.out.rws ⟨wr.heap.size, 0, none⟩ 1 rfl (one_newP _ _ _) (by omega) hBa ?_; intro v' w' q2 q3 q4 q5; obtain ⟨a3, c3, e3⟩ := own_sl q2; subst e3; have S5 := hid (STEP.out _ w' q2 q3 q4 q5); clear q2 q3 q4 q5; obtain ⟨x5, d5⟩ := S5.out.1; have d6 := S5.out.2.1)
          go_roundw
          case rel =>
            refine ⟨_, rows2 ++ [[]], by rw [List.length_append]; simp; omega, fun h => ?_, S5.out.2.2.1⟩
            rw [List.length_append] at h
            simp only [List.length_cons, List.length_nil] at h
            have e : a = rows2.length := by omega
            subst e
            simp [List.getD_eq_getElem?_getD]
          case measure =>
            have h7 := S5.out.2.2.2
            show 66 - lenOf1 _ sb < 66 - lenOf1 wr sb
            unfold lenOf1 at hlen1 ⊢
            rw [h7.1, h7.2, hlen1]
            omega
        · have ha2 : a < rows2.length := by omega
          have HEM := hid (hem ha2)
          obtain ⟨g2, c2, e2, _, hlt2, m1, m2⟩ := HS2.out.rws.at a ha2
          simp only [Value.slice.injEq] at e2
          obtain ⟨rfl, _, rfl⟩ := e2
          have HPUT := hid (HS2.out.put a ha2 (.slice fa1 f1.length fc1) f1 HW2.out.fv)
          go_wp2
          go_end0
          refine ⟨rfl, _, _, rows2.set a f1, HPUT.out.1, HW2.out.ok.set HW2.out.okf a, by rw [List.length_set]; exact hl2, fun k => ?_, HW2.out.frm.trans (Frm.of_grown (S := fun k => k = g2) HPUT.out.2 fun x e => by simpa using e.symm) fun x hx e => ?_, HW2.out.loc⟩
          · rw [cnt_set k f1 rows2 a ha2, HEM.out]
            have := HW2.out.cn k
            simpa [cnt] using this
          · subst e; exact Or.inr (HW2.out.loc _ rfl hx)
structure SmD (p : Int) (G : Ft → Prop) (B : Nat) (w : World) (sb ob : Nat) (rv : Value) (us : List Value) (rows : List (List Ft)) (C : Int → Int) : Prop where
  sum : SumW B w sb ob rv us rows
  ok : Rok p G rows
  len : rows.length ≤ 65
  cn : ∀ k, p ∣ cnt k rows.flatten - C k
theorem sum_new (w : World) (ob : Nat) (B : Nat) (hB : B ≤ w.heap.size) : SumW B (w.alloc (.cells #[.pointer (some ⟨ob, 0, none⟩), .slice none 0 0] 109)) w.heap.size ob (.slice none 0 0) [] [] :=
  ⟨⟨by simp, .inr ⟨w.heap.size, 1, _, rfl, hB, heap_alloc_new w _, Nat.le_refl _, by decide, by simp, by simp⟩⟩, kdb_alloc (fun u hu x e => by simp at hu; rcases hu with rfl | rfl <;> cases e), RowsW.nil _ _⟩

set_option maxRecDepth 100000 in
set_option maxHeartbeats 2000000 in
theorem newSum_any (ob vb voff vc : Nat) (p k0 k1 k2 : Int) (G : Ft → Prop) (sv vv : Value) (fs : List Ft) (w : World) (hob : OrdB w ob p k0 k1 k2 sv) (hp : 2 ≤ p ∧ p ≤ 101) (hv : w.cell? ⟨vb, voff, none⟩ = some vv) (hf : Fv w vv fs) (hrf : Rok p G [fs])
    (hG : ∀ x t, Alk x t → G t → G x) (hM : ∀ r, Dn r → (∀ t ∈ r, G t) → r.length ≤ 100000000000) :
    Calls Tryz.prog 22 #[.pointer (some ⟨ob, 0, none⟩), .slice (some ⟨vb, voff, none⟩) 1 vc] w fun e w' => e = .returned (.pointer (some ⟨w.heap.size, 0, none⟩)) ∧ ∃ rv us rows, SmD p G w.heap.size w' w.heap.size ob rv us rows (fun k => cnt k fs) ∧ Below w.heap.size w w' := by
  have HOB := hid hob
  have HF := hid hf
  have HV := hid hv
  have hobl := hob.lt
  obtain ⟨va, vcc, rfl, _, _⟩ := hf
  obtain ⟨w1, hw1⟩ : ∃ w1, w1 = w.alloc (.cells #[.pointer (some ⟨ob, 0, none⟩), .slice none 0 0] 109) := ⟨_, rfl⟩
  have HB1 : Hid (Below w.heap.size w w1) := by rw [hw1]; exact belowNew
  have HS1 : Hid (SumW w.heap.size w1 w.heap.size ob (.slice none 0 0) [] []) := by rw [hw1]; exact sum_new w ob _ (Nat.le_refl _)
  have HAD := hid (add_any w.heap.size w.heap.size ob p k0 k1 k2 G sv (.slice none 0 0) _ [] [] fs w1 HS1.out (by have := HB1.out.size; omega) (HOB.out.below HB1.out) (by omega) hp (by simp) (HF.out.below HB1.out) ⟨fun r hr => by simp at hr, fun r hr => by simp at hr, fun r hr => by simp at hr⟩ hrf hG hM)
  have c1 := cell_keep HV.out HB1.out
  clear hob hv hrf hG hM
  go_enter Tryz.func22, Tryz.ntmps22
  go_wp2_with fail
  rw [← hw1]
  clear hw1
  go_loopw [13] (fun i wr => (i = .int .i64 0 ∧ wr = w1) ∨ (i = .int .i64 1 ∧ ∃ rv us rows, SmD p G w.heap.size wr w.heap.size ob rv us rows (fun k => cnt k fs) ∧ Below w.heap.size w wr)) (fun i _ => 1 - (intOf i).toNat)
  case atStart => exact Or.inl ⟨rfl, rfl⟩
  case round =>
    rcases hrel with ⟨rfl, rfl⟩ | ⟨rfl, rv, us, rows, hsm, hb⟩
    · go_wp2_with (go_at_call 58; refine HAD.out.mono ?_; rintro e w9 ⟨rfl, rv9, us9, rows9, q1, q2, q3, q4, q5, q6⟩; have H9 : Hid (SmD p G w.heap.size w9 w.heap.size ob rv9 us9 rows9 (fun k => cnt k fs) ∧ Below w.heap.size w w9) := ⟨⟨q1, q2, q3, fun k => by have := q4 k; simpa [cnt] using this⟩, HB1.out.trans (q5.to_below HB1.out.size (fun x hx => by rcases hx with hx | hx; exact Nat.le_of_eq hx.symm; simp [Value.ownBlock] at hx))⟩; clear q1 q2 q3 q4 q5 q6)
      go_roundw
      case rel => exact Or.inr ⟨by go_num, rv9, us9, rows9, H9.out.1, H9.out.2⟩
      case measure => simp [intOf]
    · have HSM := hid (And.intro hsm hb)
      clear hsm hb
      go_wp2
      go_ret
      exact ⟨rfl, rv, us, rows, HSM.out.1, HSM.out.2⟩
def dvV (L : Ft) (rv : Value) (num inv : Int) : Value := .agg #[.int .i64 L.k, .int .u16 L.a, .int .u16 L.b, .int .u16 L.d, .int .u16 L.z, .int .u8 L.pl, .int .u8 L.c, rv, .int .i64 num, .int .u8 inv]
def lay10 (w : World) (g : Nat) (L : Ft) (rv : Value) (num inv : Int) : World := (((lay7 w g L).setCell ⟨g, 7, none⟩ rv).setCell ⟨g, 8, none⟩ (.int .i64 num)).setCell ⟨g, 9, none⟩ (.int .u8 inv)
theorem far10 {w : World} {g b o : Nat} {L : Ft} {rv : Value} {num inv : Int} (h : b ≠ g) : (lay10 w g L rv num inv).cell? ⟨b, o, none⟩ = w.cell? ⟨b, o, none⟩ := by
  have H : ∀ (w : World) (j : Nat) (u : Value), (w.setCell ⟨g, j, none⟩ u).cell? ⟨b, o, none⟩ = w.cell? ⟨b, o, none⟩ := fun w j u => World.cell?_setCell_far _ _ _ _ (fun e => h e.symm)
  unfold lay10 lay7
  simp only [H]
def Bx10 (B : Nat) (wr : World) (g : Nat) (xs : List Value) : Prop := wr.ownsRow B 71 10 (.slice (some ⟨g, 0, none⟩) 1 1) 1 xs
def encD (L : Ft) (rv : Value) (num inv : Int) : List Value := encF L ++ [rv, .int .i64 num, .int .u8 inv]
theorem Bx10.put {B : Nat} {wr : World} {g : Nat} {xs : List Value} (h : Bx10 B wr g xs) (L : Ft) (rv : Value) (num inv : Int) : Bx10 B (lay10 wr g L rv num inv) g (encD L rv num inv) ∧ wr.grownBy (lay10 wr g L rv num inv) (some g) := by
  have s1 := World.ownsRow.stored h 0 (.int .i64 L.k)
  have s2 := s1.1.stored 1 (.int .u16 L.a)
  have s3 := s2.1.stored 2 (.int .u16 L.b)
  have s4 := s3.1.stored 3 (.int .u16 L.d)
  have s5 := s4.1.stored 4 (.int .u16 L.z)
  have s6 := s5.1.stored 5 (.int .u8 L.pl)
  have s7 := s6.1.stored 6 (.int .u8 L.c)
  have s8 := s7.1.stored 7 rv
  have s9 := s8.1.stored 8 (.int .i64 num)
  have s10 := s9.1.stored 9 (.int .u8 inv)
  have hl : xs.length = 10 := h.1
  refine ⟨?_, grown_trans (grown_trans (grown_trans (grown_trans (grown_trans (grown_trans (grown_trans (grown_trans (grown_trans s1.2 s2.2) s3.2) s4.2) s5.2) s6.2) s7.2) s8.2) s9.2) s10.2⟩
  have e : (((((((((xs.set 0 (.int .i64 L.k)).set 1 (.int .u16 L.a)).set 2 (.int .u16 L.b)).set 3 (.int .u16 L.d)).set 4 (.int .u16 L.z)).set 5 (.int .u8 L.pl)).set 6 (.int .u8 L.c)).set 7 rv).set 8 (.int .i64 num)).set 9 (.int .u8 inv) = encD L rv num inv := by
    match xs, hl with
    | [_, _, _, _, _, _, _, _, _, _], _ => rfl
  have := s10.1
  rw [e] at this
  exact this

set_option maxRecDepth 100000 in
set_option maxHeartbeats 2000000 in
theorem newDivisor_any (ob : Nat) (p k0 k1 k2 num : Int) (sv vv : Value) (L : Ft) (r : List Ft) (w : World) (hob : OrdB w ob p k0 k1 k2 sv) (hpr : errP p = 0) (hc : 0 < L.c ∧ L.c < p) (hf : Fv w vv (L :: r)) :
    Calls Tryz.prog 57 #[.pointer (some ⟨ob, 0, none⟩), .int .i64 num, vv] w fun e w' => ∃ rv, e = .returned (dvV L rv num (invI p L.c)) ∧ Fv w' rv r ∧ Below w.heap.size w w' ∧ ∀ g, rv.ownBlock = some g → vv.ownBlock = some g := by
  obtain ⟨b, off, cap, rfl, hcap, hlt, hft, h1, h2⟩ := hf.head
  obtain ⟨A, hA, hplA⟩ := Fv.tail ⟨h1, h2⟩
  have HPA := hid hplA
  have HAB : Hid (A.block = b) := by
    show _ = _
    by_cases hc1 : cap = 1
    · rw [if_pos hc1] at hA; simp only [Option.some.injEq] at hA; rw [← hA]
    · rw [if_neg hc1] at hA; simp only [Option.some.injEq] at hA; rw [← hA]
  have HOB := hid hob
  have HFT := hid hft
  have hle : (1 : Int) ≤ (r.length : Int) + 1 := by omega
  obtain ⟨w1, hw1⟩ : ∃ w1, w1 = w.alloc (.cells #[.int .i64 0, .int .u16 0, .int .u16 0, .int .u16 0, .int .u16 0, .int .u8 0, .int .u8 0, .slice none 0 0, .int .i64 0, .int .u8 0] 71) := ⟨_, rfl⟩
  have HB1 : Hid (Below w.heap.size w w1) := by rw [hw1]; exact belowNew
  have HX1 : Hid (Bx10 w.heap.size w1 w.heap.size [.int .i64 0, .int .u16 0, .int .u16 0, .int .u16 0, .int .u16 0, .int .u8 0, .int .u8 0, .slice none 0 0, .int .i64 0, .int .u8 0]) := by
    rw [hw1]
    exact ⟨by simp, .inr ⟨w.heap.size, 1, _, rfl, Nat.le_refl _, heap_alloc_new w _, Nat.le_refl _, by decide, by simp, by simp⟩⟩
  have HIN : Hid (∀ W, Below w1.heap.size w1 W → Calls Tryz.prog 94 #[.pointer (some ⟨ob, 0, none⟩), .int .u8 L.c] W fun e w' => e = .returned (.int .u8 (invI p L.c)) ∧ Below W.heap.size W w') := fun W hb => flatInverse_any ob p k0 k1 k2 sv L.c W ((HOB.out.below HB1.out).below hb) hpr hc
  have KEEP : Hid (∀ W, Below w1.heap.size w1 W → W.cell? ⟨b, off, none⟩ = some (.int .i64 L.k) ∧ W.cell? ⟨b, off + 1, none⟩ = some (.int .u16 L.a) ∧ W.cell? ⟨b, off + 2, none⟩ = some (.int .u16 L.b) ∧ W.cell? ⟨b, off + 3, none⟩ = some (.int .u16 L.d) ∧ W.cell? ⟨b, off + 4, none⟩ = some (.int .u16 L.z) ∧ W.cell? ⟨b, off + 5, none⟩ = some (.int .u8 L.pl) ∧ W.cell? ⟨b, off + 6, none⟩ = some (.int .u8 L.c)) := fun W hb => (HFT.out.keep HB1.out).keep hb
  have KEEPS : Hid (∀ W, (W.cell? ⟨b, off, none⟩ = some (.int .i64 L.k) ∧ W.cell? ⟨b, off + 1, none⟩ = some (.int .u16 L.a) ∧ W.cell? ⟨b, off + 2, none⟩ = some (.int .u16 L.b) ∧ W.cell? ⟨b, off + 3, none⟩ = some (.int .u16 L.d) ∧ W.cell? ⟨b, off + 4, none⟩ = some (.int .u16 L.z) ∧ W.cell? ⟨b, off + 5, none⟩ = some (.int .u8 L.pl) ∧ W.cell? ⟨b, off + 6, none⟩ = some (.int .u8 L.c)) → (lay10 W w.heap.size L (.slice (some A) r.length (cap - 1)) num (invI p L.c)).cell? ⟨b, off, none⟩ = some (.int .i64 L.k) ∧ (lay10 W w.heap.size L (.slice (some A) r.length (cap - 1)) num (invI p L.c)).cell? ⟨b, off + 1, none⟩ = some (.int .u16 L.a) ∧ (lay10 W w.heap.size L (.slice (some A) r.length (cap - 1)) num (invI p L.c)).cell? ⟨b, off + 2, none⟩ = some (.int .u16 L.b) ∧ (lay10 W w.heap.size L (.slice (some A) r.length (cap - 1)) num (invI p L.c)).cell? ⟨b, off + 3, none⟩ = some (.int .u16 L.d) ∧ (lay10 W w.heap.size L (.slice (some A) r.length (cap - 1)) num (invI p L.c)).cell? ⟨b, off + 4, none⟩ = some (.int .u16 L.z) ∧ (lay10 W w.heap.size L (.slice (some A) r.length (cap - 1)) num (invI p L.c)).cell? ⟨b, off + 5, none⟩ = some (.int .u8 L.pl) ∧ (lay10 W w.heap.size L (.slice (some A) r.length (cap - 1)) num (invI p L.c)).cell? ⟨b, off + 6, none⟩ = some (.int .u8 L.c)) := fun W h => by
    simp only [far10 (show b ≠ w.heap.size by omega)]
    exact h
  have CE : Hid (∀ W, Below w1.heap.size w1 W → Bx10 w.heap.size W w.heap.size [.int .i64 0, .int .u16 0, .int .u16 0, .int .u16 0, .int .u16 0, .int .u8 0, .int .u8 0, .slice none 0 0, .int .i64 0, .int .u8 0]) := fun W hb => ownBlock_lt HX1.out hb
  unfold lay10 lay7 at KEEPS
  have HB0 : Hid (Below w1.heap.size w1 w1.drew) := (Below.refl _ _).drew
  clear hf hft h1 h2 hplA hob hpr hc
  go_enter Tryz.func57, Tryz.ntmps57
  go_wp2_with fail
  rw [← hw1]
  clear hw1
  go_region_held (fun W => W.cell? ⟨b, off, none⟩ = some (.int .i64 L.k) ∧ W.cell? ⟨b, off + 1, none⟩ = some (.int .u16 L.a) ∧ W.cell? ⟨b, off + 2, none⟩ = some (.int .u16 L.b) ∧ W.cell? ⟨b, off + 3, none⟩ = some (.int .u16 L.d) ∧ W.cell? ⟨b, off + 4, none⟩ = some (.int .u16 L.z) ∧ W.cell? ⟨b, off + 5, none⟩ = some (.int .u8 L.pl) ∧ W.cell? ⟨b, off + 6, none⟩ = some (.int .u8 L.c))
    (first | with_reducible exact KEEP.out _ HB0.out | with_reducible exact KEEP.out _ HB8.out | with_reducible exact KEEPS.out w8 (KEEP.out _ HB8.out))
    (first
      | (go_at_call 94; refine (HIN.out _ HB0.out).mono ?_; rintro e w8 ⟨rfl, hb8⟩; have HB8 := hid (HB0.out.trans (hb8.mono HB0.out.size)); have HX8 := hid (CE.out _ HB8.out); have y0 := World.ownsRow.cellAt HX8.out 0 (by omega); have y1 := World.ownsRow.cellAt HX8.out 1 (by omega); have y2 := World.ownsRow.cellAt HX8.out 2 (by omega); have y3 := World.ownsRow.cellAt HX8.out 3 (by omega); have y4 := World.ownsRow.cellAt HX8.out 4 (by omega); have y5 := World.ownsRow.cellAt HX8.out 5 (by omega); have y6 := World.ownsRow.cellAt HX8.out 6 (by omega); have y7 := World.ownsRow.cellAt HX8.out 7 (by omega); have y8 := World.ownsRow.cellAt HX8.out 8 (by omega); have y9 := World.ownsRow.cellAt HX8.out 9 (by omega); have z0 := World.ownsRow.frozenAt HX8.out 0; have z1 := World.ownsRow.frozenAt HX8.out 1; have z2 := World.ownsRow.frozenAt HX8.out 2; have z3 := World.ownsRow.frozenAt HX8.out 3; have z4 := World.ownsRow.frozenAt HX8.out 4; have z5 := World.ownsRow.frozenAt HX8.out 5; have z6 := World.ownsRow.frozenAt HX8.out 6; have z7 := World.ownsRow.frozenAt HX8.out 7; have z8 := World.ownsRow.frozenAt HX8.out 8; have z9 := World.ownsRow.frozenAt HX8.out 9; clear hb8))
  all_goals
    have HP := hid (HX8.out.put L (.slice (some A) r.length (cap - 1)) num (invI p L.c))
    have x0 := World.ownsRow.cellAt HP.out.1 0 (by omega)
    have x1 := World.ownsRow.cellAt HP.out.1 1 (by omega)
    have x2 := World.ownsRow.cellAt HP.out.1 2 (by omega)
    have x3 := World.ownsRow.cellAt HP.out.1 3 (by omega)
    have x4 := World.ownsRow.cellAt HP.out.1 4 (by omega)
    have x5 := World.ownsRow.cellAt HP.out.1 5 (by omega)
    have x6 := World.ownsRow.cellAt HP.out.1 6 (by omega)
    have x7 := World.ownsRow.cellAt HP.out.1 7 (by omega)
    have x8 := World.ownsRow.cellAt HP.out.1 8 (by omega)
    have x9 := World.ownsRow.cellAt HP.out.1 9 (by omega)
    have HBF : Hid (Below w.heap.size w (lay10 w8 w.heap.size L (.slice (some A) r.length (cap - 1)) num (invI p L.c))) := HB1.out.trans ((HB8.out.mono HB1.out.size).trans (grown_below HP.out.2 (Nat.le_refl _) (by have := HB1.out.size; have := HB8.out.size; omega)))
    have HFN := hid (HPA.out.below HBF.out)
    unfold lay10 lay7 at x0 x1 x2 x3 x4 x5 x6 x7 x8 x9 HBF HFN
    simp only [encD, encF, List.cons_append, List.nil_append, List.getElem?_cons_zero, List.getElem?_cons_succ] at x0 x1 x2 x3 x4 x5 x6 x7 x8 x9
    go_wp2
    refine bodyPost_ret (v := dvV L (.slice (some A) r.length (cap - 1)) num (invI p L.c)) (by simp [results, Tryz.results57, go_sem, x0, x1, x2, x3, x4, x5, x6, x7, x8, x9, dvV]) rfl ⟨_, rfl, HFN.out, HBF.out, fun g hg => by simp only [Value.ownBlock, Option.some.injEq] at hg ⊢; rw [← hg, HAB.out]⟩
abbrev De := Nat × Ft × List Ft × Value
def dvr (d : De) : Dvr := (d.1, d.2.1, d.2.2.1)
def encE (p : Int) (d : De) : List Value := encD d.2.1 d.2.2.2 d.1 (invI p d.2.1.c)
def flatE (p : Int) (ds : List De) : List Value := ds.flatMap (encE p)
theorem encE_len (p : Int) (d : De) : (encE p d).length = 10 := rfl
theorem flatE_cons (p : Int) (d : De) (ds : List De) : flatE p (d :: ds) = encE p d ++ flatE p ds := rfl
theorem flatE_snoc (p : Int) (ds : List De) (d : De) : flatE p (ds ++ [d]) = flatE p ds ++ encE p d := by
  unfold flatE; rw [List.flatMap_append]; simp
theorem flatE_at (p : Int) : ∀ (ds : List De) (k j : Nat) (h : k < ds.length), j < 10 → (flatE p ds)[k * 10 + j]? = (encE p ds[k])[j]?
  | d :: ds, 0, j, _, hj => by
    rw [flatE_cons, List.getElem?_append_left (by rw [encE_len]; omega)]; simp
  | d :: ds, k + 1, j, h, hj => by
    rw [flatE_cons, List.getElem?_append_right (by rw [encE_len]; omega), encE_len, show (k + 1) * 10 + j - 10 = k * 10 + j by omega, flatE_at p ds k j (by simpa using h) hj]; simp
structure DvsW (p : Int) (B : Nat) (w : World) (v : Value) (ds : List De) : Prop where
  own : w.ownsRow B 71 10 v ds.length (flatE p ds)
  fvs : ∀ d ∈ ds, Fv w d.2.2.2 d.2.2.1
  apart : ∀ d ∈ ds, ∀ b, d.2.2.2.ownBlock = some b → v.ownBlock ≠ some b ∧ b < w.heap.size
theorem DvsW.next {p : Int} {B : Nat} {w w' : World} {v : Value} {ds : List De} (h : DvsW p B w v ds) (hb : Below w.heap.size w w') : DvsW p B w' v ds :=
  ⟨ownBlock_lt h.own hb, fun d hd => (h.fvs d hd).below hb, fun d hd b hb2 => ⟨(h.apart d hd b hb2).1, Nat.lt_of_lt_of_le (h.apart d hd b hb2).2 hb.size⟩⟩
theorem DvsW.nil (p : Int) (B : Nat) (w : World) : DvsW p B w (.slice none 0 0) [] :=
  ⟨World.ownsRow_nil _ _ _ _, fun d hd => by simp at hd, fun d hd => by simp at hd⟩
theorem DvsW.at {p : Int} {B : Nat} {w : World} {v : Value} {ds : List De} (h : DvsW p B w v ds) (k : Nat) (hk : k < ds.length) : ∃ g c, v = .slice (some ⟨g, 0, none⟩) ds.length c ∧ g < w.heap.size ∧ DivB w g (k * 10) ds[k].2.1 ds[k].2.2.2 ds[k].1 (invI p ds[k].2.1.c) := by
  rcases h.own.2 with ⟨_, h0⟩ | ⟨g, cap, cur, rfl, _⟩
  · omega
  · have hlt := (World.ownsRow.lt h.own g rfl).2
    have hc : ∀ j, j < 10 → w.cell? ⟨g, k * 10 + j, none⟩ = (encE p ds[k])[j]? := fun j hj => by
      rw [World.ownsRow.cellAt h.own (k * 10 + j) (by omega), flatE_at p ds k j hk hj]
    refine ⟨g, cap, rfl, hlt, hlt, fun j u hj => ?_, hc 7 (by omega), hc 8 (by omega), hc 9 (by omega)⟩
    have hjl : j < 7 := by
      have := (List.getElem?_eq_some_iff.1 hj).1
      simpa [encF] using this
    rw [hc j (by omega)]
    unfold encE encD
    rw [List.getElem?_append_left (by simpa [encF] using hjl)]
    exact hj
theorem Tryz.infoDv : (Tryz.prog.info? 71).map (fun i => (i.zero, i.size, i.bytes)) = some (some (.agg #[.int .i64 0, .int .u16 0, .int .u16 0, .int .u16 0, .int .u16 0, .int .u8 0, .int .u8 0, .slice none 0 0, .int .i64 0, .int .u8 0]), 10, 64) := by kernel_rfl
theorem encE_one {p : Int} {d : De} {w : World} (h : Fv w d.2.2.2 d.2.2.1) : ∀ u ∈ encE p d, u.oneCell' = true := by
  obtain ⟨a, c, e, _⟩ := h
  intro u hu
  simp only [encE, encD, encF, List.cons_append, List.nil_append, List.mem_cons, List.not_mem_nil, or_false] at hu
  rcases hu with rfl | rfl | rfl | rfl | rfl | rfl | rfl | rfl | rfl | rfl <;> first | rfl | (rw [e]; rfl)
theorem wpList_append_dv {ops : Array Oper} {rest : List Oper} {w : World} {o : Oper} {a : Act} {Q : Exit → Act → World → Prop} (hgd : o.guard = none) (s x : Operand) (t : TypeId)
    (ho : o.op = .call { callee := .builtin .append, args := #[s, x], argTypes := #[t, t] }) (ht : Tryz.prog.underlying t = some (.slice 71))
    (p : Int) (B : Nat) (v : Value) (ds : List De) (d : De) (hs : a.eval s = v) (h : DvsW p B w v ds) (hd : Fv w d.2.2.2 d.2.2.1) (hdl : ∀ b, d.2.2.2.ownBlock = some b → v.ownBlock ≠ some b ∧ b < w.heap.size) (ad : Addr) (c : Nat) (hx : a.eval x = .slice (some ad) 1 c)
    (hnew : ∀ j y, (encE p d)[j]? = some y → w.cell? (ad.add j) = some y) (hn : ds.length ≤ 1000) (hB : B ≤ w.heap.size)
    (hK : ∀ v' w', DvsW p B w' v' (ds ++ [d]) → w.grownBy w' v.ownBlock → wpList Tryz.prog ops Q rest (a.put o.dst v') w') : wpList Tryz.prog ops Q (o :: rest) a w := by
  refine wpList_plain hgd fun K hK' => ?_
  obtain ⟨i0, hi, hz0, hz1, hz2⟩ := info_parts Tryz.infoDv
  obtain ⟨v', w', hr, h2, h3, h4, h5⟩ := run_append_kdb (P := Tryz.prog) w (fun _ => True) B t o.type 71 i0 _ 10 64 ht hi hz0 hz1 hz2 rfl (by decide) (fun _ _ => trivial) v ds.length (flatE p ds) h.own (fun _ _ _ _ _ => trivial) ad 1 c (encE p d) (by decide) rfl hnew (encE_one hd) (fun _ _ => trivial) (by unfold maxLen; omega) (by omega) hB
  have hall : ∀ e ∈ ds ++ [d], Fv w e.2.2.2 e.2.2.1 ∧ ∀ b, e.2.2.2.ownBlock = some b → v.ownBlock ≠ some b ∧ b < w.heap.size := fun e he => by
    rcases List.mem_append.1 he with he | he
    · exact ⟨h.fvs e he, h.apart e he⟩
    · rw [List.mem_singleton] at he; subst he; exact ⟨hd, hdl⟩
  have hD : DvsW p B w' v' (ds ++ [d]) := by
    refine ⟨by rw [flatE_snoc, List.length_append]; exact h2, fun e he => ?_, fun e he b hb => ?_⟩
    · obtain ⟨hf, hl⟩ := hall e he
      obtain ⟨a1, cap, e1, hc, h6⟩ := hf
      refine ⟨a1, cap, e1, hc, fun hp => ?_⟩
      obtain ⟨b, off, e2, hlt, hcs⟩ := h6 hp
      have hbl := hl b (by rw [e1, e2]; rfl)
      exact ⟨b, off, e2, Nat.lt_of_lt_of_le hlt h3.size, fun j u hj => h3.cell (hcs j u hj) (fun e => hbl.1 e.symm)⟩
    · obtain ⟨_, hl⟩ := hall e he
      have hbl := hl b hb
      refine ⟨fun e6 => ?_, Nat.lt_of_lt_of_le hbl.2 h3.size⟩
      rcases h5 with h5 | h5
      · rw [h5] at e6; exact hbl.1 e6
      · rw [h5] at e6; simp only [Option.some.injEq] at e6; omega
  unfold Oper.wp execOp
  simp only [ho, resolve, invoke, builtin, Sem.run_bind, Sem.run_pure, Result.andThen_ok, List.map_toArray, List.map_cons, List.map_nil, hs, hx, hr]
  exact hK' _ _ (hK v' w' hD h3)
structure OrC (w : World) (ob : Nat) (p o ov : Int) (N R : Nat) (sv : Value) : Prop where
  ord : OrdB w ob p (WtN o N N 0) (WtN o N N 1) (WtN o N N 2) sv
  sl : Sl w sv (stL ov R)
theorem OrC.below {w w' : World} {ob : Nat} {p o ov : Int} {N R : Nat} {sv : Value} (h : OrC w ob p o ov N R sv) (hb : Below w.heap.size w w') : OrC w' ob p o ov N R sv := ⟨h.ord.below hb, h.sl.below hb⟩
theorem wtN_bd (o : Int) (N i : Nat) : 0 ≤ WtN o N N i ∧ WtN o N N i ≤ 137438953472 := by
  unfold WtN WtK W0 W1 W2
  split
  · split
    · split <;> omega
    · split
      · split <;> omega
      · split <;> omega
  · omega
theorem stL_bd {ov : Int} {R : Nat} (hR : R ≤ 40) : ∀ s ∈ stL ov R, -600000000000000000 ≤ s ∧ s ≤ 600000000000000000 := by
  intro s hs
  simp only [stL, List.mem_map, List.mem_range] at hs
  obtain ⟨i, hi, rfl⟩ := hs
  unfold stK; split <;> omega
theorem right_vok {p o : Int} {N : Nat} {v : List (List Tm)} (h : ∀ f ∈ v, Right p o N f) : Vok p o N (fun _ => 200) v := by
  refine ⟨fun i => ?_, fun i t ht x hx => ?_, fun i t ht => ?_⟩ <;> rcases getD_mem_or v i with e | hm
  · rw [e]; exact (emptyRight p o N).canon
  · exact (h _ hm).canon
  · rw [e] at ht; simp at ht
  · exact ((h _ hm).bd t ht x hx).1
  · rw [e] at ht; simp at ht
  · exact (h _ hm).deg t ht
theorem orderVec_any (ob : Nat) (p o ov : Int) (N R : Nat) (sv x : Value) (v : List (List Tm)) (w : World) (hx : RCx p o ov N R) (hoc : OrC w ob p o ov N R sv) (hl : v.length = R) (hr : ∀ f ∈ v, Right p o N f) (hv : Vl w x v) :
    Calls Tryz.prog 23 #[.pointer (some ⟨ob, 0, none⟩), .int .i64 0, x] w fun e w' => ∃ u fs, e = .returned u ∧ Fv w' u fs ∧ FlR p o ov N R 200 v fs ∧ Below w.heap.size w w' ∧ ∀ b, u.ownBlock = some b → w.heap.size ≤ b := by
  have hp := errP_bd hx.pr
  have hls : (stL ov R).length = R := by simp [stL]
  have hR := hx.r
  refine (orderVector_any ob p _ _ _ sv x (stL ov R) v N w hoc.ord hoc.sl (by omega) (by omega) (stL_bd hx.r) (wtN_bd o N 0) (wtN_bd o N 1) (wtN_bd o N 2) hx.n0 hx.n3 (fun f hf => ⟨(hr f hf).len, fun t ht => ⟨(hr f hf).canon.len t ht, fun y hy => ?_, ?_⟩⟩) hv).mono ?_
  · have := (hr f hf).bd t ht y hy; omega
  · have := (hr f hf).canon.coef t ht; omega
  · rintro e w' ⟨u, fs, rfl, h1, h2, h3, h4, h5⟩
    rw [hl, allF_flV R (Nat.le_refl _)] at h2
    exact ⟨u, fs, rfl, h1, flr_of hx (right_vok hr) hl h2 h3, h4, h5⟩
theorem ten_new (w : World) (L : Ft) (rv : Value) (num inv : Int) (T : TypeId) : ∀ j u, (encD L rv num inv)[j]? = some u → (w.alloc (.cells #[.int .i64 L.k, .int .u16 L.a, .int .u16 L.b, .int .u16 L.d, .int .u16 L.z, .int .u8 L.pl, .int .u8 L.c, rv, .int .i64 num, .int .u8 inv] T)).cell? ((⟨w.heap.size, 0, none⟩ : Addr).add j) = some u := by
  intro j u hj
  have hadd : (⟨w.heap.size, 0, none⟩ : Addr).add j = ⟨w.heap.size, j, none⟩ := by unfold Addr.add; split <;> simp_all
  rw [hadd, cell_of_row _ w.heap.size j _ T (0, 0) (heap_alloc_new w _)]
  have : (encD L rv num inv) = (#[.int .i64 L.k, .int .u16 L.a, .int .u16 L.b, .int .u16 L.d, .int .u16 L.z, .int .u8 L.pl, .int .u8 L.c, rv, .int .i64 num, .int .u8 inv] : Array Value).toList := rfl
  rw [this] at hj
  simpa using hj
structure DoW (p o ov : Int) (N R : Nat) (lss : List (List (List Tm))) (w wr : World) (m : Nat) (v : Value) (ds : List De) (fls : List (List Ft)) : Prop where
  dvs : DvsW p w.heap.size wr v ds
  made : ds.map dvr = mkD 0 fls
  len : fls.length = m
  flr : ∀ i, i < m → FlR p o ov N R 200 (lss.getD i []) (fls.getD i [])
  below : Below w.heap.size w wr
theorem mkD_len : ∀ (fls : List (List Ft)) (n : Nat), (mkD n fls).length ≤ fls.length
  | [], n => by simp [mkD]
  | [] :: fls, n => by have := mkD_len fls (n + 1); simp only [mkD, List.length_cons]; omega
  | (L :: r) :: fls, n => by have := mkD_len fls (n + 1); simp only [mkD, List.length_cons]; omega
theorem DoW.dlen {p o ov : Int} {N R : Nat} {lss : List (List (List Tm))} {w wr : World} {m : Nat} {v : Value} {ds : List De} {fls : List (List Ft)} (h : DoW p o ov N R lss w wr m v ds fls) : ds.length ≤ m := by
  have h1 := congrArg List.length h.made
  have h2 := mkD_len fls 0
  rw [List.length_map] at h1
  have := h.len; omega
theorem DoW.next {p o ov : Int} {N R : Nat} {lss : List (List (List Tm))} {w wr w' : World} {m : Nat} {v : Value} {ds : List De} {fls : List (List Ft)} (h : DoW p o ov N R lss w wr m v ds fls) (hb : Below wr.heap.size wr w') : DoW p o ov N R lss w w' m v ds fls :=
  ⟨h.dvs.next hb, h.made, h.len, h.flr, h.below.trans (hb.mono h.below.size)⟩
theorem flr_snoc {p o ov : Int} {N R : Nat} {lss : List (List (List Tm))} {m : Nat} {fls : List (List Ft)} {f : List Ft} (hl : fls.length = m) (h : ∀ i, i < m → FlR p o ov N R 200 (lss.getD i []) (fls.getD i [])) (hf : FlR p o ov N R 200 (lss.getD m []) f) : ∀ i, i < m + 1 → FlR p o ov N R 200 (lss.getD i []) ((fls ++ [f]).getD i []) := by
  intro i hi
  rcases Nat.lt_succ_iff_lt_or_eq.1 hi with hl2 | rfl
  · rw [List.getD_eq_getElem?_getD (l := fls ++ [f]), List.getElem?_append_left (by omega), ← List.getD_eq_getElem?_getD]; exact h i hl2
  · rw [List.getD_eq_getElem?_getD (l := fls ++ [f]), List.getElem?_append_right (by omega), hl]; simpa using hf
theorem DoW.none {p o ov : Int} {N R : Nat} {lss : List (List (List Tm))} {w wr : World} {m : Nat} {v : Value} {ds : List De} {fls : List (List Ft)} (h : DoW p o ov N R lss w wr m v ds fls) (hf : FlR p o ov N R 200 (lss.getD m []) []) : DoW p o ov N R lss w wr (m + 1) v ds (fls ++ [[]]) :=
  ⟨h.dvs, by rw [mkD_snoc, h.made]; simp [mkD], by simp [h.len], flr_snoc h.len h.flr hf, h.below⟩
theorem DoW.one {p o ov : Int} {N R : Nat} {lss : List (List (List Tm))} {w wr w2 : World} {m : Nat} {v v2 : Value} {ds : List De} {fls : List (List Ft)} {L : Ft} {r : List Ft} {rv : Value} (h : DoW p o ov N R lss w wr m v ds fls) (hf : FlR p o ov N R 200 (lss.getD m []) (L :: r)) (hd : DvsW p w.heap.size w2 v2 (ds ++ [(m, L, r, rv)])) (hg : wr.grownBy w2 v.ownBlock) : DoW p o ov N R lss w w2 (m + 1) v2 (ds ++ [(m, L, r, rv)]) (fls ++ [L :: r]) := by
  refine ⟨hd, ?_, by simp [h.len], flr_snoc h.len h.flr hf, own_grown h.dvs.own h.below hg (Nat.le_refl _)⟩
  rw [mkD_snoc, List.map_append, h.made, Nat.zero_add, h.len]; simp [mkD, dvr]

set_option maxRecDepth 100000 in
set_option maxHeartbeats 2000000 in
theorem divisorsOf_any (ob : Nat) (p o ov : Int) (N R : Nat) (sv x : Value) (lss : List (List (List Tm))) (w : World) (hx : RCx p o ov N R) (hoc : OrC w ob p o ov N R sv) (hll : lss.length ≤ 60) (hl : ∀ g ∈ lss, g.length = R) (hr : ∀ g ∈ lss, ∀ f ∈ g, Right p o N f) (hv : Wl w x lss) :
    Calls Tryz.prog 18 #[.pointer (some ⟨ob, 0, none⟩), x] w fun e w' => ∃ v, e = .returned v ∧ ∃ ds fls, DoW p o ov N R lss w w' lss.length v ds fls := by
  have HX := hid hv
  have HRC := hid hx
  have HOC := hid hoc
  have HL := hid hl
  have HR := hid hr
  obtain ⟨xa, xc, rfl, _⟩ := hv
  clear hoc hl hr hx
  go_enter Tryz.func18, Tryz.ntmps18
  go_wp2_with fail
  go_loopw [5, 11] (fun v i wr => ∃ (m : Nat) (v1 : Value) (ds : List De) (fls : List (List Ft)), v1 = v ∧ m ≤ lss.length ∧ i = .int .i64 m ∧ DoW p o ov N R lss w wr m v1 ds fls) (fun _ i _ => lss.length - (intOf i).toNat)
  case atStart => exact ⟨0, _, [], [], rfl, Nat.zero_le _, rfl, DvsW.nil _ _ _, rfl, rfl, fun i hi => by omega, Below.refl _ _⟩
  case round =>
    obtain ⟨m, v1, ds, fls, hv1, hm, rfl, hw⟩ := hrel
    subst hv1
    have HW := hid hw
    have HDL := hid hw.dlen
    clear hw
    by_cases hm2 : m < lss.length
    · obtain ⟨b, off, va, vc, rfl, hlt, c0, hvl⟩ := wl_at HX.out m hm2
      have hmem := getD_memL lss m hm2
      obtain ⟨gg, hgg⟩ : ∃ gg, lss.getD m [] = gg := ⟨_, rfl⟩
      have HGG := hid hgg
      rw [hgg] at c0 hvl hmem
      clear hgg
      have z0 := cell_keep c0 HW.out.below
      have HOV := hid (orderVec_any ob p o ov N R sv (.slice va gg.length vc) gg wr HRC.out (HOC.out.below HW.out.below) (HL.out _ hmem) (HR.out _ hmem) (hvl.below HW.out.below))
      clear hvl hmem
      go_upto_region 6 with (go_at_call 23; refine HOV.out.mono ?_; rintro e w2 ⟨u2, fs2, rfl, q1, q2, q3, q4⟩; have HF2 := hid q1; have HFL := hid q2; have HB2 := hid q3; have HGE := hid q4; clear q1 q2 q3 q4)
      have HW2 := hid (HW.out.next HB2.out)
      rw [← HGG.out] at HFL
      cases fs2 with
      | nil =>
        obtain ⟨ua, uc, hu, _, _⟩ := HF2.out
        subst hu
        go_wp2
        go_roundw
        case rel => exact ⟨m + 1, _, ds, fls ++ [[]], rfl, by omega, by go_num, HW2.out.none HFL.out⟩
        case measure => simp [intOf]; omega
      | cons L r =>
        have HND : Hid (Calls Tryz.prog 57 #[.pointer (some ⟨ob, 0, none⟩), .int .i64 m, u2] w2 fun e w' => ∃ rv, e = .returned (dvV L rv m (invI p L.c)) ∧ Fv w' rv r ∧ Below w2.heap.size w2 w' ∧ ∀ g, rv.ownBlock = some g → u2.ownBlock = some g) :=
          newDivisor_any ob p _ _ _ m sv u2 L r w2 ((HOC.out.below HW2.out.below).ord) HRC.out.pr (HFL.out.co L (by simp)) HF2.out
        have HVL := hid (HF2.out.vlt (by simp))
        unfold dvV at HND
        have APT : Hid (∀ w3, Below w2.heap.size w2 w3 → ∀ rv : Value, (∀ g, rv.ownBlock = some g → u2.ownBlock = some g) → ∀ b, rv.ownBlock = some b → v1.ownBlock ≠ some b ∧ b < w3.heap.size) := fun w3 h3 rv hg b hb => by
          have h5 := HGE.out b (hg b hb)
          have h6 := HVL.out b (hg b hb)
          refine ⟨fun e => ?_, Nat.lt_of_lt_of_le h6 h3.size⟩
          have := (World.ownsRow.lt HW.out.dvs.own b e).2
          omega
        obtain ⟨ub, uof, ucap, hu, _⟩ := HF2.out.head
        subst hu
        go_wp2_with (first
          | (go_at_call 57; refine HND.out.mono ?_; rintro e w3 ⟨rv3, rfl, q1, q2, q3⟩; have HF3 := hid q1; have HB3 := hid q2; have HG3 := hid q3; clear q1 q2 q3; obtain ⟨ra3, rc3, hr3, _, _⟩ := HF3.out; subst hr3; have HAP3 := hid (APT.out w3 HB3.out _ HG3.out); have HW3 := hid ((HW2.out.next HB3.out).next (belowNew (A := .cells #[.int .i64 L.k, .int .u16 L.a, .int .u16 L.b, .int .u16 L.d, .int .u16 L.z, .int .u8 L.pl, .int .u8 L.c, .slice ra3 r.length rc3, .int .i64 m, .int .u8 (invI p L.c)] 71))))
          | (at_builtin; refine wpList_append_dv rfl (.tmp 22) (.tmp 27) 45 rfl Tryz.underlying45 p w.heap.size _ ds (m, L, r, .slice ra3 r.length rc3) rfl HW3.out.dvs (HF3.out.below belowNew) (fun b hb => ⟨(HAP3.out b hb).1, by simp; have := (HAP3.out b hb).2; omega⟩) ⟨w3.heap.size, 0, none⟩ 1 rfl (ten_new _ _ _ _ _ _) (by have := HDL.out; omega) HW3.out.below.size ?_; intro v4 w4 q1 q2; have HD4 := hid (HW3.out.one HFL.out q1 q2); clear q1 q2))
        go_roundw
        case rel => exact ⟨m + 1, _, ds ++ [(m, L, r, .slice ra3 r.length rc3)], fls ++ [L :: r], rfl, by omega, by go_num, HD4.out⟩
        case measure => simp [intOf]; omega
    · have e : m = lss.length := by omega
      subst e
      go_wp2
      go_ret
      exact ⟨_, rfl, ds, fls, HW.out⟩
def fI (t : Ft) (ds : List De) : Option Nat := ds.findIdx? fun d => intoF d.2.1 t
def ptrD (v : Value) (k : Option Nat) : Value := .pointer (k.map fun k => ⟨v.ownBlock.getD 0, k * 10, none⟩)

set_option maxRecDepth 100000 in
set_option maxHeartbeats 2000000 in
theorem first_any (p : Int) (B : Nat) (v : Value) (ds : List De) (t : Ft) (w : World) (hd : DvsW p B w v ds) (hn : ds.length ≤ 1000) :
    Calls Tryz.prog 26 #[v, ftV t] w fun e w' => e = .returned (ptrD v (fI t ds)) ∧ Below w.heap.size w w' := by
  have HD := hid hd
  obtain ⟨va, vc, rfl⟩ := own_sl hd.own
  obtain ⟨w1, hw1⟩ : ∃ w1, w1 = w.alloc (.cells #[.int .i64 t.k, .int .u16 t.a, .int .u16 t.b, .int .u16 t.d, .int .u16 t.z, .int .u8 t.pl, .int .u8 t.c] 52) := ⟨_, rfl⟩
  have HB1 : Hid (Below w.heap.size w w1) := by rw [hw1]; exact belowNew
  have HX1 : Hid (Bx w.heap.size w1 w.heap.size t) := by rw [hw1]; exact box7 (Nat.le_refl _) t
  clear hd
  unfold ftV
  go_enter Tryz.func26, Tryz.ntmps26
  go_wp2_with fail
  rw [← hw1]
  clear hw1
  go_loopw [8] (fun i wr => ∃ m : Nat, m ≤ ds.length ∧ i = .int .i64 m ∧ (∀ j (h : j < ds.length), j < m → intoF ds[j].2.1 t = false) ∧ Below w1.heap.size w1 wr) (fun i _ => ds.length - (intOf i).toNat)
  case atStart => exact ⟨0, Nat.zero_le _, rfl, fun j _ h => by omega, Below.refl _ _⟩
  case round =>
    obtain ⟨m, hm, rfl, hno, hbr⟩ := hrel
    have HNO := hid hno
    have HBR := hid hbr
    clear hno hbr
    by_cases hm2 : m < ds.length
    · have HBT := hid (HB1.out.trans (HBR.out.mono HB1.out.size))
      obtain ⟨g, c, e, hlt, hdb⟩ := (HD.out.next HBT.out).at m hm2
      simp only [Value.slice.injEq] at e
      obtain ⟨rfl, _, rfl⟩ := e
      have HDB := hid hdb
      have HXR := hid (HX1.out.below HBR.out)
      have HIN : Hid (∀ W, Below wr.heap.size wr W → Calls Tryz.prog 66 #[.pointer (some ⟨g, m * 10, none⟩), ftV t] W fun e w' => e = .returned (.bool (intoF ds[m].2.1 t)) ∧ Below W.heap.size W w') := fun W hb => divInto_any g (m * 10) ds[m].2.1 t _ _ _ W (HDB.out.below hb)
      unfold ftV at HIN
      have KEEP : Hid (∀ W, Below wr.heap.size wr W → (Hid (Below wr.heap.size wr W) ∧ W.cell? ⟨w.heap.size, 0, none⟩ = some (.int .i64 t.k) ∧ W.cell? ⟨w.heap.size, 1, none⟩ = some (.int .u16 t.a) ∧ W.cell? ⟨w.heap.size, 2, none⟩ = some (.int .u16 t.b) ∧ W.cell? ⟨w.heap.size, 3, none⟩ = some (.int .u16 t.d) ∧ W.cell? ⟨w.heap.size, 4, none⟩ = some (.int .u16 t.z) ∧ W.cell? ⟨w.heap.size, 5, none⟩ = some (.int .u8 t.pl) ∧ W.cell? ⟨w.heap.size, 6, none⟩ = some (.int .u8 t.c))) := fun W hb => by
        obtain ⟨y0, y1, y2, y3, y4, y5, y6⟩ := HXR.out.at.keep hb
        simp only [Nat.zero_add] at y0 y1 y2 y3 y4 y5 y6
        exact ⟨hb, y0, y1, y2, y3, y4, y5, y6⟩
      have HB0 : Hid (Below wr.heap.size wr wr.drew) := (Below.refl _ _).drew
      have HFI : Hid (intoF ds[m].2.1 t = true → fI t ds = some m) := fun h => by
        unfold fI
        rw [List.findIdx?_eq_some_iff_getElem]
        exact ⟨hm2, h, fun j hj => by have := HNO.out j (by omega) hj; simp [this]⟩
      have HNX : Hid (intoF ds[m].2.1 t = false → ∀ j (h : j < ds.length), j < m + 1 → intoF ds[j].2.1 t = false) := fun h j hj hjm => by
        rcases Nat.lt_succ_iff_lt_or_eq.1 hjm with h2 | rfl
        · exact HNO.out j hj h2
        · exact h
      generalize intoF ds[m].2.1 t = bb at HIN HFI HNX
      go_wp2_with fail
      go_region_held (fun W => Hid (Below wr.heap.size wr W) ∧ W.cell? ⟨w.heap.size, 0, none⟩ = some (.int .i64 t.k) ∧ W.cell? ⟨w.heap.size, 1, none⟩ = some (.int .u16 t.a) ∧ W.cell? ⟨w.heap.size, 2, none⟩ = some (.int .u16 t.b) ∧ W.cell? ⟨w.heap.size, 3, none⟩ = some (.int .u16 t.d) ∧ W.cell? ⟨w.heap.size, 4, none⟩ = some (.int .u16 t.z) ∧ W.cell? ⟨w.heap.size, 5, none⟩ = some (.int .u8 t.pl) ∧ W.cell? ⟨w.heap.size, 6, none⟩ = some (.int .u8 t.c))
        (first | exact KEEP.out _ HB0.out | exact KEEP.out _ HB9.out)
        (first | (go_at_call 66; refine (HIN.out _ HB0.out).mono ?_; rintro e w9 ⟨rfl, hb9⟩; have HB9 := hid (HB0.out.trans (hb9.mono HB0.out.size)); clear hb9))
      cases bb with
      | true =>
        have HE := hid (HFI.out rfl)
        go_wp2
        go_ret
        refine ⟨?_, HBT.out.trans (HB9.out.mono HBT.out.size)⟩
        rw [HE.out]
        simp [ptrD, Value.ownBlock]
      | false =>
        go_wp2
        go_roundw
        case rel => exact ⟨m + 1, by omega, by go_num, HNX.out rfl, HBR.out.trans (HB9.out.mono HBR.out.size)⟩
        case measure => simp [intOf]; omega
    · have e : m = ds.length := by omega
      subst e
      have HE : Hid (fI t ds = none) := by
        show _ = _
        unfold fI
        rw [List.findIdx?_eq_none_iff]
        intro d hdm
        obtain ⟨j, hj, rfl⟩ := List.getElem_of_mem hdm
        exact HNO.out j hj hj
      go_wp2
      go_ret
      refine ⟨?_, HB1.out.trans (HBR.out.mono HB1.out.size)⟩
      rw [HE.out]
      simp [ptrD]
def halfE (N : Nat) (xs : List Int) (k : Nat) : List Value := ((xs.take k ++ List.replicate (N - k) 0).map (Value.int .i64))
theorem halfE_set (N : Nat) (xs : List Int) (k : Nat) (hl : xs.length = N) (hk : k < N) : (halfE N xs k).set k (.int .i64 (xs.getD k 0)) = halfE N xs (k + 1) := by
  have hlen : (xs.take k).length = k := by rw [List.length_take]; omega
  have e : xs.getD k 0 = xs[k] := by simp [List.getD_eq_getElem?_getD, show k < xs.length by omega]
  unfold halfE
  rw [List.map_append, List.set_append_right _ _ (by rw [List.length_map, hlen]; exact Nat.le_refl _), List.length_map, hlen, Nat.sub_self, show N - k = (N - (k + 1)) + 1 by omega, List.replicate_succ, List.map_cons, List.set_cons_zero, List.take_succ_eq_append_getElem (show k < xs.length by omega), e, List.map_append, List.map_append, List.append_assoc]
  rfl
theorem exs_at (N : Nat) (t : Ft) (k : Nat) (hk : k < N) : (exs N t).getD k 0 = [t.a, t.b, t.d].getD k 0 := by
  unfold exs
  rw [List.getD_eq_getElem?_getD, List.getElem?_take, if_pos hk, List.getD_eq_getElem?_getD]
structure BaW (w wr : World) (N : Nat) (t : Ft) (k : Nat) : Prop where
  below : Below w.heap.size w wr
  box : Bx w.heap.size wr w.heap.size t
  res : wr.ownsRow w.heap.size 57 2 (.slice (some ⟨w.heap.size + 1, 0, none⟩) 1 1) 1 [.int .i64 0, .slice none 0 0]
  row : wr.ownsRow w.heap.size 3 1 (.slice (some ⟨w.heap.size + 1 + 1, 0, none⟩) N N) N (halfE N (exs N t) k)
theorem BaW.put {w wr : World} {N : Nat} {t : Ft} {k : Nat} (h : BaW w wr N t k) (hl : (exs N t).length = N) (hk : k < N) : BaW w (wr.setCell ⟨w.heap.size + 1 + 1, k, none⟩ (.int .i64 ((exs N t).getD k 0))) N t (k + 1) := by
  have s := World.ownsRow.stored h.row k (.int .i64 ((exs N t).getD k 0))
  refine ⟨h.below.trans (grown_below s.2 (by omega) h.below.size), World.ownsRow.kept h.box s.2 (Or.inr (by simp [Value.ownBlock]; omega)), World.ownsRow.kept h.res s.2 (Or.inr (by simp [Value.ownBlock])), ?_⟩
  rw [← halfE_set N _ k hl hk]; exact s.1
theorem BaW.cellE {w wr : World} {N : Nat} {t : Ft} {k : Nat} (h : BaW w wr N t k) (hk : k < N) (h3 : N ≤ 3) : wr.cell? ⟨w.heap.size, 1 + k, none⟩ = some (.int .u16 ((exs N t).getD k 0)) := by
  rw [exs_at N t k hk]
  obtain ⟨y0, y1, y2, y3, y4, y5, y6⟩ := h.box.at
  simp only [Nat.zero_add] at y1 y2 y3
  match k, hk with
  | 0, _ => exact y1
  | 1, _ => exact y2
  | 2, _ => exact y3
  | k + 3, hk => omega

set_option maxRecDepth 100000 in
set_option maxHeartbeats 2000000 in
theorem bare_any (N : Nat) (t : Ft) (w : World) (h0 : 0 < N) (h3 : N ≤ 3) (hb : ∀ x ∈ exs N t, 0 ≤ x ∧ x ≤ 65535) (hc : 0 ≤ t.c ∧ t.c ≤ 255) :
    Calls Tryz.prog 20 #[ftV t, .int .i64 N] w fun e w' => ∃ ev, e = .returned (.agg #[.int .i64 t.c, ev]) ∧ w'.ownsRow w.heap.size 3 1 ev N ((exs N t).map (Value.int .i64)) ∧ Below w.heap.size w w' := by
  have hl : (exs N t).length = N := by unfold exs; rw [List.length_take]; simp; omega
  have HBD := hid hb
  obtain ⟨i0, hi, hz0, hz1, hz2⟩ := info_parts Tryz.infoInt
  obtain ⟨w1, hw1⟩ : ∃ w1, w1 = (w.alloc (.cells #[.int .i64 t.k, .int .u16 t.a, .int .u16 t.b, .int .u16 t.d, .int .u16 t.z, .int .u8 t.pl, .int .u8 t.c] 52)).alloc (.cells #[.int .i64 0, .slice none 0 0] 57) := ⟨_, rfl⟩
  have hs1 : w1.heap.size = w.heap.size + 1 + 1 := by rw [hw1]; simp
  have HST : Hid (∀ w2, w2.ownsRow w1.heap.size 3 1 (.slice (some ⟨w1.heap.size, 0, none⟩) N N) N (madeCells (Value.cells (.int .i64 0)) (N * 1)).toList → w1.grownBy w2 none → BaW w w2 N t 0) := fun w2 q1 q2 => by
    have hb12 : Below w1.heap.size w1 w2 := ⟨q2.os, q2.tape, q2.output, q2.size, fun k hk => q2.block k hk (by simp)⟩
    have hm : (madeCells (Value.cells (.int .i64 0)) (N * 1)).toList = halfE N (exs N t) 0 := by
      unfold halfE madeCells
      apply List.ext_getElem
      · simp
      · intro i h1 h2
        simp [Value.cells, Nat.mod_one]
    rw [hm, hs1] at q1
    have hb1 : Below w.heap.size w w1 := by rw [hw1]; exact below_two
    have hx1 : Bx w.heap.size w1 w.heap.size t := by rw [hw1]; exact Bx.below (box7 (Nat.le_refl _) t) belowNew
    have hr1 : w1.ownsRow w.heap.size 57 2 (.slice (some ⟨w.heap.size + 1, 0, none⟩) 1 1) 1 [.int .i64 0, .slice none 0 0] := by
      have := made_term (w := w.alloc (.cells #[.int .i64 t.k, .int .u16 t.a, .int .u16 t.b, .int .u16 t.d, .int .u16 t.z, .int .u8 t.pl, .int .u8 t.c] 52)) (B := w.heap.size) (by simp) 0 (.slice none 0 0)
      rw [hw1]; simpa using this
    exact ⟨hb1.trans (hb12.mono hb1.size), hx1.below hb12, ownBlock_lt hr1 hb12, own_mono q1 (by omega)⟩
  have HS1 := hid hs1
  clear hb
  unfold ftV
  go_enter Tryz.func20, Tryz.ntmps20
  go_wp2_with (at_make; rw [← hw1]; refine wpList_make_full _ rfl _ _ 55 rfl w1.heap.size 3 i0 _ 1 Tryz.underlying55 hi hz0 hz1 .i64 .i64 _ _ N rfl rfl rfl rfl (by rw [hz2]; omega) (by unfold maxLen; omega) (Nat.le_refl _) ?_; intro w2 hown hgrow; have HX := hid (HST.out w2 hown hgrow); clear hown hgrow)
  clear hw1 HST hs1
  go_loopw [11] (fun i wr => ∃ k : Nat, k ≤ N ∧ i = .int .i64 k ∧ BaW w wr N t k) (fun i _ => N - (intOf i).toNat)
  case atStart => exact ⟨0, Nat.zero_le _, rfl, HX.out⟩
  case round =>
    clear HX
    obtain ⟨k, hk, rfl, hw⟩ := hrel
    have HW := hid hw
    clear hw
    by_cases hk2 : k < N
    · have c1 := HW.out.cellE hk2 h3
      have c2 := World.ownsRow.cellAt HW.out.row k (by omega)
      have hkl : k < (halfE N (exs N t) k).length := by unfold halfE; simp; omega
      rw [List.getElem?_eq_getElem hkl] at c2
      have c3 := World.ownsRow.frozenAt HW.out.row k
      have hxb : 0 ≤ (exs N t).getD k 0 ∧ (exs N t).getD k 0 ≤ 65535 := by
        have : (exs N t).getD k 0 = (exs N t)[k] := by simp [List.getD_eq_getElem?_getD, show k < (exs N t).length by omega]
        rw [this]; exact HBD.out _ (List.getElem_mem _)
      have HP := hid (HW.out.put hl hk2)
      generalize (exs N t).getD k 0 = x at c1 hxb HP
      obtain ⟨hx0, hx1⟩ := hxb
      have wx : IntKind.i64.wrap x = x := by rw [IntKind.wrap_i64]; omega
      generalize (halfE N (exs N t) k)[k] = y at c2
      go_wp2
      go_roundw
      case rel => exact ⟨k + 1, by omega, by go_num, HP.out⟩
      case measure => simp [intOf]; omega
    · have e : k = N := by omega
      subst e
      obtain ⟨y0, y1, y2, y3, y4, y5, y6⟩ := HW.out.box.at
      simp only [Nat.zero_add] at y6
      have r0 : wr.cell? ⟨w.heap.size + 1, 0, none⟩ = some (.int .i64 0) := World.ownsRow.cellAt HW.out.res 0 (by omega)
      have r1 : wr.cell? ⟨w.heap.size + 1, 1, none⟩ = some (.slice none 0 0) := World.ownsRow.cellAt HW.out.res 1 (by omega)
      have q0 := World.ownsRow.frozenAt HW.out.res 0
      have q1 := World.ownsRow.frozenAt HW.out.res 1
      obtain ⟨hc0, hc1⟩ := hc
      have wc : IntKind.i64.wrap t.c = t.c := by rw [IntKind.wrap_i64]; omega
      clear y0 y1 y2 y3 y4 y5
      go_wp2
      have s1 := World.ownsRow.stored HW.out.res 0 (.int .i64 t.c)
      have s2 := s1.1.stored 1 (.slice (some ⟨w.heap.size + 1 + 1, 0, none⟩) k k)
      have hg := grown_trans s1.2 s2.2
      have x0 := World.ownsRow.cellAt s2.1 0 (by omega)
      have x1 := World.ownsRow.cellAt s2.1 1 (by omega)
      have hrow := World.ownsRow.kept HW.out.row hg (Or.inr (by simp [Value.ownBlock]))
      have hfin : halfE k (exs k t) k = (exs k t).map (Value.int .i64) := by
        unfold halfE; rw [Nat.sub_self, List.take_of_length_le (by omega)]; simp
      rw [hfin] at hrow
      refine bodyPost_ret (v := .agg #[.int .i64 t.c, .slice (some ⟨w.heap.size + 1 + 1, 0, none⟩) k k]) (by simp at x0 x1; simp [results, Tryz.results20, go_sem, x0, x1]) rfl ⟨_, rfl, hrow, HW.out.below.trans (grown_below hg (by omega) HW.out.below.size)⟩
end Go.Proofs.YtilogbggilchaaaGreat
