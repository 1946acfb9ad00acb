/- pivots. -/
import Derived.Test.YtilogbggilchaaaDoorFI
namespace Go.Proofs.YtilogbggilchaaaDoor
set_option linter.unusedSimpArgs false
set_option linter.unusedVariables false
open Go.RowKit
theorem own_form {w : World} {B : Nat} {u : Value} {xs : List Int} (h : Own w B u xs) (h0 : 0 < xs.length) : ∃ g c, u = .slice (some ⟨g, 0, none⟩) xs.length c ∧ B ≤ g ∧ g < w.heap.size := by
  rcases h.2 with ⟨_, h2⟩ | ⟨g, c, cur, h1, _⟩
  · omega
  · subst h1
    exact ⟨g, c, rfl, (World.ownsRow.lt h g rfl).1, (World.ownsRow.lt h g rfl).2⟩
theorem own_any_form {w : World} {B : Nat} {u : Value} {xs : List Int} (h : Own w B u xs) : ∃ a c, u = .slice a xs.length c := by
  rcases h.2 with ⟨h1, h2⟩ | ⟨g, c, cur, h1, _⟩
  · exact ⟨none, 0, by rw [h1, h2]⟩
  · exact ⟨_, c, h1⟩
theorem own_ints {w : World} {B g c : Nat} {xs : List Int} (h : Own w B (.slice (some ⟨g, 0, none⟩) xs.length c) xs) : IntsAt w g 0 xs := fun i hi => by rw [Nat.zero_add]; exact own_cell h i hi

theorem clearColumn_n (p : Int) (xs ys : List Int) (N M c B g cap b2 off2 cap2 : Nat) (w : World) (hN : xs.length = N) (hM : ys.length = M) (hp : 2 ≤ p ∧ p ≤ 101) (hm : N ≤ 400) (hxy : N = M) (hcn : c < N)
    (hx : ∀ x ∈ xs, 0 ≤ x ∧ x < p) (hy : ∀ x ∈ ys, 0 ≤ x ∧ x < p) (hown : Own w B (.slice (some ⟨g, 0, none⟩) N cap) xs) (hlt2 : b2 < w.heap.size) (hne : b2 ≠ g) (hc2 : IntsAt w b2 off2 ys) :
    Calls Tryd.prog 87 #[.int .i64 p, .slice (some ⟨g, 0, none⟩) N cap, .agg #[.int .i64 c, .slice (some ⟨b2, off2, none⟩) M cap2]] w fun e w' =>
      e = .returned (.tuple #[]) ∧ Own w' B (.slice (some ⟨g, 0, none⟩) N cap) (clr p xs (c, ys)) ∧ w.grownBy w' (some g) := by
  subst hN hM
  exact clearColumn_any p xs ys c B g cap b2 off2 cap2 w hp hm hxy hcn hx hy hown hlt2 hne hc2
theorem indexNz_n (xs : List Int) (N b off cap : Nat) (w : World) (hN : xs.length = N) (hm : N ≤ 400) (hc : IntsAt w b off xs) :
    Calls Tryd.prog 64 #[.slice (some ⟨b, off, none⟩) N cap, .func (.func 88) #[] #[]] w fun e w' =>
      e = .returned (.int .i64 (if nz xs = N then -1 else nz xs)) ∧ w' = w := by
  subst hN
  exact indexNz_any xs b off cap w hm hc
theorem own_cellN {w : World} {B g cap N : Nat} {xs : List Int} (h : Own w B (.slice (some ⟨g, 0, none⟩) N cap) xs) (hN : xs.length = N) (k : Nat) (hk : k < N) : w.cell? ⟨g, k, none⟩ = some (.int .i64 (xs.getD k 0)) := by
  subst hN; exact own_cell h k hk
theorem own_frozen {w : World} {B g cap N : Nat} {xs : List Int} (h : Own w B (.slice (some ⟨g, 0, none⟩) N cap) xs) (hN : xs.length = N) (k : Nat) : w.frozen? ⟨g, k, none⟩ = false := by
  subst hN; exact World.ownsRow.frozenAt h k
theorem own_store {w : World} {B g cap N : Nat} {xs : List Int} (h : Own w B (.slice (some ⟨g, 0, none⟩) N cap) xs) (hN : xs.length = N) (k : Nat) (z : Int) : Own (w.setCell ⟨g, k, none⟩ (.int .i64 z)) B (.slice (some ⟨g, 0, none⟩) N cap) (xs.set k z) := by
  subst hN
  have h1 := (World.ownsRow.stored h k (.int .i64 z)).1
  rw [ints_set] at h1
  unfold Own
  rw [List.length_set]
  exact h1
theorem scl_at (p s : Int) (xs : List Int) (k : Nat) (h : k < xs.length) : (scl p s xs).getD k 0 = xs.getD k 0 * s % p := by
  simp [scl, List.getD_eq_getElem?_getD, h]

theorem two_new (w : World) (a b : Value) (T : TypeId) : ∀ j u, [a, b][j]? = some u → (w.alloc (.cells #[a, b] T)).cell? ((⟨w.heap.size, 0, none⟩ : Addr).add j) = some u := by
  intro j u hj
  rcases j with _ | _ | j
  · simp at hj; subst hj; simp [Addr.add]
  · simp at hj; subst hj; simp [Addr.add]
  · simp at hj
theorem two_cells (c : Int) (a : Option Addr) (n k : Nat) : ∀ u ∈ [Value.int .i64 c, .slice a n k], u.oneCell' = true := by
  intro u hu
  simp at hu
  rcases hu with rfl | rfl <;> rfl

abbrev fsOf (qs : List Piv) : List (Nat × List Int) := qs.map Prod.fst

theorem fsOf_snoc (qs : List Piv) (q : Piv) : fsOf (qs ++ [q]) = fsOf qs ++ [q.1] := by simp

set_option maxRecDepth 100000 in
set_option maxHeartbeats 2000000 in
theorem pivots_any (p n : Nat) (v : Value) (rows : List (List Int)) (w : World) (hp : 2 ≤ p) (hp2 : p ≤ 101) (hm : rows.length ≤ 400) (hn : n ≤ 400)
    (hrows : ∀ r ∈ rows, RowOk p n r) (hr : Rws w v rows) :
    Calls Tryd.prog 74 #[.int .i64 p, v] w fun e w' => ∃ a c, e = .returned (.slice a (pivs p rows).length c) ∧ Below w.heap.size w w' := by
  have HR := hid hr
  have HROWS := hid hrows
  obtain ⟨ra, rcap, rfl, _⟩ := hr
  obtain ⟨i0, hi, hz0, hz1, hz2⟩ := info_parts Tryd.infoPiv
  have HI := hid (And.intro hi (And.intro hz0 (And.intro hz1 hz2)))
  clear hrows hi hz0 hz1 hz2
  go_enter Tryd.func74, Tryd.ntmps74
  go_wp2
  go_loopw [5, 16] (fun v i wr => ∃ (k : Nat) (qs : List Piv), k ≤ rows.length ∧ i = .int .i64 k ∧ qs.length ≤ k ∧ Found w.heap.size wr v qs ∧ (∀ f ∈ fsOf qs, PivOk p n f) ∧ fsOf qs = (rows.take k).foldl (stepP p) [] ∧ Below w.heap.size w wr) (fun _ i _ => rows.length - (intOf i).toNat)
  case atStart => exact ⟨0, [], Nat.zero_le _, rfl, Nat.le_refl _, ⟨World.ownsRow_nil _ _ _ _, fun q hq => by simp at hq⟩, fun f hf => by simp at hf, rfl, Below.refl _ _⟩
  case round =>
    obtain ⟨k, qs, hk, rfl, hqk, hfo, hok, hfs, hbr⟩ := hrel
    obtain ⟨wo, hwo⟩ : ∃ wo : World, wo = wr := ⟨_, rfl⟩
    subst hwo
    have HFO := hid hfo
    have HOK := hid hok
    have HFS := hid hfs
    have HBR := hid hbr
    obtain ⟨fa, fc, rfl⟩ := hfo.sl
    clear hfo hok hfs
    by_cases hk2 : k < rows.length
    · obtain ⟨a, cap, he, hrr⟩ := HR.out
      obtain ⟨b, off, ha, hlt, hsl⟩ := hrr (by omega)
      simp only [Value.slice.injEq] at he
      obtain ⟨rfl, _, rfl⟩ := he
      subst ha
      obtain ⟨vv, hcell, hs⟩ := hsl k hk2
      rw [← hbr.cell (p := ⟨b, off + k, none⟩) hlt] at hcell
      have HSL := hid (hs.below hbr)
      have HRW := hid (HROWS.out _ (getR_mem rows k hk2))
      have HST : Hid ((rows.take (k + 1)).foldl (stepP p) [] = stepP p (fsOf qs) (rows.getD k [])) := by
        unfold Hid
        rw [List.take_succ_eq_append_getElem hk2, List.foldl_append, ← HFS.out]
        simp [List.getD_eq_getElem?_getD, hk2]
      clear hrr hsl hs hbr
      generalize rows.getD k [] = row at HSL HRW HST
      obtain ⟨sa, sc, hvv, _⟩ := HSL.out
      subst hvv
      have hlr1 : row.length ≤ 400 := by have := HRW.out.1; omega
      go_wp2_with fail
      refine (clone_any _ row _ hlr1 HSL.out).mono ?_
      rintro e w2 ⟨rest, rfl, hown, hb2⟩
      have HOWN := hid hown
      have HB2 := hid hb2
      by_cases hn0 : row.length = 0
      · have hnn : n = 0 := by have := HRW.out.1; omega
        have hq0 : qs = [] := by
          cases qs with
          | nil => rfl
          | cons q qs => have h1 := (HOK.out q.1 (by simp)).1; omega
        have hrow : row = [] := List.length_eq_zero_iff.1 hn0
        obtain ⟨ra', rc', hrf⟩ := own_any_form hown
        subst hq0 hrow hrf
        have HST2 : Hid ((rows.take (k + 1)).foldl (stepP p) [] = []) := HST.out
        clear hown hb2 hn0 HST hnn
        go_wp2_with fail
        go_loop [24] (fun i => i = .int .i64 0) (fun _ => 0)
        case atStart => rfl
        case round =>
          subst hrel
          go_wp2_with fail
          refine (indexNil_any _ _ _ _).mono ?_
          rintro e w' ⟨rfl, hw'⟩
          subst w'
          go_wp2_with fail
          go_roundw
          case rel => exact ⟨k + 1, [], by omega, by go_num, by simp, HFO.out.below HB2.out, fun f hf => by simp at hf, by rw [HST2.out]; rfl, HBR.out.trans (HB2.out.mono HBR.out.size)⟩
          case measure => simp [intOf]; omega
      · obtain ⟨g, gc, hrest, hgB, hgw⟩ := own_form hown (by omega)
        subst hrest
        clear hown hb2
        go_wp2_with fail
        go_loopw [24] (fun i wx => ∃ j : Nat, j ≤ qs.length ∧ i = .int .i64 j ∧ Own wx wo.heap.size (.slice (some ⟨g, 0, none⟩) row.length gc) (redL p row ((fsOf qs).take j)) ∧ Below wo.heap.size wo wx) (fun i _ => qs.length - (intOf i).toNat)
        case atStart => exact ⟨0, Nat.zero_le _, rfl, HOWN.out, HB2.out⟩
        case round =>
          obtain ⟨j, hj, rfl, ho, hbx⟩ := hrel
          by_cases hj2 : j < qs.length
          · have hfx := HFO.out.below hbx
            obtain ⟨fg, hfa, hfg1, hfg2, hfc1, hfc2⟩ := hfx.at j hj2
            subst hfa
            have hjf : j < (fsOf qs).length := by simpa using hj2
            have HPV := hid (HOK.out (fsOf qs)[j] (List.getElem_mem hjf))
            have HRD := hid (redL_take (p := p) (row := row) hjf)
            have HRX := hid (redL_ok (n := n) (by omega) ((fsOf qs).take j) row HRW.out (fun f hf => (HOK.out f (List.mem_of_mem_take hf)).2))
            have hqr := hfx.rows qs[j] (List.getElem_mem hj2)
            have hqr0 := HFO.out.rows qs[j] (List.getElem_mem hj2)
            have efs : (fsOf qs)[j] = qs[j].1 := by simp
            rw [efs] at HPV HRD
            generalize qs[j] = q at hfc1 hfc2 hqr hqr0 HPV HRD
            obtain ⟨⟨qc, qrow⟩, qv⟩ := q
            have hql : qrow.length = row.length := by have h1 := HPV.out.2.1; have h2 := HRW.out.1; simp only at h1; omega
            obtain ⟨qg, qcap, hqv, hqg1, hqg2⟩ := own_form hqr0 (by simp only; omega)
            simp only at hfc1 hfc2 hqr hqr0 hqv
            subst hqv
            have HQL := hid hql
            have HQR := hid hqr
            have HO := hid ho
            have HBX := hid hbx
            have hqg3 : qg ≠ g := by omega
            have hsx := hbx.size
            have hqc : qc < row.length := by have h1 := HPV.out.1; have h2 := HRW.out.1; simp only at h1; omega
            clear hfx hjf efs hqr hqr0 hql ho hbx
            have e2 : 2 * j = j * 2 := by omega
            rw [e2] at hfc1 hfc2
            clear e2
            go_wp2_with fail
            refine (clearColumn_n p (redL p row ((fsOf qs).take j)) qrow row.length qrow.length qc wo.heap.size g gc qg 0 qcap _ (by rw [HRX.out.1, HRW.out.1]) rfl ⟨by omega, by omega⟩ hlr1 HQL.out.symm hqc HRX.out.2 HPV.out.2.2 ?_ ?_ hqg3 ?_).mono ?_
            · exact own_kept HO.out belowNew
            · simp; omega
            · intro i hi
              rw [belowNew.cell (p := ⟨qg, 0 + i, none⟩) (show qg < wr.heap.size by omega)]
              exact own_ints HQR.out i hi
            rintro e w3 ⟨rfl, ho3, hg3⟩
            have HO3 := hid ho3
            have HB3 := hid (HBX.out.trans (grown_below (grown_trans (below_grown belowNew) hg3) hgB hsx))
            clear ho3 hg3
            go_wp2
            go_roundw
            case rel => exact ⟨j + 1, by omega, by go_num, by rw [HRD.out]; exact HO3.out, HB3.out⟩
            case measure => simp [intOf]; omega
          · have ej : j = qs.length := by omega
            have etk : (fsOf qs).take j = fsOf qs := List.take_of_length_le (by simp; omega)
            rw [etk] at ho
            have HRX := hid (redL_ok (n := n) (by omega) (fsOf qs) row HRW.out (fun f hf => (HOK.out f hf).2))
            have hRN : (redL p row (fsOf qs)).length = row.length := by rw [HRX.out.1, HRW.out.1]
            have HRN := hid hRN
            have HSP : Hid (stepP p (fsOf qs) row = if nz (redL p row (fsOf qs)) = row.length then fsOf qs else fsOf qs ++ [(nz (redL p row (fsOf qs)), scl p (invI p ((redL p row (fsOf qs)).getD (nz (redL p row (fsOf qs))) 0)) (redL p row (fsOf qs)))]) := by
              unfold Hid stepP; rw [hRN]
            have HO := hid ho
            have HBX := hid hbx
            have HSOK := hid (stepP_ok (p := p) (n := n) (by omega) HOK.out HRW.out)
            rw [HSP.out] at HSOK
            rw [HSP.out] at HST
            clear ho hbx etk ej hRN HSP
            have hnzle := nz_le (redL p row (fsOf qs))
            have hnzat := nz_at (redL p row (fsOf qs))
            rw [HRN.out] at hnzle hnzat
            have HNA := hid hnzat
            clear hnzat
            generalize redL p row (fsOf qs) = r at HRX HRN HST HO HSOK hnzle HNA
            go_wp2_with fail
            refine (indexNz_n r row.length g 0 gc _ HRN.out hlr1 ?_).mono ?_
            · intro i hi; rw [Nat.zero_add]; exact own_cellN HO.out HRN.out i (by rw [← HRN.out]; exact hi)
            rintro e w' ⟨rfl, hw'⟩
            subst w'
            by_cases hz : nz r = row.length
            · rw [if_pos hz]
              rw [if_pos hz] at HST HSOK
              clear hz
              go_wp2_with fail
              go_roundw
              case rel => exact ⟨k + 1, qs, by omega, by go_num, by omega, HFO.out.below HBX.out, HSOK.out, by rw [HST.out], HBR.out.trans (HBX.out.mono HBR.out.size)⟩
              case measure => simp [intOf]; omega
            · rw [if_neg hz]
              rw [if_neg hz] at HST HSOK
              have hcN : nz r < row.length := by omega
              have hcell := own_cellN HO.out HRN.out (nz r) hcN
              have hne0 := HNA.out hcN
              have hmem := HRX.out.2 _ (getD_mem r (nz r) (by rw [HRN.out]; exact hcN))
              clear hz
              generalize nz r = c at *
              generalize hx : r.getD c 0 = x at *
              obtain ⟨an, rfl⟩ : ∃ an : Nat, x = an := ⟨x.toNat, by omega⟩
              have ha1 : an < p := by omega
              clear hx
              go_wp2_with fail
              refine (inverse_any p an _ hp hp2 ha1).mono ?_
              rintro e w' ⟨rfl, hw'⟩
              subst w'
              have hsl := pwN_lt p an hp (p - 2)
              have HSV : Hid (invI (p : Int) (an : Int) = (invN p an : Int)) := rfl
              rw [HSV.out] at HST HSOK
              have hsl2 : invN p an < p := hsl
              clear hsl HSV
              generalize invN p an = s at hsl2 HST HSOK
              obtain ⟨wy, hwy⟩ : ∃ wy : World, wy = wr := ⟨_, rfl⟩
              subst hwy
              have HLS : Hid ((scl p s r).length = r.length) := by simp [Hid, scl]
              clear hcell
              go_wp2_with fail
              go_loopw [45] (fun i wx => ∃ m : Nat, m ≤ row.length ∧ i = .int .i64 m ∧ Own wx wo.heap.size (.slice (some ⟨g, 0, none⟩) row.length gc) (mixL (scl p s r) r m) ∧ Below wo.heap.size wo wx) (fun i _ => row.length - (intOf i).toNat)
              case atStart => exact ⟨0, Nat.zero_le _, rfl, by simpa [mixL] using HO.out, HBX.out⟩
              case round =>
                obtain ⟨m, hm1, rfl, hom, hbm⟩ := hrel
                have HOM := hid hom
                have HBM := hid hbm
                have hml := mixL_len (scl p s r) r m HLS.out (by rw [HRN.out]; exact hm1)
                rw [HRN.out] at hml
                have HML := hid hml
                by_cases hm2 : m < row.length
                · have hcell := own_cellN hom hml m hm2
                  have hfr := own_frozen hom hml m
                  have hst := fun z => own_store hom hml m z
                  have hat := mixL_at (scl p s r) r m HLS.out (by rw [HRN.out]; exact hm2)
                  have hset := mixL_set (scl p s r) r m HLS.out (by rw [HRN.out]; exact hm2)
                  rw [scl_at p s r m (by rw [HRN.out]; exact hm2)] at hset
                  rw [hat] at hcell
                  have hrm := HRX.out.2 _ (getD_mem r m (by rw [HRN.out]; exact hm2))
                  have HSS : Hid (∀ z, z = r.getD m 0 * (s : Int) % (p : Int) → Own (wr.setCell ⟨g, m, none⟩ (.int .i64 z)) wo.heap.size (.slice (some ⟨g, 0, none⟩) row.length gc) (mixL (scl p s r) r (m + 1))) := by
                    intro z hz; rw [hz, ← hset]; exact hst _
                  have hmb := mul_bd (a := r.getD m 0) (b := (s : Int)) ⟨by omega, by omega, by omega, by omega⟩
                  obtain ⟨hmb1, hmb2⟩ := hmb
                  clear hst hat hset hom hbm hml
                  generalize r.getD m 0 = y at hcell HSS hmb1 hmb2 hrm
                  go_wp2
                  go_roundw
                  case rel => exact ⟨m + 1, by omega, by go_num, HSS.out _ rfl, HBM.out.setCell hgB _⟩
                  case measure => simp [intOf]; omega
                · have efin : mixL (scl p s r) r m = scl p s r := by
                    unfold mixL
                    rw [List.take_of_length_le (by rw [HLS.out, HRN.out]; omega), List.drop_eq_nil_of_le (by rw [HRN.out]; omega), List.append_nil]
                  rw [efin] at HOM
                  have FND := hid (HFO.out.below HBM.out)
                  have hsz : w.heap.size ≤ wr.heap.size := Nat.le_trans HBR.out.size HBM.out.size
                  clear efin hom hbm hml HML
                  obtain ⟨hi, hz0, hz1, hz2⟩ := HI.out
                  go_wp2_with (at_builtin; refine wpList_append_own _ rfl _ _ 99 rfl w.heap.size 109 i0 (.agg #[.int .i64 0, .slice none 0 0]) 2 32 Tryd.underlying99 hi hz0 hz1 hz2 rfl (by decide) _ _ _ rfl (FND.out.own.alloc _) ⟨wr.heap.size, 0, none⟩ 1 1 [.int .i64 c, .slice (some ⟨g, 0, none⟩) row.length gc] rfl rfl (two_new _ _ _ _) (two_cells _ _ _ _) (by unfold maxLen; omega) (by omega) (by simp; omega) ?_)
                  intro v' w4 hown' hgrow _
                  have FN2 := hid (Found.snoc (FND.out.below belowNew) (ownBlock_lt (own_base HOM.out (show w.heap.size ≤ wo.heap.size from HBR.out.size)) belowNew) hown' hgrow)
                  have HB4 := hid (show Below w.heap.size w w4 from (HBR.out.trans ((HBM.out.trans (belowNew.mono HBM.out.size)).mono HBR.out.size)).grown hgrow (by simp; omega) (fun k' hk' => (World.ownsRow.lt FND.out.own k' hk').1))
                  obtain ⟨va, vc, hv'⟩ := FN2.out.sl
                  subst hv'
                  clear hown' hgrow hi hz0 hz1 hz2
                  go_wp2_with fail
                  go_roundw
                  case rel => exact ⟨k + 1, qs ++ [((c, scl p s r), .slice (some ⟨g, 0, none⟩) row.length gc)], by omega, by go_num, by simp; omega, FN2.out, by rw [fsOf_snoc]; exact HSOK.out, by rw [fsOf_snoc, HST.out], HB4.out⟩
                  case measure => simp [intOf]; omega
    · have ek : k = rows.length := by omega
      have etk : rows.take k = rows := List.take_of_length_le (by omega)
      rw [etk] at HFS
      have HLN : Hid (qs.length = (pivs p rows).length) := by
        unfold Hid pivs; rw [← HFS.out]; simp
      clear etk ek
      go_wp2
      go_ret
      exact ⟨fa, fc, by rw [← HLN.out]; rfl, HBR.out⟩
end Go.Proofs.YtilogbggilchaaaDoor
