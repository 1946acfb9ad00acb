/- pivots. -/
import Derived.Test.YtkmjmmnnnbjghaaDoorFG
import Derived.Deep.AppendLies
import Derived.BigRegion
namespace Go.Proofs.YtkmjmmnnnbjghaaDoor
set_option linter.unusedSimpArgs false
set_option linter.unusedVariables false
open Go.RowKit

theorem own_form {w : World} {B : Nat} {u : Value} {xs : List Int} (h : Own w B u xs) (h0 : 0 < xs.length) : ∃ g c, u = .slice (some ⟨g, 0, none⟩) xs.length c ∧ B ≤ g ∧ g < w.heap.size := by
  rcases h.2 with ⟨_, h2⟩ | ⟨g, c, cur, h1, _⟩
  · omega
  · subst h1
    exact ⟨g, c, rfl, (World.ownsRow.lt h g rfl).1, (World.ownsRow.lt h g rfl).2⟩
theorem own_any_form {w : World} {B : Nat} {u : Value} {xs : List Int} (h : Own w B u xs) : ∃ a c, u = .slice a xs.length c := by
  rcases h.2 with ⟨h1, h2⟩ | ⟨g, c, cur, h1, _⟩
  · exact ⟨none, 0, by rw [h1, h2]⟩
  · exact ⟨_, c, h1⟩
theorem own_ints {w : World} {B g c : Nat} {xs : List Int} (h : Own w B (.slice (some ⟨g, 0, none⟩) xs.length c) xs) : IntsAt w g 0 xs := fun i hi => by rw [Nat.zero_add]; exact own_cell h i hi

theorem clearColumn_n (p : Int) (xs ys : List Int) (N M c B g cap b2 off2 cap2 : Nat) (w : World) (hN : xs.length = N) (hM : ys.length = M) (hp : 2 ≤ p ∧ p ≤ 101) (hm : N ≤ 400) (hxy : N = M) (hcn : c < N)
    (hx : ∀ x ∈ xs, 0 ≤ x ∧ x < p) (hy : ∀ x ∈ ys, 0 ≤ x ∧ x < p) (hown : Own w B (.slice (some ⟨g, 0, none⟩) N cap) xs) (hlt2 : b2 < w.heap.size) (hne : b2 ≠ g) (hc2 : IntsAt w b2 off2 ys) :
    Calls Tryd.prog 87 #[.int .i64 p, .slice (some ⟨g, 0, none⟩) N cap, .agg #[.int .i64 c, .slice (some ⟨b2, off2, none⟩) M cap2]] w fun e w' =>
      e = .returned (.tuple #[]) ∧ Own w' B (.slice (some ⟨g, 0, none⟩) N cap) (clr p xs (c, ys)) ∧ w.grownBy w' (some g) := by
  subst hN hM
  exact clearColumn_any p xs ys c B g cap b2 off2 cap2 w hp hm hxy hcn hx hy hown hlt2 hne hc2
theorem indexNz_n (xs : List Int) (N b off cap : Nat) (w : World) (hN : xs.length = N) (hm : N ≤ 400) (hc : IntsAt w b off xs) :
    Calls Tryd.prog 64 #[.slice (some ⟨b, off, none⟩) N cap, .func (.func 88) #[] #[]] w fun e w' =>
      e = .returned (.int .i64 (if nz xs = N then -1 else nz xs)) ∧ w' = w := by
  subst hN
  exact indexNz_any xs b off cap w hm hc
theorem own_cellN {w : World} {B g cap N : Nat} {xs : List Int} (h : Own w B (.slice (some ⟨g, 0, none⟩) N cap) xs) (hN : xs.length = N) (k : Nat) (hk : k < N) : w.cell? ⟨g, k, none⟩ = some (.int .i64 (xs.getD k 0)) := by
  subst hN; exact own_cell h k hk
theorem own_frozen {w : World} {B g cap N : Nat} {xs : List Int} (h : Own w B (.slice (some ⟨g, 0, none⟩) N cap) xs) (hN : xs.length = N) (k : Nat) : w.frozen? ⟨g, k, none⟩ = false := by
  subst hN; exact World.ownsRow.frozenAt h k
theorem own_store {w : World} {B g cap N : Nat} {xs : List Int} (h : Own w B (.slice (some ⟨g, 0, none⟩) N cap) xs) (hN : xs.length = N) (k : Nat) (z : Int) : Own (w.setCell ⟨g, k, none⟩ (.int .i64 z)) B (.slice (some ⟨g, 0, none⟩) N cap) (xs.set k z) := by
  subst hN
  have h1 := (World.ownsRow.stored h k (.int .i64 z)).1
  rw [ints_set] at h1
  unfold Own
  rw [List.length_set]
  exact h1
theorem scl_at (p s : Int) (xs : List Int) (k : Nat) (h : k < xs.length) : (scl p s xs).getD k 0 = xs.getD k 0 * s % p := by
  simp [scl, List.getD_eq_getElem?_getD, h]

theorem two_new (w : World) (a b : Value) (T : TypeId) : ∀ j u, [a, b][j]? = some u → (w.alloc (.cells #[a, b] T)).cell? ((⟨w.heap.size, 0, none⟩ : Addr).add j) = some u := by
  intro j u hj
  rcases j with _ | _ | j
  · simp at hj; subst hj; simp [Addr.add]
  · simp at hj; subst hj; simp [Addr.add]
  · simp at hj
theorem two_cells (c : Int) (a : Option Addr) (n k : Nat) : ∀ u ∈ [Value.int .i64 c, .slice a n k], u.oneCell' = true := by
  intro u hu
  simp at hu
  rcases hu with rfl | rfl <;> rfl

/-- The list that was kept, of the pieces in memory. -/
abbrev fsOf (qs : List Piv) : List (Nat × List Int) := qs.map Prod.fst

theorem fsOf_snoc (qs : List Piv) (q : Piv) : fsOf (qs ++ [q]) = fsOf qs ++ [q.1] := by simp

set_option maxRecDepth 100000 in
set_option maxHeartbeats 2000000 in
theorem pivots_any (p n : Nat) (v : Value) (rows : List (List Int)) (w : World) (hp : 2 ≤ p) (hp2 : p ≤ 101) (hm : rows.length ≤ 400) (hn : n ≤ 400)
    (hrows : ∀ r ∈ rows, RowOk p n r) (hr : Rws w v rows) :
    Calls Tryd.prog 74 #[.int .i64 p, v] w fun e w' => ∃ a c, e = .returned (.slice a (pivs p rows).length c) ∧ Below w.heap.size w w' := by
  have HR := hid hr
  have HROWS := hid hrows
  obtain ⟨ra, rcap, rfl, _⟩ := hr
  obtain ⟨i0, hi, hz0, hz1, hz2⟩ := info_parts Tryd.infoPiv
  have HI := hid (And.intro hi (And.intro hz0 (And.intro hz1 hz2)))
  clear hrows hi hz0 hz1 hz2
  go_enter Tryd.func74, Tryd.ntmps74
  go_wp2
  go_loopw [5, 16] (fun v i wr => ∃ (k : Nat) (qs : List Piv), k ≤ rows.length ∧ i = .int .i64 k ∧ qs.length ≤ k ∧ Found w.heap.size wr v qs ∧ (∀ f ∈ fsOf qs, PivOk p n f) ∧ fsOf qs = (rows.take k).foldl (stepP p) [] ∧ Below w.heap.size w wr) (fun _ i _ => rows.length - (intOf i).toNat)
  case atStart => exact ⟨0, [], Nat.zero_le _, rfl, Nat.le_refl _, ⟨World.ownsRow_nil _ _ _ _, fun q hq => by simp at hq⟩, fun f hf => by simp at hf, rfl, Below.refl _ _⟩
  case round =>
    obtain ⟨k, qs, hk, rfl, hqk, hfo, hok, hfs, hbr⟩ := hrel
    obtain ⟨wo, hwo⟩ : ∃ wo : World, wo = wr := ⟨_, rfl⟩
    subst hwo
    have HFO := hid hfo
    have HOK := hid hok
    have HFS := hid hfs
    have HBR := hid hbr
    obtain ⟨fa, fc, rfl⟩ := hfo.sl
    clear hfo hok hfs
    by_cases hk2 : k < rows.length
    · obtain ⟨a, cap, he, hrr⟩ := HR.out
      obtain ⟨b, off, ha, hlt, hsl⟩ := hrr (by omega)
      simp only [Value.slice.injEq] at he
      obtain ⟨rfl, _, rfl⟩ := he
      subst ha
      obtain ⟨vv, hcell, hs⟩ := hsl k hk2
      rw [← hbr.cell (p := ⟨b, off + k, none⟩) hlt] at hcell
      have HSL := hid (hs.below hbr)
      have HRW := hid (HROWS.out _ (getR_mem rows k hk2))
      have HST : Hid ((rows.take (k + 1)).foldl (stepP p) [] = stepP p (fsOf qs) (rows.getD k [])) := by
        unfold Hid
        rw [List.take_succ_eq_append_getElem hk2, List.foldl_append, ← HFS.out]
        simp [List.getD_eq_getElem?_getD, hk2]
      clear hrr hsl hs hbr
      generalize rows.getD k [] = row at HSL HRW HST
      obtain ⟨sa, sc, hvv, _⟩ := HSL.out
      subst hvv
      have hlr1 : row.length ≤ 400 := by have := HRW.out.1; omega
      go_wp2_with fail
      refine (clone_any _ row _ hlr1 HSL.out).mono ?_
      rintro e w2 ⟨rest, rfl, hown, hb2⟩
      have HOWN := hid hown
      have HB2 := hid hb2
      by_cases hn0 : row.length = 0
      · have hnn : n = 0 := by have := HRW.out.1; omega
        have hq0 : qs = [] := by
          cases qs with
          | nil => rfl
          | cons q qs => have h1 := (HOK.out q.1 (by simp)).1; omega
        have hrow : row = [] := List.length_eq_zero_iff.1 hn0
        obtain ⟨ra', rc', hrf⟩ := own_any_form hown
        subst hq0 hrow hrf
        have HST2 : Hid ((rows.take (k + 1)).foldl (stepP p) [] = []) := HST.out
        clear hown hb2 hn0 HST hnn
        go_wp2_with fail
        go_loop [24] (fun i => i = .int .i64 0) (fun _ => 0)
        case atStart => rfl
        case round =>
          subst hrel
          go_wp2_with fail
          refine (indexNil_any _ _ _ _).mono ?_
          rintro e w' ⟨rfl, hw'⟩
          subst w'
          go_wp2_with fail
          go_roundw
          case rel => exact ⟨k + 1, [], by omega, by go_num, by simp, HFO.out.below HB2.out, fun f hf => by simp at hf, by rw [HST2.out]; rfl, HBR.out.trans (HB2.out.mono HBR.out.size)⟩
          case measure => simp [intOf]; omega
      · obtain ⟨g, gc, hrest, hgB, hgw⟩ := own_form hown (by omega)
        subst hrest
        clear hown hb2
        go_wp2_with fail
        go_loopw [24] (fun i wx => ∃ j : Nat, j ≤ qs.length ∧ i = .int .i64 j ∧ Own wx wo.heap.size (.slice (some ⟨g, 0, none⟩) row.length gc) (redL p row ((fsOf qs).take j)) ∧ Below wo.heap.size wo wx) (fun i _ => qs.length - (intOf i).toNat)
        case atStart => exact ⟨0, Nat.zero_le _, rfl, HOWN.out, HB2.out⟩
        case round =>
          obtain ⟨j, hj, rfl, ho, hbx⟩ := hrel
          by_cases hj2 : j < qs.length
          · have hfx := HFO.out.below hbx
            obtain ⟨fg, hfa, hfg1, hfg2, hfc1, hfc2⟩ := hfx.at j hj2
            subst hfa
            have hjf : j < (fsOf qs).length := by simpa using hj2
            have HPV := hid (HOK.out (fsOf qs)[j] (List.getElem_mem hjf))
            have HRD := hid (redL_take (p := p) (row := row) hjf)
            have HRX := hid (redL_ok (n := n) (by omega) ((fsOf qs).take j) row HRW.out (fun f hf => (HOK.out f (List.mem_of_mem_take hf)).2))
            have hqr := hfx.rows qs[j] (List.getElem_mem hj2)
            have hqr0 := HFO.out.rows qs[j] (List.getElem_mem hj2)
            have efs : (fsOf qs)[j] = qs[j].1 := by simp
            rw [efs] at HPV HRD
            generalize qs[j] = q at hfc1 hfc2 hqr hqr0 HPV HRD
            obtain ⟨⟨qc, qrow⟩, qv⟩ := q
            have hql : qrow.length = row.length := by have h1 := HPV.out.2.1; have h2 := HRW.out.1; simp only at h1; omega
            obtain ⟨qg, qcap, hqv, hqg1, hqg2⟩ := own_form hqr0 (by simp only; omega)
            simp only at hfc1 hfc2 hqr hqr0 hqv
            subst hqv
            have HQL := hid hql
            have HQR := hid hqr
            have HO := hid ho
            have HBX := hid hbx
            have hqg3 : qg ≠ g := by omega
            have hsx := hbx.size
            have hqc : qc < row.length := by have h1 := HPV.out.1; have h2 := HRW.out.1; simp only at h1; omega
            clear hfx hjf efs hqr hqr0 hql ho hbx
            have e2 : 2 * j = j * 2 := by omega
            rw [e2] at hfc1 hfc2
            clear e2
            go_wp2_with fail
            refine (clearColumn_n p (redL p row ((fsOf qs).take j)) qrow row.length qrow.length qc wo.heap.size g gc qg 0 qcap _ (by rw [HRX.out.1, HRW.out.1]) rfl ⟨by omega, by omega⟩ hlr1 HQL.out.symm hqc HRX.out.2 HPV.out.2.2 ?_ ?_ hqg3 ?_).mono ?_
            · exact own_kept HO.out belowNew
            · simp; omega
            · intro i hi
              rw [belowNew.cell (p := ⟨qg, 0 + i, none⟩) (show qg < wr.heap.size by omega)]
              exact own_ints HQR.out i hi
            rintro e w3 ⟨rfl, ho3, hg3⟩
            have HO3 := hid ho3
            have HB3 := hid (HBX.out.trans (grown_below (grown_trans (below_grown belowNew) hg3) hgB hsx))
            clear ho3 hg3
            go_wp2
            go_roundw
            case rel => exact ⟨j + 1, by omega, by go_num, by rw [HRD.out]; exact HO3.out, HB3.out⟩
            case measure => simp [intOf]; omega
          · have ej : j = qs.length := by omega
            have etk : (fsOf qs).take j = fsOf qs := List.take_of_length_le (by simp; omega)
            rw [etk] at ho
            have HRX := hid (redL_ok (n := n) (by omega) (fsOf qs) row HRW.out (fun f hf => (HOK.out f hf).2))
            have hRN : (redL p row (fsOf qs)).length = row.length := by rw [HRX.out.1, HRW.out.1]
            have HRN := hid hRN
            have HSP : Hid (stepP p (fsOf qs) row = if nz (redL p row (fsOf qs)) = row.length then fsOf qs else fsOf qs ++ [(nz (redL p row (fsOf qs)), scl p (invI p ((redL p row (fsOf qs)).getD (nz (redL p row (fsOf qs))) 0)) (redL p row (fsOf qs)))]) := by
              unfold Hid stepP; rw [hRN]
            have HO := hid ho
            have HBX := hid hbx
            have HSOK := hid (stepP_ok (p := p) (n := n) (by omega) HOK.out HRW.out)
            rw [HSP.out] at HSOK
            rw [HSP.out] at HST
            clear ho hbx etk ej hRN HSP
            have hnzle := nz_le (redL p row (fsOf qs))
            have hnzat := nz_at (redL p row (fsOf qs))
            rw [HRN.out] at hnzle hnzat
            have HNA := hid hnzat
            clear hnzat
            generalize redL p row (fsOf qs) = r at HRX HRN HST HO HSOK hnzle HNA
            go_wp2_with fail
            refine (indexNz_n r row.length g 0 gc _ HRN.out hlr1 ?_).mono ?_
            · intro i hi; rw [Nat.zero_add]; exact own_cellN HO.out HRN.out i (by rw [← HRN.out]; exact hi)
            rintro e w' ⟨rfl, hw'⟩
            subst w'
            by_cases hz : nz r = row.length
            · rw [if_pos hz]
              rw [if_pos hz] at HST HSOK
              clear hz
              go_wp2_with fail
              go_roundw
              case rel => exact ⟨k + 1, qs, by omega, by go_num, by omega, HFO.out.below HBX.out, HSOK.out, by rw [HST.out], HBR.out.trans (HBX.out.mono HBR.out.size)⟩
              case measure => simp [intOf]; omega
            · rw [if_neg hz]
              rw [if_neg hz] at HST HSOK
              have hcN : nz r < row.length := by omega
              have hcell := own_cellN HO.out HRN.out (nz r) hcN
              have hne0 := HNA.out hcN
              have hmem := HRX.out.2 _ (getD_mem r (nz r) (by rw [HRN.out]; exact hcN))
              clear hz
              generalize nz r = c at *
              generalize hx : r.getD c 0 = x at *
              obtain ⟨an, rfl⟩ : ∃ an : Nat, x = an := ⟨x.toNat, by omega⟩
              have ha1 : an < p := by omega
              clear hx
              go_wp2_with fail
              refine (inverse_any p an _ hp hp2 ha1).mono ?_
              rintro e w' ⟨rfl, hw'⟩
              subst w'
              have hsl := pwN_lt p an hp (p - 2)
              have HSV : Hid (invI (p : Int) (an : Int) = (invN p an : Int)) := rfl
              rw [HSV.out] at HST HSOK
              have hsl2 : invN p an < p := hsl
              clear hsl HSV
              generalize invN p an = s at hsl2 HST HSOK
              obtain ⟨wy, hwy⟩ : ∃ wy : World, wy = wr := ⟨_, rfl⟩
              subst hwy
              have HLS : Hid ((scl p s r).length = r.length) := by simp [Hid, scl]
              clear hcell
              go_wp2_with fail
              go_loopw [45] (fun i wx => ∃ m : Nat, m ≤ row.length ∧ i = .int .i64 m ∧ Own wx wo.heap.size (.slice (some ⟨g, 0, none⟩) row.length gc) (mixL (scl p s r) r m) ∧ Below wo.heap.size wo wx) (fun i _ => row.length - (intOf i).toNat)
              case atStart => exact ⟨0, Nat.zero_le _, rfl, by simpa [mixL] using HO.out, HBX.out⟩
              case round =>
                obtain ⟨m, hm1, rfl, hom, hbm⟩ := hrel
                have HOM := hid hom
                have HBM := hid hbm
                have hml := mixL_len (scl p s r) r m HLS.out (by rw [HRN.out]; exact hm1)
                rw [HRN.out] at hml
                have HML := hid hml
                by_cases hm2 : m < row.length
                · have hcell := own_cellN hom hml m hm2
                  have hfr := own_frozen hom hml m
                  have hst := fun z => own_store hom hml m z
                  have hat := mixL_at (scl p s r) r m HLS.out (by rw [HRN.out]; exact hm2)
                  have hset := mixL_set (scl p s r) r m HLS.out (by rw [HRN.out]; exact hm2)
                  rw [scl_at p s r m (by rw [HRN.out]; exact hm2)] at hset
                  rw [hat] at hcell
                  have hrm := HRX.out.2 _ (getD_mem r m (by rw [HRN.out]; exact hm2))
                  have HSS : Hid (∀ z, z = r.getD m 0 * (s : Int) % (p : Int) → Own (wr.setCell ⟨g, m, none⟩ (.int .i64 z)) wo.heap.size (.slice (some ⟨g, 0, none⟩) row.length gc) (mixL (scl p s r) r (m + 1))) := by
                    intro z hz; rw [hz, ← hset]; exact hst _
                  have hmb := mul_bd (a := r.getD m 0) (b := (s : Int)) ⟨by omega, by omega, by omega, by omega⟩
                  obtain ⟨hmb1, hmb2⟩ := hmb
                  clear hst hat hset hom hbm hml
                  generalize r.getD m 0 = y at hcell HSS hmb1 hmb2 hrm
                  go_wp2
                  go_roundw
                  case rel => exact ⟨m + 1, by omega, by go_num, HSS.out _ rfl, HBM.out.setCell hgB _⟩
                  case measure => simp [intOf]; omega
                · have efin : mixL (scl p s r) r m = scl p s r := by
                    unfold mixL
                    rw [List.take_of_length_le (by rw [HLS.out, HRN.out]; omega), List.drop_eq_nil_of_le (by rw [HRN.out]; omega), List.append_nil]
                  rw [efin] at HOM
                  have FND := hid (HFO.out.below HBM.out)
                  have hsz : w.heap.size ≤ wr.heap.size := Nat.le_trans HBR.out.size HBM.out.size
                  clear efin hom hbm hml HML
                  obtain ⟨hi, hz0, hz1, hz2⟩ := HI.out
                  go_wp2_with (at_builtin; refine wpList_append_own _ rfl _ _ 99 rfl w.heap.size 109 i0 (.agg #[.int .i64 0, .slice none 0 0]) 2 32 Tryd.underlying99 hi hz0 hz1 hz2 rfl (by decide) _ _ _ rfl (FND.out.own.alloc _) ⟨wr.heap.size, 0, none⟩ 1 1 [.int .i64 c, .slice (some ⟨g, 0, none⟩) row.length gc] rfl rfl (two_new _ _ _ _) (two_cells _ _ _ _) (by unfold maxLen; omega) (by omega) (by simp; omega) ?_)
                  intro v' w4 hown' hgrow _
                  have FN2 := hid (Found.snoc (FND.out.below belowNew) (ownBlock_lt (own_base HOM.out (show w.heap.size ≤ wo.heap.size from HBR.out.size)) belowNew) hown' hgrow)
                  have HB4 := hid (show Below w.heap.size w w4 from (HBR.out.trans ((HBM.out.trans (belowNew.mono HBM.out.size)).mono HBR.out.size)).grown hgrow (by simp; omega) (fun k' hk' => (World.ownsRow.lt FND.out.own k' hk').1))
                  obtain ⟨va, vc, hv'⟩ := FN2.out.sl
                  subst hv'
                  clear hown' hgrow hi hz0 hz1 hz2
                  go_wp2_with fail
                  go_roundw
                  case rel => exact ⟨k + 1, qs ++ [((c, scl p s r), .slice (some ⟨g, 0, none⟩) row.length gc)], by omega, by go_num, by simp; omega, FN2.out, by rw [fsOf_snoc]; exact HSOK.out, by rw [fsOf_snoc, HST.out], HB4.out⟩
                  case measure => simp [intOf]; omega
    · have ek : k = rows.length := by omega
      have etk : rows.take k = rows := List.take_of_length_le (by omega)
      rw [etk] at HFS
      have HLN : Hid (qs.length = (pivs p rows).length) := by
        unfold Hid pivs; rw [← HFS.out]; simp
      clear etk ek
      go_wp2
      go_ret
      exact ⟨fa, fc, by rw [← HLN.out]; rfl, HBR.out⟩

end Go.Proofs.YtkmjmmnnnbjghaaDoor

/- Rank; what must be in any case. -/
namespace Go.Proofs.YtkmjmmnnnbjghaaDoor
set_option linter.unusedSimpArgs false
set_option linter.unusedVariables false
open Go.RowKit

def rankR (p : Int) (xss : List (List Int)) : Int := if rowsE p xss = 0 then ((pivs p xss).length : Int) else 0

theorem rowsE_ok {p : Int} {xss : List (List Int)} (h : rowsE p xss = 0) : errP p = 0 ∧ xss.length ≤ 400 ∧ (xss.getD 0 []).length ≤ 400 ∧ ∀ r ∈ xss, RowOk p (xss.getD 0 []).length r := by
  unfold rowsE at h
  by_cases h1 : errP p = 0
  · rw [if_pos h1] at h
    unfold rowE at h
    by_cases h2 : 400 < (xss.length : Int) ∨ xss.any longR = true
    · rw [if_pos h2] at h; omega
    · rw [if_neg h2] at h
      cases h3 : xss.any (unlikeR (xss.getD 0 []).length)
      · rw [if_neg (by rw [h3]; exact Bool.false_ne_true)] at h
        cases h4 : xss.any (fun xs => xs.any (outP p))
        · have hl : xss.any longR = false := by
            cases hh : xss.any longR
            · rfl
            · exact absurd (Or.inr hh) h2
          have hlen := longR_ok hl
          refine ⟨h1, by omega, ?_, fun r hr => ⟨?_, ?_⟩⟩
          · cases xss with
            | nil => simp
            | cons x r => simpa using hlen x (by simp)
          · rw [List.any_eq_false] at h3
            have := h3 r hr
            simp only [unlikeR, bne_iff_ne, ne_eq, Decidable.not_not] at this
            omega
          · rw [List.any_eq_false] at h4
            have := h4 r hr
            exact outP_all (by simpa using this)
        · rw [if_pos h4] at h; omega
      · rw [if_pos h3] at h; omega
  · rw [if_neg h1] at h; exact absurd h h1

set_option maxHeartbeats 400000 in
theorem rank_any (p : Int) (v : Value) (xss : List (List Int)) (w : World) (hr : Rws w v xss) :
    Calls Tryd.prog 50 #[.int .i64 p, v] w fun e w' => e = .returned (.tuple #[.int .i64 (rankR p xss), .int .i64 (rowsE p xss)]) ∧ Below w.heap.size w w' := by
  have HR := hid hr
  obtain ⟨a, cap, rfl, _⟩ := hr
  cases hz : (rowsE p xss != 0)
  · have hz0 : rowsE p xss = 0 := by simpa using hz
    obtain ⟨h1, h2, h3, h4⟩ := rowsE_ok hz0
    obtain ⟨hp1, hp2, _⟩ := errP_ok h1
    have e1 : rankR p xss = ((pivs p xss).length : Int) := by unfold rankR; rw [if_pos hz0]
    rw [e1, hz0]
    have HZ := hid hz0
    have H4 := hid h4
    obtain ⟨pn, rfl⟩ : ∃ n : Nat, p = n := ⟨p.toNat, by omega⟩
    clear e1 hz0 hz h1 h4
    generalize (xss.getD 0 []).length = n at *
    go_enter Tryd.func50, Tryd.ntmps50
    go_wp2_with fail
    refine (checkRows_any pn _ xss _ HR.out).mono ?_
    rintro e w1 ⟨rfl, hb1⟩
    rw [HZ.out]
    go_wp2_with fail
    refine (pivots_any pn n _ xss _ (by omega) (by omega) h2 h3 H4.out (HR.out.below hb1)).mono ?_
    rintro e w2 ⟨ua, uc, rfl, hb2⟩
    go_wp2
    go_ret2
    exact ⟨rfl, hb1.trans (hb2.mono hb1.size)⟩
  · have e1 : rankR p xss = 0 := by unfold rankR; rw [if_neg (by simpa using hz)]
    rw [e1]
    clear e1
    go_enter Tryd.func50, Tryd.ntmps50
    go_wp2_with fail
    refine (checkRows_any p _ xss _ HR.out).mono ?_
    rintro e w1 ⟨rfl, hb1⟩
    go_wp2
    go_ret2
    exact ⟨rfl, hb1⟩

/-- The rows of the beginning, laid. -/
theorem begun_rows (w : World) (T U : TypeId) : Rws ((((w.alloc (.cells #[.int .i64 1, .int .i64 2] T)).alloc (.cells #[.int .i64 2, .int .i64 4] T)).alloc (.cells #[.int .i64 0, .int .i64 1] T)).alloc
    (.cells #[.slice (some ⟨w.heap.size, 0, none⟩) 2 2, .slice (some ⟨w.heap.size + 1, 0, none⟩) 2 2, .slice (some ⟨w.heap.size + 2, 0, none⟩) 2 2] U)) (.slice (some ⟨w.heap.size + 3, 0, none⟩) 3 3) [[1, 2], [2, 4], [0, 1]] := by
  have s0 := (((Sl.of2 w 1 2 T).below (belowTwo (A := .cells #[.int .i64 2, .int .i64 4] T) (B := .cells #[.int .i64 0, .int .i64 1] T))))
  have s1 := (((Sl.of2 (w.alloc (.cells #[.int .i64 1, .int .i64 2] T)) 2 4 T).below (belowNew (A := .cells #[.int .i64 0, .int .i64 1] T))))
  have s2 := Sl.of2 ((w.alloc (.cells #[.int .i64 1, .int .i64 2] T)).alloc (.cells #[.int .i64 2, .int .i64 4] T)) 0 1 T
  have e1 : (w.alloc (.cells #[.int .i64 1, .int .i64 2] T)).heap.size = w.heap.size + 1 := by simp
  have e2 : ((w.alloc (.cells #[.int .i64 1, .int .i64 2] T)).alloc (.cells #[.int .i64 2, .int .i64 4] T)).heap.size = w.heap.size + 2 := by simp
  rw [e1] at s1
  rw [e2] at s2
  refine ⟨_, _, rfl, fun _ => ⟨_, _, rfl, by simp, fun i hi => ?_⟩⟩
  simp at hi
  rcases i with _ | _ | _ | i
  · exact ⟨_, by simp [go_sem], s0.below belowNew⟩
  · exact ⟨_, by simp [go_sem], s1.below belowNew⟩
  · exact ⟨_, by simp [go_sem], s2.below belowNew⟩
  · omega

set_option maxHeartbeats 1000000 in
theorem fieldBegun_any (w : World) : Calls Tryd.prog 21 #[] w fun e w' => e = .returned (.bool true) ∧ Below w.heap.size w w' := by
  have T1 := hid (show ivE 7 3 = 0 ∧ ivR 7 3 = 5 by decide +kernel)
  have T2 := hid (show numE 7 [4, 5] = 0 ∧ fopR (· + ·) 7 4 5 = 2 by decide +kernel)
  have T3 := hid (show rowsE 7 [[1, 2], [2, 4], [0, 1]] = 0 ∧ rankR 7 [[1, 2], [2, 4], [0, 1]] = 2 by decide +kernel)
  have T4 := hid (show errP 7 = 0 by decide +kernel)
  go_enter Tryd.func21, Tryd.ntmps21
  go_wp2_with fail
  refine (fieldInverse_any 7 3 _).mono ?_
  rintro e w1 ⟨rfl, hb1⟩
  rw [T1.out.1, T1.out.2]
  go_wp2_with fail
  refine (fieldAdd_any 7 4 5 _).mono ?_
  rintro e w2 ⟨rfl, hb2⟩
  rw [T2.out.1, T2.out.2]
  have hbb2 : Below w.heap.size w w2 := hb1.trans (hb2.mono hb1.size)
  clear hb1 hb2
  go_wp2_with fail
  refine (rank_any 7 _ [[1, 2], [2, 4], [0, 1]] _ (begun_rows _ _ _)).mono ?_
  rintro e w3 ⟨rfl, hb3⟩
  rw [T3.out.1, T3.out.2]
  have hbb3 : Below w.heap.size w w3 := hbb2.trans ((belowThree.trans (belowNew.mono (by simp; omega))).trans (hb3.mono (by simp; omega)) |>.mono hbb2.size)
  clear hb3
  go_wp2_with fail
  refine (check_any 7 _).mono ?_
  rintro e w' ⟨rfl, rfl⟩
  rw [T4.out]
  go_wp2
  go_ret
  exact ⟨rfl, hbb3⟩

end Go.Proofs.YtkmjmmnnnbjghaaDoor

/- CheckRows of the reference. -/
namespace Go.Proofs.YtkmjmmnnnbjghaaDoor
set_option linter.unusedSimpArgs false
set_option linter.unusedVariables false
open Go.RowKit

theorem outP_between (p x : Int) : outP p x = !betweenB x 0 (p - 1) := by
  unfold outP betweenB
  by_cases h1 : 0 ≤ x <;> by_cases h2 : x ≤ p - 1 <;> simp [h1, h2] <;> omega
theorem slFacts {w : World} {b off : Nat} {xss : List (List Int)} (h : SlsAt w b off xss) (k : Nat) (hk : k < xss.length) : ∃ a c, w.cell? ⟨b, off + k, none⟩ = some (.slice a (xss.getD k []).length c) ∧ Sl w (.slice a (xss.getD k []).length c) (xss.getD k []) := by
  obtain ⟨v, hc, hs⟩ := h k hk
  obtain ⟨a, c, rfl, _⟩ := id hs
  exact ⟨a, c, hc, hs⟩

end Go.Proofs.YtkmjmmnnnbjghaaDoor

/- RankOf of the reference. -/
namespace Go.Proofs.YtkmjmmnnnbjghaaDoor
set_option linter.unusedSimpArgs false
set_option linter.unusedVariables false
open Go.RowKit

theorem run_append_none_c {P : Program} (w : World) (base : Nat) (t ty e : TypeId) (i : TypeInfo) (size : Nat) (ht : P.underlying t = some (.slice e)) (hi : P.info? e = some i)
    (v : Value) (n c : Nat) (xs : List Value) (hown : w.ownsRow base e size v n xs) :
    (Builtin.append_ #[t, t] ty #[v, .slice none 0 c]).run P w = .ok v w := by
  rcases hown.2 with ⟨rfl, rfl⟩ | ⟨g, cap, cur, rfl, _, _, hnc, _⟩
  · simp [Builtin.append_, run_underlying ht, sizeOf, typeInfo, hi, Builtin.lenOf, Builtin.firstCells]
  · simp [Builtin.append_, run_underlying ht, sizeOf, typeInfo, hi, Builtin.lenOf, Builtin.firstCells, hnc, storeCells]
theorem wpList_append_none_c {P : Program} {w : World} {ops : Array Oper} {rest : List Oper} {o : Oper} {a : Act} {Q : Exit → Act → World → Prop} (hgd : o.guard = none) (s x : Operand) (t : TypeId)
    (ho : o.op = .call { callee := .builtin .append, args := #[s, x], argTypes := #[t, t] })
    (base : Nat) (e : TypeId) (i : TypeInfo) (size : Nat) (ht : P.underlying t = some (.slice e)) (hi : P.info? e = some i)
    (v : Value) (n c : Nat) (xs : List Value) (hs : a.eval s = v) (hown : w.ownsRow base e size v n xs) (hx : a.eval x = .slice none 0 c)
    (h : wpList P ops Q rest (a.put o.dst v) w) : wpList P ops Q (o :: rest) a w := by
  refine wpList_plain hgd fun K hK => ?_
  have hrun := run_append_none_c (P := P) w base t o.type e i size ht hi v n c xs hown
  unfold Oper.wp
  simp [execOp, ho, resolve, invoke, builtin, hs, hx, hrun, Result.andThen]
  exact hK _ _ h

theorem Tryd.infoInts : (Tryd.prog.info? 36).map (fun i => (i.zero, i.size, i.bytes)) = some (some (.slice none 0 0), 1, 24) := by kernel_rfl

theorem own_neT {w : World} {B B' : Nat} {T T' : TypeId} {s s' : Nat} {u v : Value} {n m : Nat} {xs ys : List Value} (hT : T ≠ T') (h : w.ownsRow B T s u n xs) (k : w.ownsRow B' T' s' v m ys) : u.ownBlock = none ∨ u.ownBlock ≠ v.ownBlock := by
  rcases h.2 with ⟨rfl, _⟩ | ⟨g, c, cur, rfl, _, hg, _⟩
  · left; rfl
  · right
    rcases k.2 with ⟨rfl, _⟩ | ⟨g', c', cur', rfl, _, hg', _⟩
    · simp [Value.ownBlock]
    · simp only [Value.ownBlock, ne_eq, Option.some.injEq]
      intro e
      subst e
      rw [hg] at hg'
      simp at hg'
      exact hT hg'.2

def qrows (qs : List Piv) : List Value := qs.map Prod.snd
def qcols (qs : List Piv) : List Value := qs.map fun q => .int .i64 q.1.1
structure Kept (B : Nat) (w : World) (kv av : Value) (qs : List Piv) : Prop where
  own : w.ownsRow B 36 1 kv qs.length (qrows qs)
  cols : w.ownsRow B 3 1 av qs.length (qcols qs)
  rows : ∀ q ∈ qs, Own w B q.2 q.1.2
  apart : ∀ q ∈ qs, q.2.ownBlock = none ∨ q.2.ownBlock ≠ av.ownBlock
theorem Kept.below {B : Nat} {w w' : World} {kv av : Value} {qs : List Piv} (h : Kept B w kv av qs) (hb : Below w.heap.size w w') : Kept B w' kv av qs :=
  ⟨ownBlock_lt h.own hb, ownBlock_lt h.cols hb, fun q hq => ownBlock_lt (h.rows q hq) hb, h.apart⟩
theorem own_sl {w : World} {B : Nat} {T : TypeId} {s : Nat} {v : Value} {n : Nat} {xs : List Value} (h : w.ownsRow B T s v n xs) : ∃ a c, v = .slice a n c := by
  rcases h.2 with ⟨h1, h2⟩ | ⟨g, c, cur, h1, _⟩
  · exact ⟨none, 0, by rw [h1, h2]⟩
  · exact ⟨_, c, h1⟩
theorem own_at1 {w : World} {B : Nat} {T : TypeId} {a : Option Addr} {c n : Nat} {xs : List Value} (h : w.ownsRow B T 1 (.slice a n c) n xs) (k : Nat) (hk : k < n) :
    ∃ g, a = some ⟨g, 0, none⟩ ∧ B ≤ g ∧ g < w.heap.size ∧ w.cell? ⟨g, k, none⟩ = xs[k]? := by
  rcases h.2 with ⟨h1, h2⟩ | ⟨g, c', cur, h1, hB, hg, _⟩
  · omega
  · simp only [Value.slice.injEq] at h1
    obtain ⟨rfl, _, _⟩ := h1
    have hlt := World.ownsRow.lt h g rfl
    exact ⟨g, rfl, hlt.1, hlt.2, h.cellAt k (by omega)⟩
theorem Kept.snoc {B : Nat} {W W2 W4 : World} {kv av kv2 : Value} {qs : List Piv} {c : Nat} {r : List Int} {u : Value} {O1 O2 : Obj} {ga ca : Nat} (h : Kept B W kv av qs) (hu : Own W B u r) (hua : u.ownBlock = none ∨ u.ownBlock ≠ av.ownBlock)
    (h2 : W2.ownsRow B 36 1 kv2 (qs.length + 1) (qrows qs ++ [u])) (g2 : (W.alloc O1).grownBy W2 kv.ownBlock)
    (h4 : W4.ownsRow B 3 1 (.slice (some ⟨ga, 0, none⟩) (qs.length + 1) ca) (qs.length + 1) (qcols qs ++ [.int .i64 c])) (g4 : (W2.alloc O2).grownBy W4 av.ownBlock)
    (hat : av.ownBlock = some ga ∨ ga = (W2.alloc O2).heap.size) : Kept B W4 kv2 (.slice (some ⟨ga, 0, none⟩) (qs.length + 1) ca) (qs ++ [((c, r), u)]) := by
  have hTne : (3 : TypeId) ≠ 36 := by decide
  have k1 := h.below (belowNew (A := O1))
  have u1 := ownBlock_lt hu (belowNew (A := O1))
  have r2 : ∀ q ∈ qs, Own W2 B q.2 q.1.2 := fun q hq => (k1.rows q hq).kept g2 (own_neT hTne (k1.rows q hq) k1.own)
  have c2 := k1.cols.kept g2 (own_neT hTne k1.cols k1.own)
  have u2 := u1.kept g2 (own_neT hTne u1 k1.own)
  have r3 : ∀ q ∈ qs, Own (W2.alloc O2) B q.2 q.1.2 := fun q hq => ownBlock_lt (r2 q hq) belowNew
  have c3 := ownBlock_lt c2 (belowNew (A := O2))
  have u3 := ownBlock_lt u2 (belowNew (A := O2))
  have k3 := ownBlock_lt h2 (belowNew (A := O2))
  have k4 := k3.kept g4 (own_neT (Ne.symm hTne) k3 c3)
  have new : ∀ {x : Value} {ys : List Int}, Own (W2.alloc O2) B x ys → (x.ownBlock = none ∨ x.ownBlock ≠ av.ownBlock) → (x.ownBlock = none ∨ x.ownBlock ≠ Value.ownBlock (.slice (some ⟨ga, 0, none⟩) (qs.length + 1) ca)) := by
    intro x ys hx hxa
    rcases hxa with hxa | hxa
    · exact Or.inl hxa
    · rcases hat with hat | hat
      · rw [hat] at hxa; exact Or.inr hxa
      · cases hb : x.ownBlock with
        | none => exact Or.inl rfl
        | some kx =>
          have := (World.ownsRow.lt hx kx hb).2
          right
          simp only [Value.ownBlock, ne_eq, Option.some.injEq]
          omega
  refine ⟨?_, ?_, fun q hq => ?_, fun q hq => ?_⟩
  · rw [qrows, List.map_append, List.length_append]; exact k4
  · rw [qcols, List.map_append, List.length_append]; exact h4
  · rw [List.mem_append, List.mem_singleton] at hq
    rcases hq with hq | rfl
    · exact (r3 q hq).kept g4 (h.apart q hq)
    · exact u3.kept g4 hua
  · rw [List.mem_append, List.mem_singleton] at hq
    rcases hq with hq | rfl
    · exact new (r3 q hq) (h.apart q hq)
    · exact new u3 hua

end Go.Proofs.YtkmjmmnnnbjghaaDoor
