/- RankOf, walked. -/
import Derived.Test.YtkmjmmnnnbjghaaFJ
namespace Go.Proofs.Ytkmjmmnnnbjghaa
set_option linter.unusedSimpArgs false
set_option linter.unusedVariables false
open Go.RowKit

theorem qcols_at (qs : List Piv) (k : Nat) (h : k < qs.length) : (qcols qs)[k]? = some (.int .i64 qs[k].1.1) := by simp [qcols, h]
theorem qrows_at (qs : List Piv) (k : Nat) (h : k < qs.length) : (qrows qs)[k]? = some qs[k].2 := by simp [qrows, h]
theorem one_new (w : World) (a : Value) (T : TypeId) : ∀ j u, [a][j]? = some u → (w.alloc (.cells #[a] T)).cell? ((⟨w.heap.size, 0, none⟩ : Addr).add j) = some u := by
  intro j u hj
  rcases j with _ | j
  · simp at hj; subst hj; simp [Addr.add]
  · simp at hj
theorem one_slice (a : Option Addr) (n k : Nat) : ∀ u ∈ [Value.slice a n k], u.oneCell' = true := by
  intro u hu; simp at hu; subst hu; rfl
theorem one_int (c : Int) : ∀ u ∈ [Value.int .i64 c], u.oneCell' = true := by
  intro u hu; simp at hu; subst hu; rfl

set_option maxRecDepth 100000 in
set_option maxHeartbeats 4000000 in
theorem rankOf_any (p n : Nat) (v : Value) (rows : List (List Int)) (w : World) (hp : 2 ≤ p) (hp2 : p ≤ 101) (hpr : noDiv p p = true) (hm : rows.length ≤ 400) (hn : n ≤ 400)
    (hrows : ∀ r ∈ rows, RowOk p n r) (hr : Rws w v rows) :
    Calls Try.prog 20 #[.int .i64 p, v] w fun e w' => e = .returned (.int .i64 (pivs p rows).length) ∧ Below w.heap.size w w' := by
  have HR := hid hr
  have HROWS := hid hrows
  have HPR := hid hpr
  obtain ⟨ra, rcap, rfl, _⟩ := hr
  obtain ⟨i0, hi, hz0, hz1, hz2⟩ := info_parts Try.infoInt
  have HI := hid (And.intro hi (And.intro hz0 (And.intro hz1 hz2)))
  clear hrows hi hz0 hz1 hz2 hpr
  obtain ⟨i1, hi, hz0, hz1, hz2⟩ := info_parts Try.infoInts
  have HI1 := hid (And.intro hi (And.intro hz0 (And.intro hz1 hz2)))
  clear hi hz0 hz1 hz2
  go_enter Try.func20, Try.ntmps20
  go_wp2
  go_loopw [5, 6, 7] (fun kv av i wr => ∃ (k : Nat) (qs : List Piv), k ≤ rows.length ∧ i = .int .i64 k ∧ qs.length ≤ k ∧ Kept w.heap.size wr kv av qs ∧ (∀ f ∈ fsOf qs, PivOk p n f) ∧ fsOf qs = (rows.take k).foldl (stepP p) [] ∧ Below w.heap.size w wr) (fun _ _ i _ => rows.length - (intOf i).toNat)
  case atStart => exact ⟨0, [], Nat.zero_le _, rfl, Nat.le_refl _, ⟨World.ownsRow_nil _ _ _ _, World.ownsRow_nil _ _ _ _, fun q hq => by simp at hq, fun q hq => by simp at hq⟩, fun f hf => by simp at hf, rfl, Below.refl _ _⟩
  case round =>
    obtain ⟨k, qs, hk, rfl, hqk, hfo, hok, hfs, hbr⟩ := hrel
    obtain ⟨wo, hwo⟩ : ∃ wo : World, wo = wr := ⟨_, rfl⟩
    subst hwo
    have HFO := hid hfo
    have HOK := hid hok
    have HFS := hid hfs
    have HBR := hid hbr
    obtain ⟨fa, fc, rfl⟩ := own_sl hfo.own
    obtain ⟨ta, tc, rfl⟩ := own_sl hfo.cols
    clear hfo hok hfs
    by_cases hk2 : k < rows.length
    · obtain ⟨a, cap, he, hrr⟩ := HR.out
      obtain ⟨b, off, ha, hlt, hsl⟩ := hrr (by omega)
      simp only [Value.slice.injEq] at he
      obtain ⟨rfl, _, rfl⟩ := he
      subst ha
      obtain ⟨sa, sc, hcell, hs⟩ := slFacts hsl k hk2
      rw [← hbr.cell (p := ⟨b, off + k, none⟩) hlt] at hcell
      have HSL := hid (hs.below hbr)
      have HRW := hid (HROWS.out _ (getR_mem rows k hk2))
      have HST : Hid ((rows.take (k + 1)).foldl (stepP p) [] = stepP p (fsOf qs) (rows.getD k [])) := by
        unfold Hid
        rw [List.take_succ_eq_append_getElem hk2, List.foldl_append, ← HFS.out]
        simp [List.getD_eq_getElem?_getD, hk2]
      have hso := hbr.size
      clear hrr hsl hs hbr
      generalize rows.getD k [] = row at HSL HRW HST hcell
      have hlr1 : row.length ≤ 400 := by have := HRW.out.1; omega
      have hcell2 : ∀ O, (wo.alloc O).cell? ⟨b, off + k, none⟩ = some (.slice sa row.length sc) := fun O => by
        rw [belowNew.cell (p := ⟨b, off + k, none⟩) (show b < wo.heap.size by omega)]; exact hcell
      obtain ⟨hi, hz0, hz1, hz2⟩ := HI.out
      by_cases hn0 : row.length = 0
      · have hnn : n = 0 := by have := HRW.out.1; omega
        have hq0 : qs = [] := by
          cases qs with
          | nil => rfl
          | cons q qs => have h1 := (HOK.out q.1 (by simp)).1; omega
        have hrow : row = [] := List.length_eq_zero_iff.1 hn0
        subst hq0 hrow
        clear hn0 hnn
        cases sa with
        | none =>
          have HB2 := hid (show Below wo.heap.size wo (wo.alloc (.cells #[] 3)) from belowNew)
          go_wp2_with (at_builtin; refine wpList_append_none_c rfl _ _ 36 rfl wo.heap.size 3 i0 1 Try.underlying36 hi _ _ _ _ rfl (World.ownsRow_made wo #[] 0 (Nat.le_refl _) (by decide) (by simp)) rfl ?_)
          have HST2 : Hid ((rows.take (k + 1)).foldl (stepP p) [] = []) := HST.out
          go_wp2_with fail
          go_loop [9] (fun i => i = .int .i64 0) (fun _ => 0)
          case atStart => rfl
          case round =>
            subst hrel
            go_wp2_with fail
            go_loop [12] (fun i => i = .int .i64 0) (fun _ => 0)
            case atStart => rfl
            case round =>
              subst hrel
              go_wp2_with fail
              go_roundw
              case rel => exact ⟨k + 1, [], by omega, by go_num, by simp, HFO.out.below HB2.out, fun f hf => by simp at hf, by rw [HST2.out]; rfl, HBR.out.trans (HB2.out.mono HBR.out.size)⟩
              case measure => simp [intOf]; omega
        | some ad =>
          have HN : Hid (∀ j u, (ints [])[j]? = some u → (wo.alloc (.cells #[] 3)).cell? (ad.add j) = some u) := by
            intro j u hj; simp at hj
          go_wp2_with (at_builtin; refine wpList_append_own _ rfl _ _ 36 rfl wo.heap.size 3 i0 (.int .i64 0) 1 8 Try.underlying36 hi hz0 hz1 hz2 rfl (by decide) _ _ _ rfl (World.ownsRow_made wo #[] 0 (Nat.le_refl _) (by decide) (by simp)) ad 0 sc (ints []) rfl (by simp) HN.out (ints_one []) (by unfold maxLen; omega) (by omega) (by simp) ?_)
          intro rest w2 hown' hgrow _
          try simp only [Nat.zero_add, List.nil_append] at hown'
          have hown : Own w2 wo.heap.size rest [] := hown'
          have HB2 := hid (show Below wo.heap.size wo w2 from (belowNew).grown hgrow (by simp) (fun k hk => by simp [Value.ownBlock] at hk; omega))
          obtain ⟨ra', rc', hrf⟩ := own_any_form hown
          subst hrf
          clear hown hown' hgrow
          have HST2 : Hid ((rows.take (k + 1)).foldl (stepP p) [] = []) := HST.out
          go_wp2_with fail
          go_loop [9] (fun i => i = .int .i64 0) (fun _ => 0)
          case atStart => rfl
          case round =>
            subst hrel
            go_wp2_with fail
            go_loop [12] (fun i => i = .int .i64 0) (fun _ => 0)
            case atStart => rfl
            case round =>
              subst hrel
              go_wp2_with fail
              go_roundw
              case rel => exact ⟨k + 1, [], by omega, by go_num, by simp, HFO.out.below HB2.out, fun f hf => by simp at hf, by rw [HST2.out]; rfl, HBR.out.trans (HB2.out.mono HBR.out.size)⟩
              case measure => simp [intOf]; omega
      · obtain ⟨a3, c3, he3, hh3⟩ := HSL.out
        obtain ⟨b3, off3, ha3, hlt3, hc3⟩ := hh3 (by omega)
        simp only [Value.slice.injEq] at he3
        obtain ⟨rfl, _, rfl⟩ := he3
        subst ha3
        have HN : Hid (∀ j u, (ints row)[j]? = some u → (wo.alloc (.cells #[] 3)).cell? ((⟨b3, off3, none⟩ : Addr).add j) = some u) := by
          intro j u hj
          refine intsAt_news (w := wo.alloc (.cells #[] 3)) (b := b3) (off := off3) ?_ j u hj
          intro i hi
          rw [belowNew.cell (p := ⟨b3, off3 + i, none⟩) hlt3]; exact hc3 i hi
        clear hc3 hh3
        go_wp2_with (at_builtin; refine wpList_append_own _ rfl _ _ 36 rfl wo.heap.size 3 i0 (.int .i64 0) 1 8 Try.underlying36 hi hz0 hz1 hz2 rfl (by decide) _ _ _ rfl (World.ownsRow_made wo #[] 0 (Nat.le_refl _) (by decide) (by simp)) ⟨b3, off3, none⟩ row.length sc (ints row) rfl (by simp) HN.out (ints_one row) (by unfold maxLen; omega) (by omega) (by simp) ?_)
        intro rest w2 hown' hgrow _
        try simp only [Nat.zero_add, List.nil_append] at hown'
        have hown : Own w2 wo.heap.size rest row := hown'
        have HB2 := hid (show Below wo.heap.size wo w2 from (belowNew).grown hgrow (by simp) (fun k hk => by simp [Value.ownBlock] at hk; omega))
        have HOWN := hid hown
        obtain ⟨g, gc, hrest, hgB, hgw⟩ := own_form hown (by omega)
        subst hrest
        clear hown hown' hgrow hi hz0 hz1 hz2 hcell hcell2 HN
        go_wp2_with fail
        go_loopw [9] (fun i wx => ∃ j : Nat, j ≤ qs.length ∧ i = .int .i64 j ∧ Own wx wo.heap.size (.slice (some ⟨g, 0, none⟩) row.length gc) (redL p row ((fsOf qs).take j)) ∧ Below wo.heap.size wo wx) (fun i _ => qs.length - (intOf i).toNat)
        case atStart => exact ⟨0, Nat.zero_le _, rfl, HOWN.out, HB2.out⟩
        case round =>
          obtain ⟨j, hj, rfl, ho, hbx⟩ := hrel
          by_cases hj2 : j < qs.length
          · have hfx := HFO.out.below hbx
            obtain ⟨fg, hfa, hfg1, hfg2, hfc1⟩ := own_at1 hfx.own j hj2
            obtain ⟨tg, hta, htg1, htg2, htc1⟩ := own_at1 hfx.cols j hj2
            rw [qrows_at qs j hj2] at hfc1
            rw [qcols_at qs j hj2] at htc1
            subst hfa hta
            have hfg0 := (World.ownsRow.lt HFO.out.own fg rfl).2
            have htg0 := (World.ownsRow.lt HFO.out.cols tg rfl).2
            have hjf : j < (fsOf qs).length := by simpa using hj2
            have HPV := hid (HOK.out (fsOf qs)[j] (List.getElem_mem hjf))
            have HRD := hid (redL_take (p := p) (row := row) hjf)
            have HRX := hid (redL_ok (n := n) (by omega) ((fsOf qs).take j) row HRW.out (fun f hf => (HOK.out f (List.mem_of_mem_take hf)).2))
            have hqr := hfx.rows qs[j] (List.getElem_mem hj2)
            have hqr0 := HFO.out.rows qs[j] (List.getElem_mem hj2)
            have efs : (fsOf qs)[j] = qs[j].1 := by simp
            rw [efs] at HPV HRD
            generalize qs[j] = q at hfc1 htc1 hqr hqr0 HPV HRD
            obtain ⟨⟨qc, qrow⟩, qv⟩ := q
            have hql : qrow.length = row.length := by have h1 := HPV.out.2.1; have h2 := HRW.out.1; simp only at h1; omega
            obtain ⟨qg, qcap, hqv, hqg1, hqg2⟩ := own_form hqr0 (by simp only; omega)
            simp only at hfc1 htc1 hqr hqr0 hqv
            subst hqv
            have HRL := hid (show (redL p row ((fsOf qs).take j)).length = row.length by rw [HRX.out.1, HRW.out.1])
            have hqc : qc < row.length := by have h1 := HPV.out.1; have h2 := HRW.out.1; simp only at h1; omega
            have hrc := own_cellN ho HRL.out qc hqc
            have hxb := HRX.out.2 _ (getD_mem _ qc (by rw [HRL.out]; exact hqc))
            have HQL := hid hql
            have HQR := hid hqr
            have HO := hid ho
            have HBX := hid hbx
            have hsx := hbx.size
            have HCL : Hid (clr p (redL p row ((fsOf qs).take j)) (qc, qrow) = if (redL p row ((fsOf qs).take j)).getD qc 0 = 0 then redL p row ((fsOf qs).take j) else zipI (clrF p (p - (redL p row ((fsOf qs).take j)).getD qc 0)) (redL p row ((fsOf qs).take j)) qrow) := rfl
            have HRD2 : Hid (redL p row ((fsOf qs).take (j + 1)) = clr p (redL p row ((fsOf qs).take j)) (qc, qrow)) := HRD.out
            rw [HCL.out] at HRD2
            clear hfx hjf efs hqr hqr0 hql ho hbx HCL HRD
            have hqcI : (qc : Int) < (row.length : Int) := by omega
            generalize redL p row ((fsOf qs).take j) = xs at HRX HRL hrc hxb HO HRD2
            generalize xs.getD qc 0 = x at hrc hxb HRD2
            obtain ⟨hx1, hx2⟩ := hxb
            obtain ⟨wi, hwi⟩ : ∃ wi : World, wi = wr := ⟨_, rfl⟩
            subst hwi
            cases hz : (x != 0)
            · have hz' : x = 0 := by simpa using hz
              rw [if_pos hz'] at HRD2
              clear hz'
              go_wp2_with fail
              go_loop [11] (fun i => i = .int .i64 0) (fun _ => 0)
              case atStart => rfl
              case round =>
                subst hrel
                go_wp2_with fail
                go_roundw
                case rel => exact ⟨j + 1, by omega, by go_num, by rw [HRD2.out]; exact HO.out, HBX.out⟩
                case measure => simp [intOf]; omega
            · have hz' : ¬ x = 0 := by simpa using hz
              rw [if_neg hz'] at HRD2
              have HLZ := hid (show (zipI (clrF p (p - x)) xs qrow).length = xs.length from zipI_len _ _ _ (by rw [HRL.out, HQL.out]))
              have HZA := hid (fun m hm => zipI_at (clrF p (p - x)) xs qrow (by rw [HRL.out, HQL.out]) m hm)
              have hgw2 : g < wi.heap.size := (own_lt HO.out).2
              clear hz'
              generalize hzs : zipI (clrF p (p - x)) xs qrow = zs at HLZ HZA HRD2
              clear hzs
              go_wp2_with fail
              clear hrc
              go_loopw [11] (fun i wx => ∃ m : Nat, m ≤ row.length ∧ i = .int .i64 m ∧ Own wx wo.heap.size (.slice (some ⟨g, 0, none⟩) row.length gc) (mixL zs xs m) ∧ wi.grownBy wx (some g)) (fun i _ => row.length - (intOf i).toNat)
              case atStart => exact ⟨0, Nat.zero_le _, rfl, by simpa [mixL] using HO.out, grown_refl _ _⟩
              case round =>
                obtain ⟨m, hm1, rfl, hom, hgm⟩ := hrel
                have HOM := hid hom
                have HGM := hid hgm
                have hml := mixL_len zs xs m HLZ.out (by rw [HRL.out]; exact hm1)
                rw [HRL.out] at hml
                by_cases hm2 : m < row.length
                · have hcm := own_cellN hom hml m hm2
                  have hfr := own_frozen hom hml m
                  have hst := fun z => own_store hom hml m z
                  have hat := mixL_at zs xs m HLZ.out (by rw [HRL.out]; exact hm2)
                  have hset := mixL_set zs xs m HLZ.out (by rw [HRL.out]; exact hm2)
                  rw [hat] at hcm
                  have hza := HZA.out m (by rw [HRL.out]; exact hm2)
                  rw [hza] at hset
                  have hxm := HRX.out.2 _ (getD_mem xs m (by rw [HRL.out]; exact hm2))
                  have hym := HPV.out.2.2 _ (getD_mem qrow m (by rw [HQL.out]; exact hm2))
                  have hfc2 := hgm.cell hfc1 (fun e => by simp at e; omega)
                  have hqm := hgm.cell (own_cell HQR.out m (by rw [HQL.out]; exact hm2)) (fun e => by simp at e; omega)
                  have HSS : Hid (∀ z, z = clrF p (p - x) (xs.getD m 0) (qrow.getD m 0) → Own (wr.setCell ⟨g, m, none⟩ (.int .i64 z)) wo.heap.size (.slice (some ⟨g, 0, none⟩) row.length gc) (mixL zs xs (m + 1))) := by
                    intro z hz; rw [hz, ← hset]; exact hst _
                  have hqml : (m : Int) < (qrow.length : Int) := by have := HQL.out; omega
                  clear hst hat hset hom hgm hml hza
                  generalize xs.getD m 0 = x1 at hcm HSS hxm
                  generalize qrow.getD m 0 = y1 at hqm HSS hym
                  obtain ⟨hxm1, hxm2⟩ := hxm
                  obtain ⟨hym1, hym2⟩ := hym
                  obtain ⟨hmb1, hmb2⟩ := mul_bd (a := (p : Int) - x) (b := y1) ⟨by omega, by omega, by omega, by omega⟩
                  go_wp2_with fail
                  go_region
                  all_goals
                    go_wp2
                    go_roundw
                    case rel => exact ⟨m + 1, by omega, by go_num, HSS.out _ rfl, grown_drew (grown_trans HGM.out (grown_set _ _ _ _))⟩
                    case measure => simp [intOf]; omega
                · have efin : mixL zs xs m = zs := by
                    unfold mixL
                    rw [List.take_of_length_le (by rw [HLZ.out, HRL.out]; omega), List.drop_eq_nil_of_le (by rw [HRL.out]; omega), List.append_nil]
                  rw [efin] at HOM
                  clear efin hom hgm hml
                  go_wp2_with fail
                  go_roundw
                  case rel => exact ⟨j + 1, by omega, by go_num, by rw [HRD2.out]; exact HOM.out, HBX.out.trans (grown_below HGM.out hgB hsx)⟩
                  case measure => simp [intOf]; omega
          · have etk : (fsOf qs).take j = fsOf qs := List.take_of_length_le (by simp; omega)
            rw [etk] at ho
            have HRX := hid (redL_ok (n := n) (by omega) (fsOf qs) row HRW.out (fun f hf => (HOK.out f hf).2))
            have hRN : (redL p row (fsOf qs)).length = row.length := by rw [HRX.out.1, HRW.out.1]
            have HRN := hid hRN
            have HSP : Hid (stepP p (fsOf qs) row = if nz (redL p row (fsOf qs)) = row.length then fsOf qs else fsOf qs ++ [(nz (redL p row (fsOf qs)), scl p (invI p ((redL p row (fsOf qs)).getD (nz (redL p row (fsOf qs))) 0)) (redL p row (fsOf qs)))]) := by
              unfold Hid stepP; rw [hRN]
            have HO := hid ho
            have HBX := hid hbx
            have HSOK := hid (stepP_ok (p := p) (n := n) (by omega) HOK.out HRW.out)
            rw [HSP.out] at HSOK
            rw [HSP.out] at HST
            clear ho hbx etk hRN HSP
            have hnzle := nz_le (redL p row (fsOf qs))
            have hnzat := nz_at (redL p row (fsOf qs))
            have NB := hid (nz_before (redL p row (fsOf qs)))
            rw [HRN.out] at hnzle hnzat
            have HNA := hid hnzat
            clear hnzat
            generalize redL p row (fsOf qs) = r at HRX HRN HST HO HSOK hnzle HNA NB
            obtain ⟨wi, hwi⟩ : ∃ wi : World, wi = wr := ⟨_, rfl⟩
            subst hwi
            go_wp2_with fail
            clear hj hj2
            go_loop [12] (fun i => ∃ f : Nat, f ≤ nz r ∧ i = .int .i64 f) (fun i => row.length - (intOf i).toNat)
            case atStart => exact ⟨0, Nat.zero_le _, rfl⟩
            case round =>
              obtain ⟨f, hf, rfl⟩ := hrel
              by_cases hf2 : f < nz r
              · have hfN : f < row.length := by omega
                have hcf := own_cellN HO.out HRN.out f hfN
                rw [NB.out f hf2] at hcf
                go_wp2
                go_round
                case rel => exact ⟨f + 1, by omega, by go_num⟩
                case measure => simp [intOf]; omega
              · have hfe : f = nz r := by omega
                by_cases hz : nz r = row.length
                · rw [if_pos hz] at HST HSOK
                  have hfl : f = row.length := by omega
                  have hfl2 : ((f : Int) == (row.length : Int)) = true := by simp; omega
                  have hfl3 : ¬ (f : Int) < (row.length : Int) := by omega
                  clear hfe hz hf hf2 hnzle hfl
                  go_wp2_with fail
                  go_roundw
                  case rel => exact ⟨k + 1, qs, by omega, by go_num, by omega, HFO.out.below HBX.out, HSOK.out, by rw [HST.out], HBR.out.trans (HBX.out.mono HBR.out.size)⟩
                  case measure => simp [intOf]; omega
                · rw [if_neg hz] at HST HSOK
                  have hcN : f < row.length := by omega
                  have hcell := own_cellN HO.out HRN.out f hcN
                  have hne0 := HNA.out (by omega)
                  have hmem := HRX.out.2 _ (getD_mem r f (by rw [HRN.out]; exact hcN))
                  rw [← hfe] at hne0 HST HSOK
                  clear hz hf hf2 hnzle hfe NB HNA
                  generalize hx : r.getD f 0 = x at *
                  clear hx
                  obtain ⟨an, rfl⟩ : ∃ an : Nat, x = an := ⟨x.toNat, by omega⟩
                  have ha1 : an < p := by omega
                  have ha0 : ((an : Int) == 0) = false := by simpa using hne0
                  have hfN : ((f : Int) == (row.length : Int)) = false := by simp; omega
                  have HOKI := hid (invOk_of (p := p) (a := an) hp hp2 HPR.out (by omega) ha1)
                  have hcN' : (f : Int) < (row.length : Int) := by omega
                  clear hmem hne0
                  go_wp2_with fail
                  refine (inverseOf_any p an _ hp hp2 ha1 HOKI.out).mono ?_
                  rintro e wd ⟨rfl, hwd⟩
                  have hbd := below_ndraws (Below.refl wi.heap.size wi) hwd
                  have HOD := hid (own_kept HO.out hbd)
                  have HBD := hid (HBX.out.trans (hbd.mono HBX.out.size))
                  have hsl := pwN_lt p an hp (p - 2)
                  have HSV : Hid (invI (p : Int) (an : Int) = (invN p an : Int)) := rfl
                  rw [HSV.out] at HST HSOK
                  have hsl2 : invN p an < p := hsl
                  clear hsl HSV hwd hbd HO HBX hcell
                  generalize invN p an = s at hsl2 HST HSOK
                  have HLS : Hid ((scl p s r).length = r.length) := by simp [Hid, scl]
                  go_wp2_with fail
                  go_loopw [14] (fun i wx => ∃ m : Nat, m ≤ row.length ∧ i = .int .i64 m ∧ Own wx wo.heap.size (.slice (some ⟨g, 0, none⟩) row.length gc) (mixL (scl p s r) r m) ∧ Below wo.heap.size wo wx) (fun i _ => row.length - (intOf i).toNat)
                  case atStart => exact ⟨0, Nat.zero_le _, rfl, by simpa [mixL] using HOD.out, HBD.out⟩
                  case round =>
                    obtain ⟨m, hm1, rfl, hom, hbm⟩ := hrel
                    have HOM := hid hom
                    have HBM := hid hbm
                    have hml := mixL_len (scl p s r) r m HLS.out (by rw [HRN.out]; exact hm1)
                    rw [HRN.out] at hml
                    by_cases hm2 : m < row.length
                    · have hcm := own_cellN hom hml m hm2
                      have hfr := own_frozen hom hml m
                      have hst := fun z => own_store hom hml m z
                      have hat := mixL_at (scl p s r) r m HLS.out (by rw [HRN.out]; exact hm2)
                      have hset := mixL_set (scl p s r) r m HLS.out (by rw [HRN.out]; exact hm2)
                      rw [scl_at p s r m (by rw [HRN.out]; exact hm2)] at hset
                      rw [hat] at hcm
                      have hrm := HRX.out.2 _ (getD_mem r m (by rw [HRN.out]; exact hm2))
                      have HSS : Hid (∀ z, z = r.getD m 0 * (s : Int) % (p : Int) → Own (wr.setCell ⟨g, m, none⟩ (.int .i64 z)) wo.heap.size (.slice (some ⟨g, 0, none⟩) row.length gc) (mixL (scl p s r) r (m + 1))) := by
                        intro z hz; rw [hz, ← hset]; exact hst _
                      obtain ⟨hmb1, hmb2⟩ := mul_bd (a := r.getD m 0) (b := (s : Int)) ⟨by omega, by omega, by omega, by omega⟩
                      clear hst hat hset hom hbm hml
                      generalize r.getD m 0 = y at hcm HSS hmb1 hmb2 hrm
                      go_wp2
                      go_roundw
                      case rel => exact ⟨m + 1, by omega, by go_num, HSS.out _ rfl, HBM.out.setCell hgB _⟩
                      case measure => simp [intOf]; omega
                    · have efin : mixL (scl p s r) r m = scl p s r := by
                        unfold mixL
                        rw [List.take_of_length_le (by rw [HLS.out, HRN.out]; omega), List.drop_eq_nil_of_le (by rw [HRN.out]; omega), List.append_nil]
                      rw [efin] at HOM
                      have FND := hid (HFO.out.below HBM.out)
                      have hsz : w.heap.size ≤ wr.heap.size := Nat.le_trans HBR.out.size HBM.out.size
                      have HUA : Hid (Value.ownBlock (.slice (some ⟨g, 0, none⟩) row.length gc) = none ∨ Value.ownBlock (.slice (some ⟨g, 0, none⟩) row.length gc) ≠ Value.ownBlock (.slice ta qs.length tc)) := by
                        right
                        intro e
                        have h1 := (World.ownsRow.lt HFO.out.cols g (by rw [← e]; rfl)).2
                        omega
                      clear efin hom hbm hml
                      obtain ⟨hi, hz0, hz1, hz2⟩ := HI.out
                      obtain ⟨ji, jz0, jz1, jz2⟩ := HI1.out
                      go_wp2_with (at_builtin; refine wpList_append_own _ rfl (.tmp 111) (.tmp 113) 31 rfl w.heap.size 36 i1 (.slice none 0 0) 1 24 Try.underlying31 ji jz0 jz1 jz2 rfl (by decide) _ _ _ rfl (FND.out.own.alloc _) ⟨wr.heap.size, 0, none⟩ 1 1 [.slice (some ⟨g, 0, none⟩) row.length gc] rfl rfl (one_new _ _ _) (one_slice _ _ _) (by unfold maxLen; omega) (by omega) (by simp; omega) ?_)
                      intro kv2 w4 hown2 hgrow2 _
                      obtain ⟨ka, kc, hkv⟩ := own_sl hown2
                      subst hkv
                      have H2 := hid hown2
                      have G2 := hid hgrow2
                      have C4 := hid (show w4.ownsRow w.heap.size 3 1 (.slice ta qs.length tc) qs.length (qcols qs) from ((FND.out.below belowNew).cols).kept hgrow2 (own_neT (by decide) FND.out.cols FND.out.own))
                      have hs4 : wr.heap.size < w4.heap.size := by have := hgrow2.size; simp at this; omega
                      clear hown2 hgrow2 ji jz0 jz1 jz2
                      go_wp2_with (at_builtin; refine wpList_append_lies _ rfl (.tmp 115) (.tmp 117) 36 rfl w.heap.size 3 i0 (.int .i64 0) 1 8 Try.underlying36 hi hz0 hz1 hz2 rfl (by decide) _ _ _ rfl (C4.out.alloc _) ⟨w4.heap.size, 0, none⟩ 1 1 [.int .i64 f] rfl rfl (one_new _ _ _) (one_int _) (by decide) (by unfold maxLen; omega) (by omega) (by simp; omega) _ rfl ?_)
                      intro ga ca w5 hown4 hgrow4 hat4 _
                      have FN2 := hid (Kept.snoc FND.out (own_base HOM.out (show w.heap.size ≤ wo.heap.size from HBR.out.size)) HUA.out H2.out G2.out hown4 hgrow4 (by rw [show (w4.alloc (Obj.cells #[Value.int IntKind.i64 (f : Int)] 3)).heap.size = w4.heap.size + 1 by simp]; exact hat4))
                      have HB5 := hid (show Below w.heap.size w w5 from by
                        have b1 : Below w.heap.size w wr := HBR.out.trans (HBM.out.mono HBR.out.size)
                        have b2 := (b1.trans (belowNew.mono b1.size)).grown G2.out (by simp; omega) (fun k' hk' => (World.ownsRow.lt FND.out.own k' hk').1)
                        exact (b2.trans (belowNew.mono b2.size)).grown hgrow4 (by simp; omega) (fun k' hk' => (World.ownsRow.lt FND.out.cols k' hk').1))
                      clear hown4 hgrow4 hat4 hi hz0 hz1 hz2
                      go_wp2_with fail
                      go_roundw
                      case rel => exact ⟨k + 1, qs ++ [((f, scl p s r), .slice (some ⟨g, 0, none⟩) row.length gc)], by omega, by go_num, by simp; omega, FN2.out, by rw [fsOf_snoc]; exact HSOK.out, by rw [fsOf_snoc, HST.out], HB5.out⟩
                      case measure => simp [intOf]; omega
    · have etk : rows.take k = rows := List.take_of_length_le (by omega)
      rw [etk] at HFS
      have HLN : Hid ((qs.length : Int) = ((pivs p rows).length : Int)) := by
        have h1 : qs.length = (pivs p rows).length := by unfold pivs; rw [← HFS.out]; simp
        unfold Hid; omega
      clear etk
      go_wp2
      go_ret
      exact ⟨ret_int HLN.out, HBR.out⟩

end Go.Proofs.Ytkmjmmnnnbjghaa

