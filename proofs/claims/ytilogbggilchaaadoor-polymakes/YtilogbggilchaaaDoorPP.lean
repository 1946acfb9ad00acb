/- Print: a term. -/
import Derived.Test.YtilogbggilchaaaDoorPN
import Derived.Lib.ItoaNum
import Derived.Lib.Join
import Derived.Deep.CutBlock
import Derived.Deep.DeepCutAuto
namespace Go.Proofs.YtilogbggilchaaaDoor
set_option linter.unusedSimpArgs false
set_option linter.unusedVariables false
open Go.RowKit
theorem Tryd.infoStr : (Tryd.prog.info? 9).map (fun i => (i.zero, i.size, i.bytes)) = some (some (.string ⟨#[]⟩), 1, 16) := by kernel_rfl
def mkS (l : List UInt8) : Value := .string ⟨l.toArray⟩
def ItoK (Q : Nat → Prop) (w0 : World) : Prop := ∀ (i : Nat) (W : World), Q i → Below w0.heap.size w0 W → Calls Tryd.prog 65 #[.int .i64 i] W fun e w' => e = .returned (.string ⟨(Lib.decDigits i).toArray⟩) ∧ Below W.heap.size W w'
def varB : Nat → List UInt8
  | 0 => [120]
  | 1 => [121]
  | _ => [122]
def powB (k : Nat) (e : Int) : List UInt8 := if 1 < e then varB k ++ ([94] ++ Lib.decDigits e.toNat) else varB k
def pows (es : List Int) : Nat → List (List UInt8)
  | 0 => []
  | k + 1 => pows es k ++ (if es.getD k 0 = 0 then [] else [powB k (es.getD k 0)])
def facs (c : Nat) (es : List Int) : List (List UInt8) := if (c : Int) ≠ 1 ∨ sumI es = 0 then [Lib.decDigits c] else []

theorem varS {k : Nat} (h : k < 3) : (⟨#[120, 121, 122]⟩ : ByteArray).extract k (k + 1) = ⟨(varB k).toArray⟩ := by
  rcases k with _ | _ | _ | k
  · rfl
  · rfl
  · rfl
  · omega
theorem bs_app (a b : List UInt8) : (⟨a.toArray⟩ : ByteArray) ++ ⟨b.toArray⟩ = ⟨(a ++ b).toArray⟩ := by
  apply ByteArray.ext
  simp
def JoK : Prop := ∀ (bk o c : Nat) (xs : List (List UInt8)) (sep : List UInt8) (W : World), (∀ (j : Nat) x, xs[j]? = some x → W.cell? ⟨bk, o + j, none⟩ = some (mkS x)) → bk < W.heap.size → xs.length ≤ c → xs.length ≤ 1000000 → sep.length ≤ 1000 → (∀ x ∈ xs, x.length ≤ 1000) →
  Calls Tryd.prog 41 #[.slice (some ⟨bk, o, none⟩) xs.length c, .string ⟨sep.toArray⟩] W fun e w' => e = .returned (mkS (Lib.join xs sep)) ∧ Below W.heap.size W w'
theorem digs_len {i : Nat} (h : i ≤ 999) : (Lib.decDigits i).length ≤ 3 := by
  by_cases h1 : i < 10
  · rw [Lib.decDigits_one h1]; simp
  · by_cases h2 : i < 100
    · rw [Lib.decDigits_two h1 h2]; simp
    · have e : Lib.decDigits i = Lib.decDigits (i / 10) ++ [UInt8.ofNat (48 + i % 10)] := by rw [Lib.decDigits.eq_def, dif_neg h1]
      rw [e, Lib.decDigits_two (by omega) (by omega)]; simp
theorem varB_len (k : Nat) : (varB k).length = 1 := by rcases k with _ | _ | k <;> rfl
theorem powB_len (k : Nat) {e : Int} (h : e ≤ 200) : (powB k e).length ≤ 5 := by
  unfold powB
  split
  · have := digs_len (i := e.toNat) (by omega)
    simp only [List.length_append, varB_len, List.length_cons, List.length_nil]; omega
  · rw [varB_len]; omega
theorem pows_mem {es : List Int} (h : ∀ e ∈ es, 0 ≤ e ∧ e ≤ 200) : ∀ k, k ≤ es.length → ∀ x ∈ pows es k, x.length ≤ 5
  | 0, _, x, hx => by simp [pows] at hx
  | k + 1, hk, x, hx => by
    simp only [pows, List.mem_append] at hx
    rcases hx with hx | hx
    · exact pows_mem h k (by omega) x hx
    · split at hx
      · simp at hx
      · rw [List.mem_singleton] at hx; subst hx
        exact powB_len k (h _ (getD_mem es k (by omega))).2
theorem pows_nil {es : List Int} : ∀ k, k ≤ es.length → pows es k = [] → sumI (es.take k) = 0
  | 0, _, _ => by simp [sumI]
  | k + 1, hk, h => by
    simp only [pows, List.append_eq_nil_iff] at h
    have h1 := pows_nil k (by omega) h.1
    have h2 : es.getD k 0 = 0 := by
      apply Classical.byContradiction
      intro hne
      rw [if_neg hne] at h
      simp at h
    rw [sumI_take es k (by omega), h1, h2]; rfl
theorem facs_pos (c : Nat) (es : List Int) : 0 < (facs c es ++ pows es es.length).length := by
  apply Nat.pos_of_ne_zero
  intro h
  have h0 := List.length_eq_zero_iff.1 h
  rw [List.append_eq_nil_iff] at h0
  have h1 := pows_nil es.length (Nat.le_refl _) h0.2
  rw [List.take_of_length_le (Nat.le_refl _)] at h1
  have h2 := h0.1
  unfold facs at h2
  rw [if_pos (Or.inr h1)] at h2
  simp at h2
theorem own_str {w : World} {B : Nat} {T : TypeId} {a : Option Addr} {cap : Nat} {F : List (List UInt8)} (h : w.ownsRow B T 1 (.slice a F.length cap) F.length (F.map mkS)) (h0 : 0 < F.length) : ∃ g, a = some ⟨g, 0, none⟩ ∧ g < w.heap.size ∧ F.length ≤ cap ∧ ∀ (j : Nat) x, F[j]? = some x → w.cell? ⟨g, 0 + j, none⟩ = some (mkS x) := by
  rcases h.2 with ⟨h1, h2⟩ | ⟨g, c', cur, h1, hB, hg, hn, _⟩
  · omega
  · simp only [Value.slice.injEq, true_and] at h1
    obtain ⟨rfl, rfl⟩ := h1
    have hlt := World.ownsRow.lt h g rfl
    refine ⟨g, rfl, hlt.2, hn, fun j x hj => ?_⟩
    have hjl : j < F.length := by
      apply Nat.lt_of_not_le; intro hle; rw [List.getElem?_eq_none hle] at hj; simp at hj
    rw [Nat.zero_add, h.cellAt j (by omega), List.getElem?_map, hj]; rfl
theorem oneOf {c : Nat} (h : ((c : Int) != 1) = false) : c = 1 := by
  have h1 : (c : Int) = 1 := by simpa using h
  omega
theorem decNo {c : Nat} {s : Int} (h : c = 1) (hz : (s == 0) = false) : decide ((c : Int) ≠ 1 ∨ s = 0) = false := by
  have h2 : ¬ s = 0 := by simpa using hz
  exact decide_eq_false (by omega)
theorem decSum {c : Nat} {s : Int} (hz : (s == 0) = true) : decide ((c : Int) ≠ 1 ∨ s = 0) = true := by
  have h2 : s = 0 := by simpa using hz
  exact decide_eq_true (Or.inr h2)
theorem decOne {c : Nat} {s : Int} (h : ((c : Int) != 1) = true) : decide ((c : Int) ≠ 1 ∨ s = 0) = true := by
  have h2 : ¬ (c : Int) = 1 := by simpa using h
  exact decide_eq_true (Or.inl h2)
theorem one_newS (w : World) (x : Value) (T : TypeId) : ∀ j u, [x][j]? = some u → (w.alloc (.cells #[x] T)).cell? ((⟨w.heap.size, 0, none⟩ : Addr).add j) = some u := by
  intro j u hj
  rcases j with _ | j
  · simp at hj; subst hj; simp [Addr.add, go_sem]
  · simp at hj
theorem one_cellS (l : List UInt8) : ∀ u ∈ [mkS l], u.oneCell' = true := by
  intro u hu; simp at hu; subst hu; rfl

set_option maxRecDepth 100000 in
set_option maxHeartbeats 2000000 in
theorem printTerm_any (Q : Nat → Prop) (c : Nat) (ev : Value) (es : List Int) (w : World) (hJ : JoK) (hI : ItoK Q w) (hc : Q c) (hc2 : c ≤ 101) (hq : ∀ e ∈ es, 0 ≤ e ∧ e ≤ 200 ∧ Q e.toNat) (h0 : 0 < es.length) (h3 : es.length ≤ 3) (hs : Sl w ev es) :
    Calls Tryd.prog 40 #[.agg #[.int .i64 c, ev]] w fun e w' => e = .returned (mkS (Lib.join (facs c es ++ pows es es.length) [42])) ∧ Below w.heap.size w w' := by
  have HI := hid hI
  have HJ := hid hJ
  have HQ := hid hq
  have HC := hid hc
  obtain ⟨ea, ec, rfl, hs1⟩ := hs
  obtain ⟨eb, eoff, rfl, helt, hei⟩ := hs1 h0
  have HEI := hid hei
  obtain ⟨i0, hi, hz0, hz1, hz2⟩ := info_parts Tryd.infoStr
  have HZ := hid (And.intro hi (And.intro hz0 (And.intro hz1 hz2)))
  obtain ⟨w1, hw1⟩ : ∃ w1, w1 = w.alloc (.cells #[.int .i64 (c : Int), .slice (some ⟨eb, eoff, none⟩) es.length ec] 55) := ⟨_, rfl⟩
  have hbw : Below w.heap.size w w1 := by rw [hw1]; exact below_oneG
  have HBW := hid hbw
  have b0 : w1.cell? ⟨w.heap.size, 0, none⟩ = some (.int .i64 (c : Int)) := by rw [hw1]; simp [go_sem]
  have b1 : w1.cell? ⟨w.heap.size, 1, none⟩ = some (.slice (some ⟨eb, eoff, none⟩) es.length ec) := by rw [hw1]; simp [go_sem]
  have HB4 := hid (show ∀ x ∈ es, 0 ≤ x ∧ x ≤ 400 from fun x hx => by have := hq x hx; omega)
  have HEI1 : Hid (IntsAt w1 eb eoff es) := fun i hi => by rw [hbw.cell (p := ⟨eb, eoff + i, none⟩) helt]; exact hei i hi
  clear hI hJ hq hc hs1 hei hi hz0 hz1 hz2 hbw
  go_enter Tryd.func40, Tryd.ntmps40
  go_upto_region 2 with fail
  rw [← hw1]
  clear hw1
  go_cut [15] (fun s15 wx => s15 = .bool (decide ((c : Int) ≠ 1 ∨ sumI es = 0)) ∧ wx = w1)
  case first =>
    cases hc1 : ((c : Int) != 1)
    · have HC1 := hid (oneOf hc1)
      cases hz : (sumI es == 0)
      · go_wp2_with (go_at_call 57; refine (degree_any es _ _ _ _ HB4.out h3 HEI1.out).mono ?_; rintro e w' ⟨rfl, rfl⟩)
        go_meet
        case rel => exact ⟨by rw [decNo HC1.out hz], rfl⟩
      · go_wp2_with (go_at_call 57; refine (degree_any es _ _ _ _ HB4.out h3 HEI1.out).mono ?_; rintro e w' ⟨rfl, rfl⟩)
        go_meet
        case rel => exact ⟨by rw [decSum hz], rfl⟩
    · go_wp2
      go_meet
      case rel => exact ⟨by rw [decOne hc1], rfl⟩
  case rest =>
  obtain ⟨hs15, hwc⟩ := hcut
  subst wc
  go_upto_if 15 with fail
  go_cut [3] (fun s3 wx => ∃ L, L = facs c es ∧ wx.ownsRow w1.heap.size 9 1 s3 L.length (L.map mkS) ∧ Below w1.heap.size w1 wx)
  case first =>
    by_cases hb : (c : Int) ≠ 1 ∨ sumI es = 0
    · have hd : decide ((c : Int) ≠ 1 ∨ sumI es = 0) = true := by simpa using hb
      rw [hd] at hs15
      subst hs15
      have HF : Hid ([Lib.decDigits c] = facs c es) := by show _ = _; unfold facs; rw [if_pos hb]
      clear hb hd
      go_wp2_with (first
        | (go_at_call 65; refine (HI.out c _ HC.out HBW.out).mono ?_; rintro e w2 ⟨rfl, hb2⟩; have HB2 := hid hb2; clear hb2)
        | (at_builtin; refine wpList_append_own _ rfl (.tmp 16) (.tmp 20) 66 rfl w1.heap.size 9 i0 _ 1 16 Tryd.underlying66 HZ.out.1 HZ.out.2.1 HZ.out.2.2.1 HZ.out.2.2.2 rfl (by decide) _ 0 [] rfl (World.ownsRow_nil _ _ _ _) ⟨w2.heap.size, 0, none⟩ 1 1 [mkS (Lib.decDigits c)] rfl rfl (one_newS _ _ _) (one_cellS _) (by unfold maxLen; omega) (by omega) (Nat.le_trans HB2.out.size (by simp)) ?_; intro v3 w3 r1 r2 _; have R1 := hid r1; have HB3 := hid (show Below w1.heap.size w1 w3 from own_grown (World.ownsRow_nil _ w1.heap.size 9 1) (HB2.out.alloc HB2.out.size _) r2 (Nat.le_refl _)); clear r1 r2))
      go_meet
      case rel => exact ⟨[Lib.decDigits c], HF.out, R1.out, HB3.out⟩
    · have hd : decide ((c : Int) ≠ 1 ∨ sumI es = 0) = false := by simpa using hb
      rw [hd] at hs15
      subst hs15
      have HF : Hid (([] : List (List UInt8)) = facs c es) := by show _ = _; unfold facs; rw [if_neg hb]
      clear hb hd
      go_wp2_with fail
      go_meet
      case rel => exact ⟨[], HF.out, World.ownsRow_nil _ _ _ _, Below.refl _ _⟩
  case rest =>
  obtain ⟨L, hL, hown, hbc⟩ := hcut
  have HL := hid hL
  have HOWN := hid hown
  have HBC := hid hbc
  have c1 := cell_keep b1 hbc
  obtain ⟨za, zc, hz⟩ := own_sl' hown
  subst hz
  obtain ⟨wk, hwk⟩ : ∃ wk : World, wk = wc := ⟨_, rfl⟩
  subst hwk
  clear hL hown hbc b0 b1
  go_wp2_with fail
  go_loopw [3, 25] (fun z i wr => ∃ (k : Nat) (F : List (List UInt8)), k ≤ es.length ∧ i = .int .i64 k ∧ F = facs c es ++ pows es k ∧ F.length ≤ k + 1 ∧ wr.ownsRow w1.heap.size 9 1 z F.length (F.map mkS) ∧ Below w1.heap.size w1 wr) (fun _ i _ => es.length - (intOf i).toNat)
  case atStart => exact ⟨0, L, Nat.zero_le _, rfl, by rw [HL.out]; simp [pows], by rw [HL.out]; unfold facs; split <;> simp, HOWN.out, HBC.out⟩
  case round =>
    clear HOWN HBC
    obtain ⟨k, F, hk, rfl, hF, hFl, hown, hbr⟩ := hrel
    have HF := hid hF
    have HOWN := hid hown
    have HBR := hid hbr
    obtain ⟨za, zc, hz⟩ := own_sl' hown
    subst hz
    clear hF hown hbr
    by_cases hk2 : k < es.length
    · have e0 := HEI1.out k hk2
      have e0' := cell_keep e0 HBR.out
      have HEK := hid (HQ.out _ (getD_mem es k hk2))
      have HPW : Hid (pows es (k + 1) = pows es k ++ (if es.getD k 0 = 0 then [] else [powB k (es.getD k 0)])) := rfl
      generalize es.getD k 0 = e at e0 e0' HEK HPW
      have hk3 : k < 3 := by omega
      clear e0
      by_cases hz : e = 0
      · subst hz
        go_wp2_with fail
        go_roundw
        case rel => exact ⟨k + 1, F, by omega, by go_num, by rw [HPW.out, if_pos rfl, List.append_nil]; exact HF.out, by omega, HOWN.out, HBR.out⟩
        case measure => simp [intOf]; omega
      · by_cases hgt : 1 < e
        · obtain ⟨en, hen⟩ : ∃ en : Nat, e = (en : Int) := ⟨e.toNat, by have := HEK.out.1; omega⟩
          have HPB : Hid (powB k e = varB k ++ ([94] ++ Lib.decDigits en)) := by
            show _ = _
            unfold powB; rw [if_pos hgt, hen]; simp
          have HQE : Hid (Q en) := by have h := HEK.out.2.2; rw [hen] at h; exact hid (by simpa using h)
          have hvar := varS hk3
          have hcat1 := bs_app [94] (Lib.decDigits en)
          have hcat2 := bs_app (varB k) (94 :: Lib.decDigits en)
          subst hen
          have hb0 : ((en : Int) == 0) = false := by simpa using hz
          have hb1 : ¬ en = 0 := by omega
          have hb2 : 1 < en := by omega
          have hln1 := digs_len (i := en) (by have := HEK.out.2.1; omega)
          have hln2 := varB_len k
          have hn1 : ¬ 9223372036854775807 < 1 + (Lib.decDigits en).length := by omega
          have hn2 : ¬ 9223372036854775807 < (varB k).length + ((Lib.decDigits en).length + 1) := by omega
          clear hln1 hln2
          go_wp2_with (first
            | (go_at_call 65; refine (HI.out en _ HQE.out (HBW.out.trans (HBR.out.mono HBW.out.size))).mono ?_; rintro e w2 ⟨rfl, hb2⟩; have HB2 := hid (HBR.out.trans (hb2.mono HBR.out.size)); have HO2 := hid (ownBlock_lt HOWN.out hb2); clear hb2)
            | (at_builtin; refine wpList_append_own _ rfl (.tmp 43) (.tmp 45) 66 rfl w1.heap.size 9 i0 _ 1 16 Tryd.underlying66 HZ.out.1 HZ.out.2.1 HZ.out.2.2.1 HZ.out.2.2.2 rfl (by decide) _ F.length (F.map mkS) rfl (HO2.out.alloc _) ⟨w2.heap.size, 0, none⟩ 1 1 [mkS (varB k ++ ([94] ++ Lib.decDigits en))] rfl rfl (one_newS _ _ _) (one_cellS _) (by unfold maxLen; omega) (by omega) (Nat.le_trans HB2.out.size (by simp)) ?_; intro v3 w3 r1 r2 _; have R1 := hid r1; have HB3 := hid (show Below w1.heap.size w1 w3 from own_grown (HO2.out.alloc _) (HB2.out.alloc HB2.out.size _) r2 (Nat.le_refl _)); obtain ⟨va3, vc3, hv3⟩ := own_sl' r1; subst hv3; clear r1 r2))
          go_roundw
          case rel => exact ⟨k + 1, F ++ [powB k en], by omega, by go_num, by rw [HPW.out, if_neg hz, HF.out, List.append_assoc], by simp; omega, by rw [List.length_append, List.map_append, HPB.out]; exact R1.out, HB3.out⟩
          case measure => simp [intOf]; omega
        · have he1 : e = 1 := by have := HEK.out.1; omega
          have HPB : Hid (powB k e = varB k) := by show _ = _; unfold powB; rw [if_neg hgt]
          have hvar := varS hk3
          rw [he1] at HPB HPW e0'
          clear HEK hz hgt
          go_wp2_with (at_builtin; refine wpList_append_own _ rfl (.tmp 43) (.tmp 45) 66 rfl w1.heap.size 9 i0 _ 1 16 Tryd.underlying66 HZ.out.1 HZ.out.2.1 HZ.out.2.2.1 HZ.out.2.2.2 rfl (by decide) _ F.length (F.map mkS) rfl (HOWN.out.alloc _) ⟨wr.heap.size, 0, none⟩ 1 1 [mkS (varB k)] rfl rfl (one_newS _ _ _) (one_cellS _) (by unfold maxLen; omega) (by omega) (Nat.le_trans HBR.out.size (by simp)) ?_; intro v3 w3 r1 r2 _; have R1 := hid r1; have HB3 := hid (show Below w1.heap.size w1 w3 from own_grown (HOWN.out.alloc _) (HBR.out.alloc HBR.out.size _) r2 (Nat.le_refl _)); obtain ⟨va3, vc3, hv3⟩ := own_sl' r1; subst hv3; clear r1 r2)
          go_roundw
          case rel => exact ⟨k + 1, F ++ [varB k], by omega, by go_num, by rw [HPW.out, if_neg (by decide), HPB.out, HF.out, List.append_assoc], by simp; omega, by rw [List.length_append, List.map_append]; exact R1.out, HB3.out⟩
          case measure => simp [intOf]; omega
    · have e : k = es.length := by omega
      subst e
      have HPOS : Hid (0 < F.length) := by rw [HF.out]; exact facs_pos c es
      obtain ⟨g, hg, hlt, hcap, hcl⟩ := own_str HOWN.out HPOS.out
      subst hg
      have HXS : Hid (∀ x ∈ F, x.length ≤ 1000) := by
        intro x hx
        rw [HF.out] at hx
        rcases List.mem_append.1 hx with hx | hx
        · unfold facs at hx
          split at hx
          · rw [List.mem_singleton] at hx; subst hx
            have := digs_len (i := c) (by omega); omega
          · simp at hx
        · have := pows_mem (es := es) (fun e he => ⟨(HQ.out e he).1, (HQ.out e he).2.1⟩) es.length (Nat.le_refl _) x hx; omega
      go_wp2_with (go_at_call 41; refine (HJ.out g 0 _ F [42] _ hcl hlt hcap (by omega) (by simp) HXS.out).mono ?_; rintro e w2 ⟨rfl, hb2⟩; have HB2 := hid (HBR.out.trans (hb2.mono HBR.out.size)); clear hb2)
      go_ret
      refine ⟨?_, HBW.out.trans (HB2.out.mono HBW.out.size)⟩
      rw [HF.out]; rfl
end Go.Proofs.YtilogbggilchaaaDoor
