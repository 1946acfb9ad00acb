/- Print of a polynomial. -/
import Derived.Test.YtilogbggilchaaaDoorPP
namespace Go.Proofs.YtilogbggilchaaaDoor
set_option linter.unusedSimpArgs false
set_option linter.unusedVariables false
open Go.RowKit
def ptB (t : Tm) : List UInt8 := Lib.join (facs t.1.toNat t.2 ++ pows t.2 t.2.length) [42]
theorem lens_le {m : Nat} : ∀ (r : List (List UInt8)), (∀ x ∈ r, x.length ≤ m) → Lib.lens r ≤ m * r.length
  | [], _ => by simp [Lib.lens]
  | x :: r, h => by
    have h1 := h x (by simp)
    have h2 := lens_le r (fun y hy => h y (by simp [hy]))
    simp only [Lib.lens, List.map_cons, List.sum_cons, List.length_cons, Nat.mul_add] at h2 ⊢
    omega
theorem join_le {m : Nat} (sep : List UInt8) : ∀ (r : List (List UInt8)), (∀ x ∈ r, x.length ≤ m) → (Lib.join r sep).length ≤ sep.length * r.length + m * r.length
  | [], _ => by simp [Lib.join_nil]
  | x :: r, h => by
    rw [Lib.join_length]
    have := lens_le (x :: r) h
    simp only [List.length_cons, Nat.mul_add] at this ⊢
    omega
theorem pows_len (es : List Int) : ∀ k, (pows es k).length ≤ k
  | 0 => by simp [pows]
  | k + 1 => by
    have := pows_len es k
    simp only [pows, List.length_append]
    split <;> simp <;> omega
theorem ptB_len {c : Nat} {es : List Int} (hc : c ≤ 101) (h3 : es.length ≤ 3) (he : ∀ e ∈ es, 0 ≤ e ∧ e ≤ 200) : (Lib.join (facs c es ++ pows es es.length) [42]).length ≤ 1000 := by
  have hall : ∀ x ∈ facs c es ++ pows es es.length, x.length ≤ 5 := by
    intro x hx
    rcases List.mem_append.1 hx with hx | hx
    · unfold facs at hx
      split at hx
      · rw [List.mem_singleton] at hx; subst hx
        have := digs_len (i := c) (by omega); omega
      · simp at hx
    · exact pows_mem he es.length (Nat.le_refl _) x hx
  have h1 := join_le [42] _ hall
  have h2 := pows_len es es.length
  have h4 : (facs c es).length ≤ 1 := by unfold facs; split <;> simp
  simp only [List.length_append, List.length_cons, List.length_nil] at h1
  omega
def priR (E : Int) (fs : List Tm) : List UInt8 := if E ≠ 0 then [] else if fs = [] then [48] else Lib.join (fs.map ptB) [32, 43, 32]

set_option maxRecDepth 100000 in
set_option maxHeartbeats 2000000 in
theorem polyPrint_any (Q : Nat → Prop) (p n o v : Int) (chk : List (List Tm) → Int) (HC : Tells p n o v chk) (hJ : JoK) (x : Value) (fs : List Tm) (w : World) (hI : ItoK Q w) (hQ : ∀ t ∈ fs, Q t.1.toNat ∧ ∀ e ∈ t.2, Q e.toNat) (pf : Pl w x fs) :
    Calls Tryd.prog 16 #[ringV p n o v, x] w fun e w' => e = .returned (.tuple #[mkS (priR (chk [fs]) fs), .int .i64 (chk [fs])]) ∧ Below w.heap.size w w' := by
  have HP := hid pf
  have HT := hid HC
  have HJ := hid hJ
  have HI := hid hI
  have HQ := hid hQ
  obtain ⟨a, c, rfl, _, hfc⟩ := pf
  have HFC := hid hfc
  clear HC hJ hI hQ hfc
  have HB2 : Hid (∀ A B, Below w.heap.size w ((w.alloc A).alloc B)) := fun A B => below_two
  obtain ⟨i0, hi, hz0, hz1, hz2⟩ := info_parts Tryd.infoStr
  have HZ := hid (And.intro hi (And.intro hz0 (And.intro hz1 hz2)))
  clear hi hz0 hz1 hz2
  cases hE : (chk [fs] != 0)
  · have hE0 : chk [fs] = 0 := by simpa using hE
    obtain ⟨hr, hall⟩ := HT.out.2.1 [fs] (by simp) hE0
    obtain ⟨rf, hN0, hN3, hpr, hp, ho⟩ := right_of hr (hall fs (by simp))
    have HR := hid rf
    have HPO := hid hp
    have HE0 := hid hE0
    have hfl : fs.length ≤ 2000 := rf.len
    clear hr hall rf hp ho hpr
    by_cases hem : fs = []
    · have hpr : priR (chk [fs]) fs = [48] := by unfold priR; rw [if_neg (by simpa using hE0), if_pos hem]
      rw [hpr, hE0]
      clear hpr hE0
      subst hem
      go_enter Tryd.func16, Tryd.ntmps16
      go_wp2_with fail
      refine (HT.out.1 [[]] _ _ (by simp) (pls1 (HP.out.below (HB2.out _ _)) (by simp) (by simp [go_sem]))).mono ?_
      rintro e w1 ⟨rfl, hb1⟩
      rw [HE0.out]
      have HB1 := hid ((HB2.out _ _).trans (hb1.mono (HB2.out _ _).size))
      clear hb1
      go_wp2
      go_ret2
      exact ⟨rfl, HB1.out⟩
    · have hpr : priR (chk [fs]) fs = Lib.join (fs.map ptB) [32, 43, 32] := by unfold priR; rw [if_neg (by simpa using hE0), if_neg hem]
      rw [hpr, hE0]
      have hpos : 0 < fs.length := by
        apply Nat.pos_of_ne_zero; intro h; exact hem (List.length_eq_zero_iff.1 h)
      have hnz : ((fs.length : Int) == 0) = false := by simpa using hem
      obtain ⟨b, off, rfl, hlt, hat⟩ := HFC.out hpos
      have HAT := hid hat
      clear hpr hE0 hem hat
      go_enter Tryd.func16, Tryd.ntmps16
      go_wp2_with fail
      refine (HT.out.1 [fs] _ _ (by simp) (pls1 (HP.out.below (HB2.out _ _)) (by simp) (by simp [go_sem]))).mono ?_
      rintro e w1 ⟨rfl, hb1⟩
      rw [HE0.out]
      have HB1 := hid ((HB2.out _ _).trans (hb1.mono (HB2.out _ _).size))
      clear hb1
      go_wp2_with fail
      go_loopw [7, 22] (fun z i wr => ∃ k : Nat, k ≤ fs.length ∧ i = .int .i64 k ∧ wr.ownsRow w1.heap.size 9 1 z k (((fs.take k).map ptB).map mkS) ∧ Below w1.heap.size w1 wr) (fun _ i _ => fs.length - (intOf i).toNat)
      case atStart => exact ⟨0, Nat.zero_le _, rfl, World.ownsRow_nil _ _ _ _, Below.refl _ _⟩
      case round =>
        obtain ⟨k, hk, rfl, hown, hbr⟩ := hrel
        have HOWN := hid hown
        have HBR := hid hbr
        obtain ⟨za, zc, hz⟩ := own_sl' hown
        subst hz
        clear hown hbr
        by_cases hk2 : k < fs.length
        · obtain ⟨c0, ev, c1, hse⟩ := HAT.out k hk2
          have HDN := hid (HB1.out.trans (HBR.out.mono HB1.out.size))
          have HTT := hid (And.intro (HR.out.canon.coef _ (getD_memT fs k hk2)) (And.intro (HR.out.canon.len _ (getD_memT fs k hk2)) (And.intro (HR.out.bd _ (getD_memT fs k hk2)) (HQ.out _ (getD_memT fs k hk2)))))
          have HTK : Hid ((fs.take (k + 1)).map ptB = (fs.take k).map ptB ++ [ptB (fs.getD k noT)]) := by
            show _ = _
            rw [List.take_succ_eq_append_getElem hk2, List.map_append]
            simp [List.getD_eq_getElem?_getD, hk2]
          generalize fs.getD k noT = t at c0 hse HTT HTK
          obtain ⟨tc, te⟩ := t
          obtain ⟨cn, hcn⟩ : ∃ cn : Nat, tc = (cn : Int) := ⟨tc.toNat, by have := HTT.out.1; omega⟩
          subst hcn
          have hse' := hse
          obtain ⟨ea, ec, rfl, _⟩ := hse
          simp only at c0 c1
          have d0 := cell_keep c0 HDN.out
          have d1 := cell_keep c1 HDN.out
          have HCN : Hid (cn ≤ 101 ∧ Q cn) := ⟨by have h1 := HTT.out.1; have h2 := HPO.out; simp only at h1; omega, by have h := HTT.out.2.2.2.1; simpa using h⟩
          have HPT := hid (fun (W : World) (hb : Below w.heap.size w W) => printTerm_any Q cn (.slice ea te.length ec) te W HJ.out (fun i W2 hq hb2 => HI.out i W2 hq (hb.trans (hb2.mono hb.size))) HCN.out.2 HCN.out.1 (fun e he => ⟨(HTT.out.2.2.1 e he).1, (HTT.out.2.2.1 e he).2, HTT.out.2.2.2.2 e he⟩) (by rw [HTT.out.2.1]; exact hN0) (by rw [HTT.out.2.1]; exact hN3) (hse'.below hb))
          have HPTB : Hid (ptB ((cn : Int), te) = Lib.join (facs cn te ++ pows te te.length) [42]) := by show _ = _; unfold ptB; simp
          clear c0 c1 hse'
          go_wp2_with (first
            | (go_at_call 40; refine (HPT.out _ (HDN.out.trans (belowNew.mono HDN.out.size))).mono ?_; rintro e w2 ⟨rfl, hb2⟩; unfold mkS; have HB3 := hid (show Below w1.heap.size w1 w2 from (HBR.out.trans (belowNew.mono HBR.out.size)).trans (hb2.mono (HBR.out.trans (belowNew.mono HBR.out.size)).size)); have HO2 := hid (ownBlock_lt (ownBlock_lt HOWN.out belowNew) hb2); clear hb2)
            | (at_builtin; refine wpList_append_own _ rfl (.tmp 26) (.tmp 29) 66 rfl w1.heap.size 9 i0 _ 1 16 Tryd.underlying66 HZ.out.1 HZ.out.2.1 HZ.out.2.2.1 HZ.out.2.2.2 rfl (by decide) _ k _ rfl (HO2.out.alloc _) ⟨w2.heap.size, 0, none⟩ 1 1 [mkS (Lib.join (facs cn te ++ pows te te.length) [42])] rfl rfl (one_newS _ _ _) (one_cellS _) (by unfold maxLen; omega) (by omega) (Nat.le_trans HB3.out.size (by simp)) ?_; intro v3 w3 r1 r2 _; have R1 := hid r1; have HB4 := hid (show Below w1.heap.size w1 w3 from own_grown (HO2.out.alloc _) (HB3.out.alloc HB3.out.size _) r2 (Nat.le_refl _)); obtain ⟨va3, vc3, hv3⟩ := own_sl' r1; subst hv3; clear r1 r2))
          go_roundw
          case rel => exact ⟨k + 1, by omega, by go_num, by rw [HTK.out, List.map_append, HPTB.out]; exact R1.out, HB4.out⟩
          case measure => simp [intOf]; omega
        · have e : k = fs.length := by omega
          subst e
          have HL2 : Hid ((fs.take fs.length).map ptB = fs.map ptB ∧ (fs.map ptB).length = fs.length) := ⟨by rw [List.take_of_length_le (Nat.le_refl _)], by simp⟩
          have HO3 : Hid (wr.ownsRow w1.heap.size 9 1 (.slice za (fs.map ptB).length zc) (fs.map ptB).length ((fs.map ptB).map mkS)) := by
            rw [HL2.out.2, ← HL2.out.1]; exact HOWN.out
          obtain ⟨g, hg, hlt3, hcap3, hcl3⟩ := own_str HO3.out (by rw [HL2.out.2]; exact hpos)
          subst hg
          have HXS : Hid (∀ x ∈ fs.map ptB, x.length ≤ 1000) := by
            intro x hx
            obtain ⟨t, ht, rfl⟩ := List.mem_map.1 hx
            exact ptB_len (by have h1 := HR.out.canon.coef t ht; have h2 := HPO.out; omega) (by rw [HR.out.canon.len t ht]; exact hN3) (HR.out.bd t ht)
          have HJJ := hid (HJ.out g 0 zc (fs.map ptB) [32, 43, 32] wr hcl3 hlt3 hcap3 (by rw [HL2.out.2]; omega) (by simp) HXS.out)
          rw [HL2.out.2] at HJJ
          go_wp2_with (go_at_call 41; refine HJJ.out.mono ?_; rintro e w2 ⟨rfl, hb2⟩; have HB5 := hid (show Below w1.heap.size w1 w2 from HBR.out.trans (hb2.mono HBR.out.size)); clear hb2)
          go_ret2
          exact ⟨rfl, HB1.out.trans (HB5.out.mono HB1.out.size)⟩
  · have hE0 : chk [fs] ≠ 0 := by simpa using hE
    have hpr : priR (chk [fs]) fs = [] := by unfold priR; rw [if_pos hE0]
    rw [hpr]
    clear hpr hE0
    go_enter Tryd.func16, Tryd.ntmps16
    go_wp2_with fail
    refine (HT.out.1 [fs] _ _ (by simp) (pls1 (HP.out.below (HB2.out _ _)) (by simp) (by simp [go_sem]))).mono ?_
    rintro e w1 ⟨rfl, hb1⟩
    have HB1 := hid ((HB2.out _ _).trans (hb1.mono (HB2.out _ _).size))
    clear hb1
    go_wp2
    go_ret2
    exact ⟨rfl, HB1.out⟩
end Go.Proofs.YtilogbggilchaaaDoor
