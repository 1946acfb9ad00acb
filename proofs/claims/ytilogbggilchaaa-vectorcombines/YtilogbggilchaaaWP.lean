/- vectorBegun. -/
import Derived.Test.YtilogbggilchaaaWO
import Derived.Test.YtilogbggilchaaaH
namespace Go.Proofs.Ytilogbggilchaaa
set_option linter.unusedSimpArgs false
set_option linter.unusedVariables false
open Go.RowKit
def vB : List (List Tm) := [[], [(1, [1, 0])]]
theorem pl_new1 {w : World} {c1 : Int} {s1 : Value} {e1 : List Int} {T : TypeId} (h1 : Sl w s1 e1) : Pl (w.alloc (.cells #[.int .i64 c1, s1] T)) (.slice (some ⟨w.heap.size, 0, none⟩) 1 1) [(c1, e1)] := by
  refine ⟨_, 1, rfl, Nat.le_refl _, fun _ => ⟨w.heap.size, 0, rfl, by simp, fun i hi => ?_⟩⟩
  rcases i with _ | i
  · exact ⟨by simp [go_sem], s1, by simp [go_sem], h1.below below_oneG⟩
  · simp at hi
theorem vB_facts : errAlike 7 2 1 1 [vB] = 0 ∧ errAlike 7 2 1 1 [vB, vB] = 0 ∧ leadF 1 1 vB 2 = some (1, (1, [1, 0])) ∧ sums 7 1 vB vB = [[], [(2, [1, 0])]] ∧ visE 0 [[], [(2, [1, 0])]] = 0 ∧ vdE 0 [0, 2] vB = 0 ∧ vdV 0 [0, 2] vB = 3 ∧ errVecs 7 2 1 1 2 [vB] = 0 := by
  refine ⟨by decide +kernel, by decide +kernel, by decide +kernel, by decide +kernel, by decide +kernel, by decide +kernel, by decide +kernel, by decide +kernel⟩

set_option maxRecDepth 100000 in
set_option maxHeartbeats 2000000 in
theorem vectorBegun_any (w : World) : Calls Try.prog 13 #[] w fun e w' => e = .returned (.bool true) ∧ Below w.heap.size w w' := by
  obtain ⟨f1, f2, f3, f4, f5, f6, f7, f8⟩ := vB_facts
  have g1 : ldP (leadS (errAlike 7 2 1 1 [vB]) (leadF 1 1 vB vB.length)) = 1 := by rw [f1, show vB.length = 2 from rfl, f3]; rfl
  have g2 : ldC (leadS (errAlike 7 2 1 1 [vB]) (leadF 1 1 vB vB.length)) = 1 := by rw [f1, show vB.length = 2 from rfl, f3]; rfl
  have g3 : leadE (errAlike 7 2 1 1 [vB]) (leadF 1 1 vB vB.length) = 0 := by rw [f1, show vB.length = 2 from rfl, f3]; rfl
  have g4 : visE (errAlike 7 2 1 1 [vB, vB]) (sums 7 1 vB vB) = 0 := by rw [f2, f4]; exact f5
  have g5 : visR (errAlike 7 2 1 1 [vB, vB]) (sums 7 1 vB vB) = [[], [(2, [1, 0])]] := by unfold visR; rw [g4, if_pos rfl, f4]
  have g6 : vdE (errAlike 7 2 1 1 [vB]) [0, 2] vB = 0 := by rw [f1]; exact f6
  have g7 : vdV (errAlike 7 2 1 1 [vB]) [0, 2] vB = 3 := by rw [f1]; exact f7
  have G := hid (And.intro g1 (And.intro g2 (And.intro g3 (And.intro g4 (And.intro g5 (And.intro g6 (And.intro g7 f8)))))))
  clear f1 f2 f3 f4 f5 f6 f7 f8 g1 g2 g3 g4 g5 g6 g7
  go_enter Try.func13, Try.ntmps13
  go_wp2_with fail
  refine (term_any _ _ _ _ _).mono ?_
  rintro e w1 ⟨rfl, hb1⟩
  have HS1 := hid ((Sl.new2 w 1 0 _).below hb1)
  have HB1 := hid (show Below w.heap.size w w1 from below_one.trans (hb1.mono (by simp)))
  clear hb1
  have HV : Hid (∀ T T', Vl ((w1.alloc (.cells #[.int .i64 1, .slice (some ⟨w.heap.size, 0, none⟩) 2 2] T)).alloc (.cells #[.slice none 0 0, .slice (some ⟨w1.heap.size, 0, none⟩) 1 1] T')) (.slice (some ⟨w1.heap.size + 1, 0, none⟩) 2 2) vB) := fun T T' =>
    pls2 (Pl.empty _) ((pl_new1 HS1.out).below below_oneG) (by simp) (by simp [go_sem]) (by simp [go_sem])
  go_wp2_with fail
  refine (xy_any _).mono ?_
  rintro e w2 ⟨rfl, hb2⟩
  have HV2 := hid ((HV.out _ _).below hb2)
  have HB2 := hid (show Below w.heap.size w w2 from HB1.out.trans ((below_two.trans (hb2.mono below_two.size)).mono HB1.out.size))
  clear hb2
  go_wp2_with fail
  refine (vecLead_any 7 2 1 1 _ vB _ HV2.out).mono ?_
  rw [G.out.1, G.out.2.1, G.out.2.2.1]
  rintro e w3 ⟨la, lc, rfl, _, hb3⟩
  have HV3 := hid (HV2.out.below hb3)
  have HB3 := hid (HB2.out.trans (hb3.mono HB2.out.size))
  clear hb3
  generalize (ldE (leadS (errAlike 7 2 1 1 [vB]) (leadF 1 1 vB vB.length))).length = ll
  obtain ⟨w4, hw4⟩ : ∃ w4, w4 = w3.alloc (.cells #[.int .i64 1, .slice la ll lc] 34) := ⟨_, rfl⟩
  have HB4 : Hid (Below w.heap.size w w4) := by rw [hw4]; exact HB3.out.trans (belowNew.mono HB3.out.size)
  have HV4 : Hid (Vl w4 (.slice (some ⟨w1.heap.size + 1, 0, none⟩) 2 2) vB) := by rw [hw4]; exact HV3.out.below belowNew
  have HC4 : Hid (w4.cell? ⟨w3.heap.size, 0, none⟩ = some (.int .i64 1)) := by show _ = _; rw [hw4]; simp [go_sem]
  go_wp2_with fail
  try rw [← hw4]
  refine (xy_any _).mono ?_
  rintro e w5 ⟨rfl, hb5⟩
  have HV5 := hid (HV4.out.below hb5)
  have HB5 := hid (HB4.out.trans (hb5.mono HB4.out.size))
  have HC5 := hid (cell_keep HC4.out hb5)
  clear hb5 hw4
  go_wp2_with fail
  refine (vecAdd_any 7 2 1 1 _ _ vB vB _ HV5.out HV5.out).mono ?_
  rw [G.out.2.2.2.1, G.out.2.2.2.2.1]
  rintro e w6 ⟨u, rfl, hu, hb6⟩
  have HV6 := hid (HV5.out.below hb6)
  have HB6 := hid (HB5.out.trans (hb6.mono HB5.out.size))
  have HC6 := hid (cell_keep HC5.out hb6)
  have HU6 := hid hu
  obtain ⟨ua, uc, rfl, _⟩ := hu
  clear hb6
  go_wp2_with fail
  refine (xy_any _).mono ?_
  rintro e w7 ⟨rfl, hb7⟩
  have HV7 := hid (HV6.out.below hb7)
  have HB7 := hid (HB6.out.trans (hb7.mono HB6.out.size))
  have HC7 := hid (cell_keep HC6.out hb7)
  have HU7 := hid (HU6.out.below hb7)
  clear hb7
  go_wp2_with fail
  refine (vecDegree_any 7 2 1 1 _ _ [0, 2] vB _ (Sl.new2 _ _ _ _) (HV7.out.below below_one)).mono ?_
  rw [G.out.2.2.2.2.2.1, G.out.2.2.2.2.2.2.1]
  rintro e w8 ⟨rfl, hb8⟩
  have HV8 := hid ((HV7.out.below below_one).below hb8)
  have HB8 := hid (HB7.out.trans ((below_one.trans (hb8.mono (by simp))).mono HB7.out.size))
  have HC8 := hid (cell_keep (cell_keep HC7.out below_one) hb8)
  have HU8 := hid ((HU7.out.below below_one).below hb8)
  clear hb8
  obtain ⟨b, off, fa, fc, hua, hlt, c1, hpl⟩ := vl_at (fss := [[], [(2, [1, 0])]]) HU8.out 1 (by simp)
  subst hua
  have c1' : w8.cell? ⟨b, off + 1, none⟩ = some (.slice fa 1 fc) := c1
  obtain ⟨b2, off2, ea, ec, hfa, hlt2, e0, _, _⟩ := pl_first (t := (2, [1, 0])) (ts := []) hpl
  subst hfa
  simp only at e0
  have c8 := HC8.out
  clear c1 hpl
  go_wp2_with fail
  refine (xy_any _).mono ?_
  rintro e w9 ⟨rfl, hb9⟩
  have HV9 := hid (HV8.out.below hb9)
  have HB9 := hid (HB8.out.trans (hb9.mono HB8.out.size))
  clear hb9
  go_wp2_with fail
  refine (vecCheck_any 7 2 1 1 2 _ [vB] _ (wl_one (HV9.out.below below_oneG) (by simp) (by simp [go_sem]))).mono ?_
  rw [G.out.2.2.2.2.2.2.2]
  rintro e w10 ⟨rfl, hb10⟩
  have HB10 := hid (HB9.out.trans ((below_oneG.trans (hb10.mono (by simp))).mono HB9.out.size))
  clear hb10
  go_wp2
  go_ret
  exact ⟨rfl, HB10.out⟩
def dOut : List Int → Int
  | [] => -1
  | z :: _ => z
def Alike (L : List Int) : Prop := ∀ y ∈ L, y = dOut L
theorem alike_deg {L : List Int} (h : Alike L) : degE L = (if L = [] then 5 else 0) ∧ degV L = (if L = [] then 0 else dOut L) := by
  cases L with
  | nil => exact ⟨rfl, rfl⟩
  | cons z zs =>
    have ha : zs.all (fun y => y == z) = true := by
      rw [List.all_eq_true]
      intro y hy
      have h1 : y = z := h y (by simp [hy])
      simpa using h1
    rw [degE_cons, degV_cons, ha]
    simp [dOut]
theorem unlike_deg {L M : List Int} {d : Int} (hL : L ≠ []) (hd : d ≠ dOut L) (hp : ∃ R, M = L ++ d :: R) : degE M = 4 ∧ degV M = 0 := by
  obtain ⟨R, rfl⟩ := hp
  cases L with
  | nil => exact absurd rfl hL
  | cons z zs =>
    have ha : (zs ++ d :: R).all (fun y => y == z) = false := by
      rw [List.all_eq_false]
      exact ⟨d, by simp, by simpa [dOut] using hd⟩
    rw [List.cons_append, degE_cons, degV_cons, ha]
    simp
theorem dOut_snoc {L : List Int} {d : Int} (h : Alike L) (hd : L = [] ∨ d = dOut L) : Alike (L ++ [d]) ∧ dOut (L ++ [d]) = d := by
  cases L with
  | nil => exact ⟨fun y hy => by simpa [dOut] using hy, rfl⟩
  | cons z zs =>
    have e : d = z := by
      rcases hd with hd | hd
      · simp at hd
      · exact hd
    refine ⟨fun y hy => ?_, e.symm⟩
    rcases List.mem_append.1 hy with hy | hy
    · exact h y hy
    · rw [List.mem_singleton] at hy; rw [hy, e]; rfl
theorem pdeg_split (d : Int) (f : List Tm) (m : Nat) (h : m < f.length) : pdeg d f = pdeg d (f.take m) ++ (d + sumI (f.getD m noT).2) :: pdeg d (f.drop (m + 1)) := by
  have e : f = f.take m ++ f.getD m noT :: f.drop (m + 1) := by
    have h1 : f.getD m noT = f[m] := by simp [List.getD_eq_getElem?_getD, h]
    rw [h1, ← List.drop_eq_getElem_cons h, List.take_append_drop]
  conv => lhs; rw [e]
  simp [pdeg]
theorem degsTo_prefix (ds : List Int) (fss : List (List Tm)) (k : Nat) : ∀ n, k ≤ n → ∃ R, degsTo ds fss n = degsTo ds fss k ++ R
  | 0, h => ⟨[], by rw [show k = 0 by omega]; simp⟩
  | n + 1, h => by
    rcases Nat.eq_or_lt_of_le h with rfl | hlt
    · exact ⟨[], by simp⟩
    · obtain ⟨R, hR⟩ := degsTo_prefix ds fss k n (by omega)
      exact ⟨R ++ pdeg (ds.getD n 0) (fss.getD n []), by rw [degsTo_succ, hR, List.append_assoc]⟩

set_option maxRecDepth 100000 in
set_option maxHeartbeats 2000000 in
theorem vdegree_any (x y : Value) (p o : Int) (N : Nat) (ds : List Int) (fss : List (List Tm)) (w : World) (hN0 : 0 < N) (hN : N ≤ 3) (hl : ds.length = fss.length) (hm : fss.length ≤ 40) (hd : ∀ d ∈ ds, 0 ≤ d ∧ d ≤ 200) (hf : ∀ f ∈ fss, Right p o N f) (sd : Sl w x ds) (pf : Vl w y fss) :
    Calls Try.prog 22 #[x, y] w fun e w' => e = .returned (.tuple #[.int .i64 (degV (degsTo ds fss fss.length)), .int .i64 (degE (degsTo ds fss fss.length))]) ∧ Below w.heap.size w w' := by
  have HY := hid pf
  have HD := hid hd
  have HF := hid hf
  have HL := hid hl
  obtain ⟨ax, cx, rfl, hsx⟩ := sd
  obtain ⟨ay, cy, rfl, _⟩ := pf
  have HSX := hid hsx
  clear hd hf hl hsx
  go_enter Try.func22, Try.ntmps22
  go_wp2_with fail
  go_loopw [6, 7] (fun s i wr => ∃ k : Nat, k ≤ fss.length ∧ i = .int .i64 k ∧ s = .int .i64 (dOut (degsTo ds fss k)) ∧ Alike (degsTo ds fss k) ∧ (-1 ≤ dOut (degsTo ds fss k) ∧ (dOut (degsTo ds fss k) < 0 ↔ degsTo ds fss k = [])) ∧ Below w.heap.size w wr) (fun _ i _ => fss.length - (intOf i).toNat)
  case atStart => exact ⟨0, Nat.zero_le _, rfl, rfl, fun y hy => by simp [degsTo] at hy, by simp [degsTo, dOut], Below.refl _ _⟩
  case round =>
    obtain ⟨k, hk, rfl, rfl, hal, hsg, hbr⟩ := hrel
    have HAL := hid (And.intro hal hsg)
    have HBR := hid hbr
    clear hal hsg hbr
    by_cases hk2 : k < fss.length
    · have hk3 : k < ds.length := by rw [HL.out]; exact hk2
      obtain ⟨b, off, fa, fc, rfl, hlt, c0, hpf⟩ := vl_at HY.out k hk2
      obtain ⟨b3, off3, rfl, hlt3, hc3⟩ := HSX.out (by omega)
      have g0 := hc3 k hk3
      have hdk := HD.out _ (getD_mem ds k hk3)
      have HSU := hid (degsTo_succ ds fss k)
      have HPR := hid (degsTo_prefix ds fss (k + 1) fss.length (by omega))
      have HRT := hid (HF.out _ (getD_memL fss k hk2))
      have hkI : (k : Int) < (ds.length : Int) := by omega
      generalize degsTo ds fss k = L at HAL HSU
      generalize fss.getD k [] = f at c0 hpf HSU HRT
      generalize ds.getD k 0 = d at g0 hdk HSU
      have HPF := hid hpf
      have HC0 := hid c0
      have HG0 := hid g0
      have d0 := cell_keep c0 HBR.out
      have hfl2 : f.length ≤ 2000 := HRT.out.len
      obtain ⟨hd1, hd2⟩ := hdk
      clear hpf c0 g0 hc3
      go_wp2_with fail
      go_loopw [6, 8] (fun s i wm => ∃ m : Nat, m ≤ f.length ∧ i = .int .i64 m ∧ s = .int .i64 (dOut (L ++ pdeg d (f.take m))) ∧ Alike (L ++ pdeg d (f.take m)) ∧ (-1 ≤ dOut (L ++ pdeg d (f.take m)) ∧ (dOut (L ++ pdeg d (f.take m)) < 0 ↔ L ++ pdeg d (f.take m) = [])) ∧ Below w.heap.size w wm) (fun _ i _ => f.length - (intOf i).toNat)
      case atStart => exact ⟨0, Nat.zero_le _, rfl, by simp [pdeg], by simpa [pdeg] using HAL.out.1, by simpa [pdeg] using HAL.out.2, HBR.out⟩
      case round =>
        clear HBR d0
        obtain ⟨m, hmm, rfl, rfl, hal, hsg, hbm⟩ := hrel
        have HAM := hid (And.intro hal hsg)
        have HBM := hid hbm
        have d0 := cell_keep HC0.out hbm
        have g0 := cell_keep HG0.out hbm
        clear hal hsg hbm
        by_cases hm2 : m < f.length
        · obtain ⟨fa2, fc2, hfv, _, hat0⟩ := HPF.out
          obtain ⟨b2, off2, hfa, hlt2, hat⟩ := hat0 (by omega)
          simp only [Value.slice.injEq, true_and] at hfv
          obtain ⟨e1, e2⟩ := hfv
          subst e1
          subst e2
          subst hfa
          obtain ⟨t0, ev, t1, hse⟩ := hat m hm2
          have HTE := hid (And.intro (HRT.out.canon.len _ (getD_memT f m hm2)) (HRT.out.bd.bd _ (getD_memT f m hm2)))
          have HTK : Hid (pdeg d (f.take (m + 1)) = pdeg d (f.take m) ++ [d + sumI (f.getD m noT).2]) := by
            show _ = _
            unfold pdeg
            rw [List.take_succ_eq_append_getElem hm2, List.map_append]
            simp [List.getD_eq_getElem?_getD, hm2]
          have HSP := hid (pdeg_split d f m hm2)
          generalize f.getD m noT = t at t0 hse HTE HTK HSP
          have hte0 : 0 < t.2.length := by rw [HTE.out.1]; exact hN0
          have hte3 : t.2.length ≤ 3 := by rw [HTE.out.1]; exact hN
          obtain ⟨ea, ec, rfl, hse1⟩ := hse
          obtain ⟨eb, eoff, rfl, helt, hei⟩ := hse1 hte0
          have HEI : Hid (∀ W, Below w.heap.size w W → IntsAt W eb eoff t.2) := fun W hb j hj => cell_keep (hei j hj) hb
          have k1 := cell_keep t1 HBM.out
          obtain ⟨S, hS⟩ : ∃ S, sumI t.2 = S := ⟨_, rfl⟩
          obtain ⟨hS1, hS2⟩ : 0 ≤ S ∧ S ≤ 1200 := by have := sumI_bd t.2 HTE.out.2; rw [hS] at this; omega
          have HDG := hid (fun (W : World) (hb : Below w.heap.size w W) => degreeOf_any t.2 eb eoff ec W HTE.out.2 hte3 (HEI.out W hb))
          rw [hS] at HDG HTK HSP
          have hwr : IntKind.i64.wrap (d + S) = d + S := by rw [IntKind.wrap_i64]; omega
          obtain ⟨q, hq⟩ : ∃ q, dOut (L ++ pdeg d (f.take m)) = q := ⟨_, rfl⟩
          obtain ⟨M, hM⟩ : ∃ M, L ++ pdeg d (f.take m) = M := ⟨_, rfl⟩
          rw [hM] at hq HAM ⊢
          have HM := hid hM
          have HQ := hid hq
          rw [hq] at HAM ⊢
          have hdS : 0 ≤ d + S := by omega
          have KEEP : Hid (∀ W, Below w.heap.size w W → (Hid (Below w.heap.size w W) ∧ W.cell? ⟨b3, off3 + k, none⟩ = some (.int .i64 d) ∧ W.cell? ⟨b, off + k, none⟩ = some (.slice (some ⟨b2, off2, none⟩) f.length fc) ∧ W.cell? ⟨b2, off2 + m * 2 + 1, none⟩ = some (.slice (some ⟨eb, eoff, none⟩) t.2.length ec))) :=
            fun W hb => ⟨hb, cell_keep HG0.out hb, cell_keep HC0.out hb, cell_keep t1 hb⟩
          have HWD := hid HBM.out.drew
          have HNX : Hid (L ++ pdeg d (f.take (m + 1)) = M ++ [d + S]) := by show _ = _; rw [HTK.out, ← List.append_assoc, HM.out]
          have HFU : Hid (∃ R, degsTo ds fss fss.length = M ++ (d + S) :: R) := by
            obtain ⟨R, hR⟩ := HPR.out
            exact ⟨pdeg d (f.drop (m + 1)) ++ R, by rw [hR, HSU.out, HSP.out, ← List.append_assoc L, HM.out, List.append_assoc, List.cons_append]⟩
          clear hat0 hat t0 t1 hse1 hei hq hM hS
          have HNEXT : Hid (M = [] ∨ d + S = q → Alike (M ++ [d + S]) ∧ dOut (M ++ [d + S]) = d + S) := fun h => dOut_snoc HAM.out.1 (by rw [HQ.out]; exact h)
          by_cases hM0 : M = []
          · have hq0 : ¬ 0 ≤ q := by have := HAM.out.2.2.2 hM0; omega
            have HN2 := hid (HNEXT.out (Or.inl hM0))
            have hge : decide (0 ≤ q) = false := decide_eq_false hq0
            clear hM0
            go_wp2_with fail
            go_region_held (fun W => Hid (Below w.heap.size w W) ∧ W.cell? ⟨b3, off3 + k, none⟩ = some (.int .i64 d) ∧ W.cell? ⟨b, off + k, none⟩ = some (.slice (some ⟨b2, off2, none⟩) f.length fc) ∧ W.cell? ⟨b2, off2 + m * 2 + 1, none⟩ = some (.slice (some ⟨eb, eoff, none⟩) t.2.length ec))
              (first | exact KEEP.out _ HWD.out)
              (first | (go_at_call 55; refine (HDG.out _ HWD.out).mono ?_; rintro e w6 ⟨rfl, rfl⟩))
            go_wp2_with fail
            go_roundw
            case rel => exact ⟨m + 1, by omega, by go_num, by rw [HNX.out, HN2.out.2], by rw [HNX.out]; exact HN2.out.1, by rw [HNX.out, HN2.out.2]; exact ⟨by omega, fun h => by omega, fun h => by simp at h⟩, HWD.out⟩
            case measure => simp [intOf]; omega
          · have hq0 : 0 ≤ q := by
              have h1 := HAM.out.2.2
              have h2 := HAM.out.2.1
              apply Int.not_lt.1
              intro h
              exact hM0 (h1.1 h)
            have hge : decide (0 ≤ q) = true := decide_eq_true hq0
            cases hne : (d + S != q)
            · have HN2 := hid (HNEXT.out (Or.inr (by simpa using hne)))
              go_wp2_with fail
              go_region_held (fun W => Hid (Below w.heap.size w W) ∧ W.cell? ⟨b3, off3 + k, none⟩ = some (.int .i64 d) ∧ W.cell? ⟨b, off + k, none⟩ = some (.slice (some ⟨b2, off2, none⟩) f.length fc) ∧ W.cell? ⟨b2, off2 + m * 2 + 1, none⟩ = some (.slice (some ⟨eb, eoff, none⟩) t.2.length ec))
                (first | exact KEEP.out _ HWD.out)
                (first | (go_at_call 55; refine (HDG.out _ HWD.out).mono ?_; rintro e w6 ⟨rfl, rfl⟩))
              go_wp2_with fail
              go_roundw
              case rel => exact ⟨m + 1, by omega, by go_num, by rw [HNX.out, HN2.out.2], by rw [HNX.out]; exact HN2.out.1, by rw [HNX.out, HN2.out.2]; exact ⟨by omega, fun h => by omega, fun h => by simp at h⟩, HWD.out⟩
              case measure => simp [intOf]; omega
            · have HUL := hid (unlike_deg hM0 (d := d + S) (by rw [HQ.out]; simpa using hne) HFU.out)
              go_wp2_with fail
              go_region_held (fun W => Hid (Below w.heap.size w W) ∧ W.cell? ⟨b3, off3 + k, none⟩ = some (.int .i64 d) ∧ W.cell? ⟨b, off + k, none⟩ = some (.slice (some ⟨b2, off2, none⟩) f.length fc) ∧ W.cell? ⟨b2, off2 + m * 2 + 1, none⟩ = some (.slice (some ⟨eb, eoff, none⟩) t.2.length ec))
                (first | exact KEEP.out _ HWD.out)
                (first | (go_at_call 55; refine (HDG.out _ HWD.out).mono ?_; rintro e w6 ⟨rfl, rfl⟩))
              go_wp2_with fail
              go_ret2
              exact ⟨by rw [HUL.out.1, HUL.out.2]; rfl, HWD.out⟩
        · have e : m = f.length := by omega
          subst e
          have HFE : Hid (L ++ pdeg d (f.take f.length) = degsTo ds fss (k + 1)) := by show _ = _; rw [HSU.out, List.take_of_length_le (Nat.le_refl _)]
          rw [HFE.out] at HAM ⊢
          go_wp2_with fail
          go_roundw
          case rel => exact ⟨k + 1, by omega, by go_num, rfl, HAM.out.1, HAM.out.2, HBM.out⟩
          case measure => simp [intOf]; omega
    · have e : k = fss.length := by omega
      subst e
      have HDG := hid (alike_deg HAL.out.1)
      obtain ⟨q, hq⟩ : ∃ q, dOut (degsTo ds fss fss.length) = q := ⟨_, rfl⟩
      rw [hq] at HAL HDG ⊢
      clear hq
      by_cases hL : degsTo ds fss fss.length = []
      · have hq0 : q < 0 := HAL.out.2.2.2 hL
        rw [if_pos hL, if_pos hL] at HDG
        clear hL
        go_wp2
        go_ret2
        exact ⟨by rw [HDG.out.1, HDG.out.2]; rfl, HBR.out⟩
      · have hq0 : ¬ q < 0 := fun h => hL (HAL.out.2.2.1 h)
        rw [if_neg hL, if_neg hL] at HDG
        clear hL
        go_wp2
        go_ret2
        exact ⟨by rw [HDG.out.1, HDG.out.2]; rfl, HBR.out⟩
end Go.Proofs.Ytilogbggilchaaa
