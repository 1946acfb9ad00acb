/- VectorOps, walked. -/
import Derived.Test.YtilogbggilchaaaYD
namespace Go.Proofs.Ytilogbggilchaaa
set_option linter.unusedSimpArgs false
set_option linter.unusedVariables false
open Go.RowKit
set_option maxRecDepth 100000 in
set_option maxHeartbeats 8000000 in
theorem vectorOps_walk (p n o v rank : Int) (af av aw : Option Addr) (kf kv kw : Nat) (f : List Tm) (fss gss : List (List Tm)) (w : World) (X Yp Y Z EX EY lp lc lz pl K : Int) (RX RY SX MX : List (List Tm)) (le : List Int)
    (hY : Y = if Yp = 0 then Z else Yp) (hle : le.length ≤ 3) (hl1 : Z = 0 → (pl < 0 ∧ lp = 0 ∧ lz = 5) ∨ (0 ≤ pl ∧ lp = pl ∧ lz = 0)) (hl2 : Z ≠ 0 → lc = 0 ∧ le = [] ∧ lp = 0 ∧ lz = Z) (hSX : X ≠ 0 → SX = []) (hMX : Y ≠ 0 → MX = [])
    (C1 : ∀ W, Vl W (.slice av fss.length kv) fss → Vl W (.slice aw gss.length kw) gss → Calls Try.prog 5 #[ringV p n o v, .slice av fss.length kv, .slice aw gss.length kw] W fun e w' => ∃ u, e = .returned (.tuple #[u, .int .i64 EX]) ∧ Vl w' u RX ∧ Below W.heap.size W w')
    (C2 : ∀ W, Pl W (.slice af f.length kf) f → Vl W (.slice av fss.length kv) fss → Calls Try.prog 6 #[ringV p n o v, .slice af f.length kf, .slice av fss.length kv] W fun e w' => ∃ u, e = .returned (.tuple #[u, .int .i64 EY]) ∧ Vl w' u RY ∧ Below W.heap.size W w')
    (C3 : ∀ W, Vl W (.slice av fss.length kv) fss → Calls Try.prog 7 #[ringV p n o v, .slice av fss.length kv] W fun e w' => ∃ ea ec, e = .returned (.tuple #[.int .i64 lp, .agg #[.int .i64 lc, .slice ea le.length ec], .int .i64 lz]) ∧ Sl w' (.slice ea le.length ec) le ∧ Below W.heap.size W w')
    (C4 : ∀ W u, Wl W u [fss, gss] → Calls Try.prog 8 #[ringV p n o v, u] W fun e w' => e = .returned (.int .i64 X) ∧ Below W.heap.size W w')
    (C5 : ∀ W u, Vl W u [f] → Calls Try.prog 9 #[ringV p n o v, u] W fun e w' => e = .returned (.int .i64 Yp) ∧ Below W.heap.size W w')
    (C6 : ∀ W u, Wl W u [fss] → Calls Try.prog 8 #[ringV p n o v, u] W fun e w' => e = .returned (.int .i64 Z) ∧ Below W.heap.size W w')
    (C7 : ∀ wb W, X = 0 → LdB wb W 0 (.slice none 0 0) → Vl wb (.slice av fss.length kv) fss → Vl wb (.slice aw gss.length kw) gss → Calls Try.prog 10 #[ringV p n o v, .slice av fss.length kv, .slice aw gss.length kw] W fun e w' => ∃ u, e = .returned u ∧ VlX wb.heap.size w' u SX ∧ Below W.heap.size W w')
    (C8 : ∀ wb W, Y = 0 → LdB wb W 0 (.slice none 0 0) → Pl wb (.slice af f.length kf) f → Vl wb (.slice av fss.length kv) fss → Calls Try.prog 11 #[ringV p n o v, .slice af f.length kf, .slice av fss.length kv] W fun e w' => ∃ u, e = .returned u ∧ VlX wb.heap.size w' u MX ∧ Below W.heap.size W w')
    (C9 : ∀ wb W, Z = 0 → Below wb.heap.size wb W → Vl wb (.slice av fss.length kv) fss → Calls Try.prog 12 #[ringV p n o v, .slice av fss.length kv] W fun e w' => ∃ ea ec, e = .returned (.tuple #[.int .i64 pl, .agg #[.int .i64 lc, .slice ea le.length ec]]) ∧ Sl wb (.slice ea le.length ec) le ∧ Below W.heap.size W w')
    (C11 : ∀ W u, Wl W u [fss, gss] → Calls Try.prog 14 #[ringV p n o v, .int .i64 rank, u] W fun e w' => e = .returned (.int .i64 K) ∧ Below W.heap.size W w')
    (C12 : ∀ W u, Wl W u [fss, gss] → Calls Try.prog 15 #[ringV p n o v, .int .i64 rank, u] W fun e w' => e = .returned (.int .i64 K) ∧ Below W.heap.size W w')
    (C13 : ∀ W a b, Vl W a RX → Vl W b SX → Calls Try.prog 16 #[a, .int .i64 EX, .int .i64 X, b] W fun e w' => e = .returned (.bool true) ∧ Below W.heap.size W w')
    (C14 : ∀ W a b, Vl W a RY → Vl W b MX → Calls Try.prog 16 #[a, .int .i64 EY, .int .i64 Y, b] W fun e w' => e = .returned (.bool true) ∧ Below W.heap.size W w')
    (pf : Pl w (.slice af f.length kf) f) (pv : Vl w (.slice av fss.length kv) fss) (pw : Vl w (.slice aw gss.length kw) gss) :
    Calls Try.prog 3 #[ringV p n o v, .int .i64 rank, .slice af f.length kf, .slice av fss.length kv, .slice aw gss.length kw] w fun e w' => e = .returned (.bool true) ∧ Below w.heap.size w w' := by
  have HP := hid pf
  have HV := hid pv
  have HW := hid pw
  have HC1 := hid C1
  have HC2 := hid C2
  have HC3 := hid C3
  have HC4 := hid C4
  have HC5 := hid C5
  have HC6 := hid C6
  have HC7 := hid C7
  have HC8 := hid C8
  have HC9 := hid C9
  have HC11 := hid C11
  have HC12 := hid C12
  have HC13 := hid C13
  have HC14 := hid C14
  have HYD := hid hY
  have HLE := hid hle
  have HL1 := hid hl1
  have HL2 := hid hl2
  have HSX := hid hSX
  have HMX := hid hMX
  clear pf pv pw C1 C2 C3 C4 C5 C6 C7 C8 C9 C11 C12 C13 C14 hY hle hl1 hl2 hSX hMX
  obtain ⟨w1, hw1⟩ : ∃ w1, w1 = w.alloc (.cells #[.int .i64 p, .int .i64 n, .int .i64 o, .int .i64 v] 23) := ⟨_, rfl⟩
  have HBX : Hid (BoxAt w1 w.heap.size p n o v) := by rw [hw1]; exact BoxAt.new w p n o v _
  have HBW : Hid (Below w.heap.size w w1) := by rw [hw1]; exact below_oneG
  go_enter Try.func3, Try.ntmps3
  go_wp2_with fail
  try rw [← hw1]
  refine (HC1.out _ (HV.out.below HBW.out) (HW.out.below HBW.out)).mono ?_
  rintro e w2 ⟨u2, rfl, hu2, hb2⟩
  have HB2 := hid (HBW.out.trans (hb2.mono HBW.out.size))
  have HX2 := hid (HBX.out.below hb2)
  have HU2 := hid hu2
  obtain ⟨ua2, uc2, rfl, _⟩ := hu2
  clear hb2 hw1
  obtain ⟨_, x0, x1, x2, x3⟩ := HX2.out
  go_wp2_with fail
  refine (HC2.out _ (HP.out.below HB2.out) (HV.out.below HB2.out)).mono ?_
  rintro e w3 ⟨u3, rfl, hu3, hb3⟩
  have HB3 := hid (HB2.out.trans (hb3.mono HB2.out.size))
  have HX3 := hid (HX2.out.below hb3)
  have HU23 := hid (HU2.out.below hb3)
  have HU3 := hid hu3
  obtain ⟨ua3, uc3, rfl, _⟩ := hu3
  clear hb3 x0 x1 x2 x3
  obtain ⟨_, x0, x1, x2, x3⟩ := HX3.out
  go_wp2_with fail
  refine (HC3.out _ (HV.out.below HB3.out)).mono ?_
  rintro e w4 ⟨ea, ec, rfl, hse, hb4⟩
  have HBP : Hid (Below w4.heap.size w4 (w4.alloc (.cells #[.int .i64 lc, .slice ea le.length ec] 34))) := below_oneG
  have OPS := hid (OpsV.mk (w := w) (g1 := w4.heap.size) (c1 := lc) (e1v := .slice ea le.length ec) ((HB3.out.trans (hb4.mono HB3.out.size)).trans (HBP.out.mono (HB3.out.trans (hb4.mono HB3.out.size)).size)) ((HX3.out.below hb4).below HBP.out) (((HP.out.below HB3.out).below hb4).below HBP.out) (((HV.out.below HB3.out).below hb4).below HBP.out) (((HW.out.below HB3.out).below hb4).below HBP.out) ((HU23.out.below hb4).below HBP.out) ((HU3.out.below hb4).below HBP.out) (by simp [go_sem]) (by simp [go_sem]) (hse.below HBP.out))
  clear hb4 hse x0 x1 x2 x3 HX3 HX2 HU2 HU23 HU3 HB2 HB3 HBX HBW HP HV HW HBP HC1 HC2 HC3
  go_upto_region 4 with fail
  generalize w4.alloc (.cells #[.int .i64 lc, .slice ea le.length ec] 34) = w5 at OPS ⊢
  go_cut [18, 19, 20] (fun s18 s19 s20 wc => s18 = .int .i64 X ∧ s19 = .int .i64 Yp ∧ s20 = .int .i64 Z ∧ OpsV w wc (.slice af f.length kf) (.slice av fss.length kv) (.slice aw gss.length kw) (.slice ua2 RX.length uc2) (.slice ua3 RY.length uc3) w4.heap.size lc (.slice ea le.length ec) le f fss gss RX RY p n o v)
  case first =>
    as_aux_lemma =>
      go_region_held (fun W => HeldV w W (.slice af f.length kf) (.slice av fss.length kv) (.slice aw gss.length kw) (.slice ua2 RX.length uc2) (.slice ua3 RY.length uc3) w4.heap.size lc (.slice ea le.length ec) le f fss gss RX RY p n o v)
        (first | exact HeldV.next (by assumption) hb3 | exact HeldV.next (by assumption) hb2 | exact HeldV.next (by assumption) hb1 | exact HeldV.next (by assumption) below_one | exact (OPS.out.next (Below.refl _ _).drew).held)
        (first
          | (go_at_call 8; refine (HC4.out _ _ ?_).mono ?_; exact wl_two (HeldV.ops (by assumption) : OpsV w _ (.slice af f.length kf) (.slice av fss.length kv) (.slice aw gss.length kw) (.slice ua2 RX.length uc2) (.slice ua3 RY.length uc3) w4.heap.size lc (.slice ea le.length ec) le f fss gss RX RY p n o v).pv (HeldV.ops (by assumption) : OpsV w _ (.slice af f.length kf) (.slice av fss.length kv) (.slice aw gss.length kw) (.slice ua2 RX.length uc2) (.slice ua3 RY.length uc3) w4.heap.size lc (.slice ea le.length ec) le f fss gss RX RY p n o v).pw (by first | (simp; done) | (simp; omega)) (by simp [go_sem]) (by simp [go_sem]); rintro e wA ⟨rfl, hb1⟩)
          | (go_at_call 9; refine (HC5.out _ _ ?_).mono ?_; exact pls1 (HeldV.ops (by assumption) : OpsV w _ (.slice af f.length kf) (.slice av fss.length kv) (.slice aw gss.length kw) (.slice ua2 RX.length uc2) (.slice ua3 RY.length uc3) w4.heap.size lc (.slice ea le.length ec) le f fss gss RX RY p n o v).pf (by first | (simp; done) | (simp; omega) | (have h1 := hb1.size; simp at h1 ⊢; omega)) (by (repeat (first | rw [World.cell?_alloc_lt _ _ _ (by first | (simp; done) | (simp; omega) | (have h1 := hb1.size; simp at h1 ⊢; omega))] | rw [hb1.cell (by first | (simp; done) | (simp; omega) | (have h1 := hb1.size; simp at h1 ⊢; omega))])); simp [go_sem]); rintro e wB ⟨rfl, hb2⟩)
          | (go_at_call 8; refine (HC6.out _ _ ?_).mono ?_; exact wl_one (HeldV.ops (by assumption) : OpsV w _ (.slice af f.length kf) (.slice av fss.length kv) (.slice aw gss.length kw) (.slice ua2 RX.length uc2) (.slice ua3 RY.length uc3) w4.heap.size lc (.slice ea le.length ec) le f fss gss RX RY p n o v).pv (by first | (simp; done) | (simp; omega) | (have h1 := hb1.size; simp at h1 ⊢; omega) | (have h1 := hb2.size; simp at h1 ⊢; omega) | (have h1 := hb1.size; have h2 := hb2.size; simp at h1 h2 ⊢; omega)) (by (repeat (first | rw [World.cell?_alloc_lt _ _ _ (by first | (simp; done) | (simp; omega) | (have h1 := hb1.size; simp at h1 ⊢; omega) | (have h1 := hb2.size; simp at h1 ⊢; omega) | (have h1 := hb1.size; have h2 := hb2.size; simp at h1 h2 ⊢; omega))] | rw [hb2.cell (by first | (simp; done) | (simp; omega) | (have h1 := hb1.size; simp at h1 ⊢; omega) | (have h1 := hb2.size; simp at h1 ⊢; omega) | (have h1 := hb1.size; have h2 := hb2.size; simp at h1 h2 ⊢; omega))] | rw [hb1.cell (by first | (simp; done) | (simp; omega) | (have h1 := hb1.size; simp at h1 ⊢; omega) | (have h1 := hb2.size; simp at h1 ⊢; omega) | (have h1 := hb1.size; have h2 := hb2.size; simp at h1 h2 ⊢; omega))])); simp [go_sem]); rintro e wC ⟨rfl, hb3⟩))
      all_goals
        have HF := hid (HeldV.ops (by assumption) : OpsV w _ (.slice af f.length kf) (.slice av fss.length kv) (.slice aw gss.length kw) (.slice ua2 RX.length uc2) (.slice ua3 RY.length uc3) w4.heap.size lc (.slice ea le.length ec) le f fss gss RX RY p n o v)
        go_wp2_with fail
        go_meet
        case rel => exact ⟨rfl, rfl, rfl, HF.out⟩
  case rest =>
  obtain ⟨rfl, rfl, rfl, hops⟩ := hcut
  clear OPS
  have OPS := hid hops
  clear hops
  obtain ⟨w6, hw6⟩ : ∃ w6 : World, w6 = wc := ⟨_, rfl⟩
  subst hw6
  clear w5
  go_upto_if 60 with fail
  go_cut [19] (fun s19 wc => s19 = .int .i64 Y ∧ wc = w6)
  case first =>
    cases hz : (Yp == 0)
    · have HE : Hid (Y = Yp) := by
        have h : Yp ≠ 0 := by simpa using hz
        show _ = _
        rw [HYD.out, if_neg h]
      go_wp2_with fail
      go_meet
      case rel => exact ⟨by rw [HE.out], rfl⟩
    · have HE : Hid (Y = Z) := by
        have h : Yp = 0 := by simpa using hz
        show _ = _
        rw [HYD.out, if_pos h]
      go_wp2_with fail
      go_meet
      case rel => exact ⟨by rw [HE.out], rfl⟩
  case rest =>
  obtain ⟨rfl, rfl⟩ := hcut
  obtain ⟨w6, hw6⟩ : ∃ w6 : World, w6 = wc := ⟨_, rfl⟩
  subst hw6
  go_upto_if 64 with fail
  have LB : Hid (LdB w6 (w6.alloc (.cells #[.int .i64 0, .slice none 0 0] 34)) 0 (.slice none 0 0)) := ⟨below_oneG, made_term (w := w6) (B := w6.heap.size) (Nat.le_refl _) 0 (.slice none 0 0)⟩
  generalize w6.alloc (.cells #[.int .i64 0, .slice none 0 0] 34) = w7 at LB ⊢
  go_cut [21] (fun s21 wc => LdB w6 wc 0 (.slice none 0 0) ∧ VlX w6.heap.size wc s21 SX)
  case first =>
    cases hz : (X == 0)
    · have hX : X ≠ 0 := by simpa using hz
      have HE := hid (HSX.out hX)
      clear hX
      go_wp2_with fail
      go_meet
      case rel => exact ⟨LB.out, by rw [HE.out]; exact VlX.nil _ _⟩
    · have HX0 : Hid (X = 0) := hid (by simpa using hz)
      obtain ⟨_, x0, x1, x2, x3⟩ := (OPS.out.next LB.out.below).box
      go_wp2_with (go_at_call 10; refine (HC7.out w6 _ HX0.out LB.out OPS.out.pv OPS.out.pw).mono ?_; rintro e w8 ⟨u8, rfl, hu8, hb8⟩; have HU8 := hid hu8; have HB8 := hid hb8; obtain ⟨ua8, uc8, rfl, _⟩ := hu8.vl; clear hb8 hu8)
      go_meet
      case rel => exact ⟨LB.out.next HB8.out, HU8.out⟩
  case rest =>
  obtain ⟨hlb, h21⟩ := hcut
  clear LB
  have LB := hid hlb
  have H21 := hid h21
  obtain ⟨va1, vc1, rfl, hjunk⟩ := h21.vl
  clear hjunk
  clear hlb h21 w7
  obtain ⟨w7, hw7⟩ : ∃ w7 : World, w7 = wc := ⟨_, rfl⟩
  subst hw7
  go_upto_if 70 with fail
  go_cut [22] (fun s22 wc => LdB w6 wc 0 (.slice none 0 0) ∧ VlX w6.heap.size wc (.slice va1 SX.length vc1) SX ∧ VlX w6.heap.size wc s22 MX)
  case first =>
    cases hz : (Y == 0)
    · have hX : Y ≠ 0 := by simpa using hz
      have HE := hid (HMX.out hX)
      clear hX
      go_wp2_with fail
      go_meet
      case rel => exact ⟨LB.out, H21.out, by rw [HE.out]; exact VlX.nil _ _⟩
    · have HX0 : Hid (Y = 0) := hid (by simpa using hz)
      obtain ⟨_, x0, x1, x2, x3⟩ := (OPS.out.next LB.out.below).box
      go_wp2_with (go_at_call 11; refine (HC8.out w6 _ HX0.out LB.out OPS.out.pf OPS.out.pv).mono ?_; rintro e w8 ⟨u8, rfl, hu8, hb8⟩; have HU8 := hid hu8; have HB8 := hid hb8; obtain ⟨ua8, uc8, rfl, _⟩ := hu8.vl; clear hb8 hu8)
      go_meet
      case rel => exact ⟨LB.out.next HB8.out, H21.out.below HB8.out, HU8.out⟩
  case rest =>
  obtain ⟨hlb, h21, h22⟩ := hcut
  clear LB H21
  have LB := hid hlb
  have H21 := hid h21
  have H22 := hid h22
  obtain ⟨va2, vc2, rfl, hjunk⟩ := h22.vl
  clear hjunk
  clear hlb h21 h22 w7
  obtain ⟨w7, hw7⟩ : ∃ w7 : World, w7 = wc := ⟨_, rfl⟩
  subst hw7
  go_upto_if 76 with fail
  go_cut [20, 23] (fun s20 s23 wc => s20 = .int .i64 lz ∧ s23 = .int .i64 lp ∧ ∃ ev, LdB w6 wc lc ev ∧ Sl wc ev le ∧ Vl wc (.slice va1 SX.length vc1) SX ∧ Vl wc (.slice va2 MX.length vc2) MX)
  case first =>
    cases hz : (Z == 0)
    · have hX : Z ≠ 0 := by simpa using hz
      have HE := hid (HL2.out hX)
      clear hX
      go_wp2_with fail
      go_meet
      case rel => exact ⟨by rw [HE.out.2.2.2], by rw [HE.out.2.2.1], .slice none 0 0, by rw [HE.out.1]; exact LB.out, by rw [HE.out.2.1]; exact ⟨none, 0, rfl, fun h => by simp at h⟩, H21.out.vl, H22.out.vl⟩
    · have HX0 : Hid (Z = 0) := hid (by simpa using hz)
      obtain ⟨_, x0, x1, x2, x3⟩ := (OPS.out.next LB.out.below).box
      have HL := hid (HL1.out HX0.out)
      go_wp2_with fail
      refine (HC9.out w6 _ HX0.out LB.out.below OPS.out.pv).mono ?_
      rintro e w8 ⟨ea8, ec8, rfl, hse8, hb8⟩
      have LB8 := hid (LB.out.next hb8)
      have HS8 := hid hse8
      have H218 := hid (H21.out.below hb8)
      have H228 := hid (H22.out.below hb8)
      obtain ⟨y0, y1, f0, f1⟩ := LB8.out.cells
      clear hb8 hse8 x0 x1 x2 x3
      have HPUT := hid (LB8.out.put lc (.slice ea8 le.length ec8))
      by_cases hpl : pl < 0
      · have HLL : Hid (lp = 0 ∧ lz = 5) := by
          rcases HL.out with h | h
          · exact h.2
          · omega
        go_wp2_with fail
        go_meet
        case rel => exact ⟨by rw [HLL.out.2], by rw [HLL.out.1], _, HPUT.out.1, HS8.out.below HPUT.out.1.below, (H218.out.grown HPUT.out.2).vl, (H228.out.grown HPUT.out.2).vl⟩
      · have HLL : Hid (lp = pl ∧ lz = 0) := by
          rcases HL.out with h | h
          · omega
          · exact h.2
        have HZ0 := hid HX0.out
        go_wp2_with fail
        go_meet
        case rel => exact ⟨by rw [HLL.out.2, HZ0.out], by rw [HLL.out.1], _, HPUT.out.1, HS8.out.below HPUT.out.1.below, (H218.out.grown HPUT.out.2).vl, (H228.out.grown HPUT.out.2).vl⟩
  case rest =>
  obtain ⟨rfl, rfl, ev, hlb, hsl, h21, h22⟩ := hcut
  have FIN := hid (FinV.mk (OPS.out.next hlb.below) hlb.cells.1 hlb.cells.2.1 hsl h21 h22)
  obtain ⟨eva, evc, rfl, hjunk⟩ := hsl
  clear hjunk
  clear hlb h21 h22 LB H21 H22 w7 OPS
  obtain ⟨w9, hw9⟩ : ∃ w9 : World, w9 = wc := ⟨_, rfl⟩
  subst hw9
  clear HC4 HC5 HC6 HC7 HC8 HC9 HYD HL1 HL2 HSX HMX
  go_upto_region 17 with fail
  as_aux_lemma =>
    go_region_held (fun W => HeldF w W (.slice af f.length kf) (.slice av fss.length kv) (.slice aw gss.length kw) (.slice ua2 RX.length uc2) (.slice ua3 RY.length uc3) (.slice va1 SX.length vc1) (.slice va2 MX.length vc2) w4.heap.size w6.heap.size lc (.slice ea le.length ec) (.slice eva le.length evc) le f fss gss RX RY SX MX p n o v)
      (first | exact HeldF.next (by assumption) hb6 | exact HeldF.next (by assumption) hb5 | exact HeldF.next (by assumption) hb4 | exact HeldF.next (by assumption) hb3 | exact HeldF.next (by assumption) hb2 | exact HeldF.next (by assumption) hb1 | exact HeldF.next (by assumption) below_one | exact (FIN.out.next (Below.refl _ _).drew).held)
      (first
        | (go_at_call 13; refine (vectorBegun_any _).mono ?_; rintro e wA ⟨rfl, hb1⟩)
        | (go_at_call 14; refine (HC11.out _ _ ?_).mono ?_; exact wl_two (HeldF.fin (by assumption) : FinV w _ (.slice af f.length kf) (.slice av fss.length kv) (.slice aw gss.length kw) (.slice ua2 RX.length uc2) (.slice ua3 RY.length uc3) (.slice va1 SX.length vc1) (.slice va2 MX.length vc2) w4.heap.size w6.heap.size lc (.slice ea le.length ec) (.slice eva le.length evc) le f fss gss RX RY SX MX p n o v).ops.pv (HeldF.fin (by assumption) : FinV w _ (.slice af f.length kf) (.slice av fss.length kv) (.slice aw gss.length kw) (.slice ua2 RX.length uc2) (.slice ua3 RY.length uc3) (.slice va1 SX.length vc1) (.slice va2 MX.length vc2) w4.heap.size w6.heap.size lc (.slice ea le.length ec) (.slice eva le.length evc) le f fss gss RX RY SX MX p n o v).ops.pw (by first | (simp; done) | (simp; omega)) (by simp [go_sem]) (by simp [go_sem]); rintro e wB ⟨rfl, hb2⟩)
        | (go_at_call 15; refine (HC12.out _ _ ?_).mono ?_; exact wl_two (HeldF.fin (by assumption) : FinV w _ (.slice af f.length kf) (.slice av fss.length kv) (.slice aw gss.length kw) (.slice ua2 RX.length uc2) (.slice ua3 RY.length uc3) (.slice va1 SX.length vc1) (.slice va2 MX.length vc2) w4.heap.size w6.heap.size lc (.slice ea le.length ec) (.slice eva le.length evc) le f fss gss RX RY SX MX p n o v).ops.pv (HeldF.fin (by assumption) : FinV w _ (.slice af f.length kf) (.slice av fss.length kv) (.slice aw gss.length kw) (.slice ua2 RX.length uc2) (.slice ua3 RY.length uc3) (.slice va1 SX.length vc1) (.slice va2 MX.length vc2) w4.heap.size w6.heap.size lc (.slice ea le.length ec) (.slice eva le.length evc) le f fss gss RX RY SX MX p n o v).ops.pw (by first | (simp; done) | (simp; omega) | (have h1 := hb2.size; simp at h1 ⊢; omega)) (by (repeat (first | rw [World.cell?_alloc_lt _ _ _ (by first | (simp; done) | (simp; omega) | (have h1 := hb2.size; simp at h1 ⊢; omega))] | rw [hb2.cell (by first | (simp; done) | (simp; omega) | (have h1 := hb2.size; simp at h1 ⊢; omega))])); simp [go_sem]) (by (repeat (first | rw [World.cell?_alloc_lt _ _ _ (by first | (simp; done) | (simp; omega) | (have h1 := hb2.size; simp at h1 ⊢; omega))] | rw [hb2.cell (by first | (simp; done) | (simp; omega) | (have h1 := hb2.size; simp at h1 ⊢; omega))])); simp [go_sem]); rintro e wC ⟨rfl, hb3⟩)
        | (go_at_call_of 16 (Value.slice ua2 RX.length uc2); refine (HC13.out _ _ _ ?_ ?_).mono ?_; exact (HeldF.fin (by assumption) : FinV w _ (.slice af f.length kf) (.slice av fss.length kv) (.slice aw gss.length kw) (.slice ua2 RX.length uc2) (.slice ua3 RY.length uc3) (.slice va1 SX.length vc1) (.slice va2 MX.length vc2) w4.heap.size w6.heap.size lc (.slice ea le.length ec) (.slice eva le.length evc) le f fss gss RX RY SX MX p n o v).ops.s1; exact (HeldF.fin (by assumption) : FinV w _ (.slice af f.length kf) (.slice av fss.length kv) (.slice aw gss.length kw) (.slice ua2 RX.length uc2) (.slice ua3 RY.length uc3) (.slice va1 SX.length vc1) (.slice va2 MX.length vc2) w4.heap.size w6.heap.size lc (.slice ea le.length ec) (.slice eva le.length evc) le f fss gss RX RY SX MX p n o v).l1; rintro e wD ⟨rfl, hb4⟩)
        | (go_at_call_of 16 (Value.slice ua3 RY.length uc3); refine (HC14.out _ _ _ ?_ ?_).mono ?_; exact (HeldF.fin (by assumption) : FinV w _ (.slice af f.length kf) (.slice av fss.length kv) (.slice aw gss.length kw) (.slice ua2 RX.length uc2) (.slice ua3 RY.length uc3) (.slice va1 SX.length vc1) (.slice va2 MX.length vc2) w4.heap.size w6.heap.size lc (.slice ea le.length ec) (.slice eva le.length evc) le f fss gss RX RY SX MX p n o v).ops.s2; exact (HeldF.fin (by assumption) : FinV w _ (.slice af f.length kf) (.slice av fss.length kv) (.slice aw gss.length kw) (.slice ua2 RX.length uc2) (.slice ua3 RY.length uc3) (.slice va1 SX.length vc1) (.slice va2 MX.length vc2) w4.heap.size w6.heap.size lc (.slice ea le.length ec) (.slice eva le.length evc) le f fss gss RX RY SX MX p n o v).l2; rintro e wE ⟨rfl, hb5⟩)
        | (go_at_call 17; refine (sameInts_same le _ _ _ HLE.out ?_ ?_).mono ?_; exact (HeldF.fin (by assumption) : FinV w _ (.slice af f.length kf) (.slice av fss.length kv) (.slice aw gss.length kw) (.slice ua2 RX.length uc2) (.slice ua3 RY.length uc3) (.slice va1 SX.length vc1) (.slice va2 MX.length vc2) w4.heap.size w6.heap.size lc (.slice ea le.length ec) (.slice eva le.length evc) le f fss gss RX RY SX MX p n o v).ops.ts; exact (HeldF.fin (by assumption) : FinV w _ (.slice af f.length kf) (.slice av fss.length kv) (.slice aw gss.length kw) (.slice ua2 RX.length uc2) (.slice ua3 RY.length uc3) (.slice va1 SX.length vc1) (.slice va2 MX.length vc2) w4.heap.size w6.heap.size lc (.slice ea le.length ec) (.slice eva le.length evc) le f fss gss RX RY SX MX p n o v).ls; rintro e wF ⟨rfl, hb6⟩))
    all_goals
      have HF := hid (HeldF.fin (by assumption) : FinV w _ (.slice af f.length kf) (.slice av fss.length kv) (.slice aw gss.length kw) (.slice ua2 RX.length uc2) (.slice ua3 RY.length uc3) (.slice va1 SX.length vc1) (.slice va2 MX.length vc2) w4.heap.size w6.heap.size lc (.slice ea le.length ec) (.slice eva le.length evc) le f fss gss RX RY SX MX p n o v)
      go_wp2
      go_ret
      exact ⟨rfl, HF.out.ops.below⟩
end Go.Proofs.Ytilogbggilchaaa
