/- Divisor of the reference. -/
import Derived.Test.YtilogbggilchaaaGreatQP
import Derived.Test.YtilogbggilchaaaGreatZP
import Derived.Test.YtilogbggilchaaaGreatXV
namespace Go.Proofs.YtilogbggilchaaaGreat
set_option linter.unusedSimpArgs false
set_option linter.unusedVariables false
open Go.RowKit
def dsV (o ov : Int) (lss : List (List (List Tm))) (j : Nat) (e : List Int) : Int :=
  match dvI o ov lss j e with
  | none => -1
  | some i => (i : Int)
def TB (w : World) (bb : Nat) (c : Int) (ev : Value) : Prop := w.cell? ⟨bb, 0, none⟩ = some (.int .i64 c) ∧ w.cell? ⟨bb, 1, none⟩ = some ev
theorem TB.below {w w' : World} {bb : Nat} {c : Int} {ev : Value} (h : TB w bb c ev) (hb : Below w.heap.size w w') : TB w' bb c ev := ⟨cell_keep h.1 hb, cell_keep h.2 hb⟩
theorem tb_new (w : World) (c : Int) (ev : Value) : TB (w.alloc (.cells #[.int .i64 c, ev] 57)) w.heap.size c ev := by
  have h : ∀ j u, #[Value.int .i64 c, ev][j]? = some u → (w.alloc (.cells #[.int .i64 c, ev] 57)).cell? ⟨w.heap.size, j, none⟩ = some u := fun j u hu => by
    unfold World.cell?
    rw [show (w.alloc (.cells #[.int .i64 c, ev] 57)).heap[w.heap.size]? = some (.cells #[.int .i64 c, ev] 57 (0, 0)) from heap_alloc_new w _]
    simpa using hu
  exact ⟨h 0 _ rfl, h 1 _ rfl⟩
def TZ (w : World) (bb : Nat) : Prop := w.ownsRow bb 57 2 (.slice (some ⟨bb, 0, none⟩) 1 1) 1 [.int .i64 0, .slice none 0 0]
theorem tz_new (w : World) : TZ (w.alloc (.cells #[.int .i64 0, .slice none 0 0] 57)) w.heap.size :=
  ⟨by simp, .inr ⟨w.heap.size, 1, _, rfl, Nat.le_refl _, heap_alloc_new w _, Nat.le_refl _, by decide, by simp, by simp⟩⟩
theorem TZ.below {w w' : World} {bb : Nat} (h : TZ w bb) (hb : Below w.heap.size w w') : TZ w' bb := ownBlock_lt h hb
theorem TZ.put {w : World} {bb : Nat} (h : TZ w bb) (c : Int) (ev : Value) : TB ((w.setCell ⟨bb, 0, none⟩ (.int .i64 c)).setCell ⟨bb, 1, none⟩ ev) bb c ev := by
  have s1 := h.stored 0 (.int .i64 c)
  have s2 := s1.1.stored 1 ev
  have x0 := s2.1.cellAt 0 (by simp)
  have x1 := s2.1.cellAt 1 (by simp)
  exact ⟨by simpa using x0, by simpa using x1⟩
theorem dvI_none_of {o ov : Int} {lss : List (List (List Tm))} {j : Nat} {e : List Int} (h : ∀ m, m < lss.length → isDv o ov j e (lss.getD m []) = false) : dsV o ov lss j e = -1 := by
  have : dvI o ov lss j e = none := by
    unfold dvI
    rw [List.findIdx?_eq_none_iff]
    intro g hg
    obtain ⟨m, hm, rfl⟩ := List.getElem_of_mem hg
    have := h m hm
    simpa [List.getD_eq_getElem?_getD, hm] using this
  unfold dsV; rw [this]
theorem dvI_some_of {o ov : Int} {lss : List (List (List Tm))} {j : Nat} {e : List Int} {k : Nat} (hk : k < lss.length) (h : ∀ m, m < k → isDv o ov j e (lss.getD m []) = false) (h2 : isDv o ov j e (lss.getD k []) = true) : dsV o ov lss j e = k := by
  have : dvI o ov lss j e = some k := by
    unfold dvI
    rw [List.findIdx?_eq_some_iff_getElem]
    refine ⟨hk, by simpa [List.getD_eq_getElem?_getD, hk] using h2, fun m hm => ?_⟩
    have := h m hm
    have hml : m < lss.length := by omega
    simpa [List.getD_eq_getElem?_getD, hml] using this
  unfold dsV; rw [this]
theorem isDv_none {o ov : Int} {j : Nat} {e : List Int} {g : List (List Tm)} (h : leadF o ov g g.length = none) : isDv o ov j e g = false := by unfold isDv; rw [h]
theorem isDv_some {o ov : Int} {j : Nat} {e : List Int} {g : List (List Tm)} {k : Nat} {u : Tm} (h : leadF o ov g g.length = some (k, u)) : isDv o ov j e g = (decide (k = j) && !lackB e u.2) := by unfold isDv; rw [h]

set_option maxRecDepth 100000 in
set_option maxHeartbeats 4000000 in
theorem divisor_any (p n o v : Int) (N j : Nat) (lv te : Value) (c : Int) (lss : List (List (List Tm))) (e : List Int) (w : World) (hov : v = 1 ∨ v = 2) (ho : o = 1 ∨ o = 2) (hN0 : 0 < N) (hN : N ≤ 3) (hL : lss.length ≤ 60) (hr : ∀ g ∈ lss, g.length ≤ 1000 ∧ ∀ f ∈ g, Right p o N f) (hl : Wl w lv lss) (he : e.length = N) (ht : Sl w te e) :
    Calls Tryz.prog 34 #[ringV p n o v, lv, .int .i64 (j : Int), .agg #[.int .i64 c, te]] w fun x w' => x = .returned (.int .i64 (dsV o v lss j e)) ∧ Below w.heap.size w w' := by
  have HR := hid hr
  have HY := hid hl
  have HT := hid ht
  have HE := hid he
  have HOV := hid hov
  have HO := hid ho
  obtain ⟨ly, lc, rfl, _⟩ := hl
  obtain ⟨ta, tc, rfl, hta⟩ := ht
  obtain ⟨tb, toff, rfl, _, htc⟩ := hta (by omega)
  obtain ⟨w1, hw1⟩ : ∃ w1, w1 = w.alloc (.cells #[.int .i64 p, .int .i64 n, .int .i64 o, .int .i64 v] 23) := ⟨_, rfl⟩
  obtain ⟨w2, hw2⟩ : ∃ w2, w2 = w1.alloc (.cells #[.int .i64 c, .slice (some ⟨tb, toff, none⟩) e.length tc] 57) := ⟨_, rfl⟩
  have hs1 : w1.heap.size = w.heap.size + 1 := by rw [hw1]; simp
  have HB1 : Hid (Below w.heap.size w w1) := by rw [hw1]; exact belowNew
  have HB12 : Hid (Below w1.heap.size w1 w2) := by rw [hw2]; exact belowNew
  have HB2 : Hid (Below w.heap.size w w2) := HB1.out.trans (HB12.out.mono HB1.out.size)
  have HX2 : Hid (BoxAt w2 w.heap.size p n o v) := by
    have h : BoxAt w1 w.heap.size p n o v := by rw [hw1]; exact BoxAt.new w p n o v _
    exact h.below HB12.out
  have HT2 : Hid (TB w2 (w.heap.size + 1) c (.slice (some ⟨tb, toff, none⟩) e.length tc)) := by
    show TB _ _ _ _
    rw [hw2, ← hs1]; exact tb_new w1 c _
  clear hr ho hov hta he htc hs1
  unfold ringV
  go_enter Tryz.func34, Tryz.ntmps34
  go_wp2_with fail
  rw [← hw1, ← hw2]
  clear hw1 hw2
  go_loopw [9] (fun i wr => ∃ k : Nat, k ≤ lss.length ∧ i = .int .i64 k ∧ (∀ m, m < k → isDv o v j e (lss.getD m []) = false) ∧ Below w2.heap.size w2 wr) (fun i _ => lss.length - (intOf i).toNat)
  case atStart => exact ⟨0, Nat.zero_le _, rfl, fun m hm => by omega, Below.refl _ _⟩
  case round =>
    obtain ⟨k, hk, rfl, hno, hbr⟩ := hrel
    have HNO := hid hno
    have HBR := hid hbr
    clear hno hbr
    by_cases hk2 : k < lss.length
    · obtain ⟨b2, off2, va, vc, rfl, hlt2, d0, hpv⟩ := wl_at HY.out k hk2
      have HRK := hid (HR.out _ (getD_memV lss k hk2))
      have HIT := hid (fun (h : isDv o v j e (lss.getD k []) = true) => dvI_some_of hk2 HNO.out h)
      have HIF : Hid (isDv o v j e (lss.getD k []) = false → ∀ m, m < k + 1 → isDv o v j e (lss.getD m []) = false) := fun h m hm => by
        rcases Nat.lt_or_ge m k with h1 | h1
        · exact HNO.out m h1
        · have : m = k := by omega
          subst this; exact h
      generalize lss.getD k [] = g at d0 hpv HRK HIT HIF
      have HLE : Hid (∀ W, Below w2.heap.size w2 W → Calls Tryz.prog 33 #[ringV p n o v, .slice va g.length vc] W fun e w' => ∃ ea ec, e = .returned (.tuple #[.int .i64 (plc (leadF o v g g.length)), .agg #[.int .i64 (ldC (leadF o v g g.length)), .slice ea (ldE (leadF o v g g.length)).length ec]]) ∧ Sl w2 (.slice ea (ldE (leadF o v g g.length)).length ec) (ldE (leadF o v g g.length)) ∧ Below W.heap.size W w') := fun W hb =>
        leadOf_old w2 p n o v N _ g W hb HOV.out HO.out hN0 hN HRK.out.1 HRK.out.2 (hpv.below HB2.out)
      unfold ringV at HLE
      have HLU : Hid (∀ q u, leadF o v g g.length = some (q, u) → u.2.length = N) := fun q u h => by
        obtain ⟨h1, us, h2⟩ := leadF_at h
        have hr := HRK.out.2 _ (getD_memL g q (by omega))
        rw [h2] at hr
        exact hr.canon.len u (by simp)
      have HDN := hid (fun (h : leadF o v g g.length = none) => isDv_none (j := j) (e := e) h)
      have HDS := hid (fun q u (h : leadF o v g g.length = some (q, u)) => isDv_some (j := j) (e := e) h)
      generalize leadF o v g g.length = L at HLE HLU HDN HDS
      obtain ⟨_, bx0, bx1, bx2, bx3⟩ := HX2.out
      have hd0 := cell_keep d0 HB2.out
      have KEEP : Hid (∀ W, Below w2.heap.size w2 W → (Hid (Below w2.heap.size w2 W) ∧ W.cell? ⟨w.heap.size, 0, none⟩ = some (.int .i64 p) ∧ W.cell? ⟨w.heap.size, 1, none⟩ = some (.int .i64 n) ∧ W.cell? ⟨w.heap.size, 2, none⟩ = some (.int .i64 o) ∧ W.cell? ⟨w.heap.size, 3, none⟩ = some (.int .i64 v) ∧ W.cell? ⟨b2, off2 + k, none⟩ = some (.slice va g.length vc))) :=
        fun W hb => ⟨hb, cell_keep bx0 hb, cell_keep bx1 hb, cell_keep bx2 hb, cell_keep bx3 hb, cell_keep hd0 hb⟩
      have HB0 : Hid (Below w2.heap.size w2 wr.drew) := HBR.out.drew
      have HBA : Hid (Below w2.heap.size w2 (wr.drew.alloc (.cells #[.int .i64 0, .slice none 0 0] 57))) := HBR.out.drew.trans (belowNew.mono HBR.out.size)
      have HBB : Hid (Below w2.heap.size w2 (wr.alloc (.cells #[.int .i64 0, .slice none 0 0] 57)).drew) := (HBR.out.trans (belowNew.mono HBR.out.size)).drew
      have HZA : Hid (TZ (wr.drew.alloc (.cells #[.int .i64 0, .slice none 0 0] 57)) wr.heap.size) := tz_new wr.drew
      have HZB : Hid (TZ (wr.alloc (.cells #[.int .i64 0, .slice none 0 0] 57)).drew wr.heap.size) := (tz_new wr).below (Below.refl _ _).drew
      have LAYB : Hid (∀ w8 (v0 v1 : Value), Below w2.heap.size w2 w8 → Below w2.heap.size w2 ((w8.setCell ⟨wr.heap.size, 0, none⟩ v0).setCell ⟨wr.heap.size, 1, none⟩ v1)) := fun w8 v0 v1 h => (h.setCell HBR.out.size _).setCell HBR.out.size _
      clear bx0 bx1 bx2 bx3 d0 hd0 hpv
      go_upto_region 4 with fail
      go_cut [10, 11] from 18 to 26 (fun s10 s11 wx => ∃ (bb : Nat) (ea : Option Addr) (ec : Nat), s10 = .int .i64 (plc L) ∧ s11 = .pointer (some ⟨bb, 0, none⟩) ∧ Below w2.heap.size w2 wx ∧ TB wx bb (ldC L) (.slice ea (ldE L).length ec) ∧ Sl w2 (.slice ea (ldE L).length ec) (ldE L))
      case first =>
        go_region_held (fun W => Hid (Below w2.heap.size w2 W) ∧ W.cell? ⟨w.heap.size, 0, none⟩ = some (.int .i64 p) ∧ W.cell? ⟨w.heap.size, 1, none⟩ = some (.int .i64 n) ∧ W.cell? ⟨w.heap.size, 2, none⟩ = some (.int .i64 o) ∧ W.cell? ⟨w.heap.size, 3, none⟩ = some (.int .i64 v) ∧ W.cell? ⟨b2, off2 + k, none⟩ = some (.slice va g.length vc))
          (first | with_reducible exact KEEP.out _ HB0.out | with_reducible exact KEEP.out _ HBA.out | with_reducible exact KEEP.out _ HBB.out | with_reducible exact KEEP.out _ HB8.out | with_reducible exact KEEP.out _ (HB8.out.trans (belowNew.mono HB8.out.size)) | with_reducible exact KEEP.out _ (LAYB.out _ _ _ HB8.out))
          (first
            | (go_at_call 33; refine (HLE.out _ HB0.out).mono ?_; rintro e8 w8 ⟨ea, ec, rfl, hsl, hb8⟩; have HB8 := hid (HB0.out.trans (hb8.mono HB0.out.size)); have HSL := hid hsl; clear hb8 hsl)
            | (go_at_call 33; refine (HLE.out _ HBA.out).mono ?_; rintro e8 w8 ⟨ea, ec, rfl, hsl, hb8⟩; have HB8 := hid (HBA.out.trans (hb8.mono HBA.out.size)); have HSL := hid hsl; have HZ8 := hid (HZA.out.below hb8); clear hb8 hsl; have y0 := World.ownsRow.cellAt HZ8.out 0 (by simp); have y1 := World.ownsRow.cellAt HZ8.out 1 (by simp); have z0 := World.ownsRow.frozenAt HZ8.out 0; have z1 := World.ownsRow.frozenAt HZ8.out 1)
            | (go_at_call 33; refine (HLE.out _ HBB.out).mono ?_; rintro e8 w8 ⟨ea, ec, rfl, hsl, hb8⟩; have HB8 := hid (HBB.out.trans (hb8.mono HBB.out.size)); have HSL := hid hsl; have HZ8 := hid (HZB.out.below hb8); clear hb8 hsl; have y0 := World.ownsRow.cellAt HZ8.out 0 (by simp); have y1 := World.ownsRow.cellAt HZ8.out 1 (by simp); have z0 := World.ownsRow.frozenAt HZ8.out 0; have z1 := World.ownsRow.frozenAt HZ8.out 1))
        all_goals
          go_wp2_with fail
          go_meet
          first
            | exact ⟨_, ea, ec, rfl, rfl, HB8.out.trans (belowNew.mono HB8.out.size), tb_new _ _ _, HSL.out⟩
            | exact ⟨_, ea, ec, rfl, rfl, LAYB.out _ _ _ HB8.out, HZ8.out.put _ _, HSL.out⟩
      case rest =>
        obtain ⟨bb, ea, ec, rfl, rfl, hbx, htb, hsl⟩ := hcut
        have HBX := hid hbx
        have HSL := hid hsl
        obtain ⟨q0, q1⟩ := htb
        obtain ⟨t0, t1⟩ := HT2.out.below hbx
        clear hbx hsl
        cases L with
        | none =>
          have HD := hid (HIF.out (HDN.out rfl))
          obtain ⟨mm, hm1⟩ : ∃ mm : Int, plc none = mm := ⟨_, rfl⟩
          have hm0 : mm < 0 := by rw [← hm1]; decide
          have hd : (mm == (j : Int)) = false := by simp; omega
          have hd2 : decide (mm = (j : Int)) = false := by simp; omega
          rw [hm1]
          clear hm1
          go_wp2_with fail
          go_roundw
          case rel => exact ⟨k + 1, by omega, by go_num, HD.out, HBX.out⟩
          case measure => simp [intOf]; omega
        | some q =>
          obtain ⟨q, u⟩ := q
          have HUL := hid (HLU.out q u rfl)
          have HDD := hid (HDS.out q u rfl)
          rw [plc_some]
          by_cases hq : q = j
          · subst hq
            have q1b : wc.cell? ⟨bb, 1, none⟩ = some (.slice ea u.2.length ec) := q1
            have HSU : Hid (Sl wc (.slice ea u.2.length ec) u.2) := Sl.below HSL.out HBX.out
            have HTU : Hid (Sl wc (.slice (some ⟨tb, toff, none⟩) e.length tc) e) := (HT.out.below HB2.out).below HBX.out
            obtain ⟨ea2, ec2, hee, hse⟩ := HSU.out
            simp only [Value.slice.injEq, true_and] at hee
            obtain ⟨rfl, rfl⟩ := hee
            obtain ⟨eb, eoff, rfl, _, hce⟩ := hse (by rw [HUL.out]; exact hN0)
            obtain ⟨ta2, tc2, het, hst⟩ := HTU.out
            obtain ⟨tb2, toff2, htt, _, hct⟩ := hst (by rw [HE.out]; exact hN0)
            subst htt
            simp only [Value.slice.injEq, Option.some.injEq, Addr.mk.injEq, true_and, and_true] at het
            obtain ⟨⟨rfl, rfl⟩, rfl⟩ := het
            have HG := hid (goesInto_any e u.2 tb toff tc eb eoff ec wc (by rw [HE.out]; exact hN) (by rw [HE.out, HUL.out]) hct hce)
            clear hse hce hst hct q1
            have hd : ((q : Int) == (q : Int)) = true := by simp
            have hd2 : decide ((q : Int) = (q : Int)) = true := by simp
            cases hb : lackB e u.2
            · have HD := hid (HIT.out (by rw [HDD.out, hb]; simp))
              rw [hb] at HG
              go_wp2_with (go_at_call 72; refine HG.out.mono ?_; rintro e9 w9 ⟨rfl, n9, rfl⟩)
              go_ret
              exact ⟨by rw [HD.out]; rfl, HB2.out.trans ((below_drewN HBX.out n9).mono HB2.out.size)⟩
            · have HD := hid (HIF.out (by rw [HDD.out, hb]; simp))
              rw [hb] at HG
              go_wp2_with (go_at_call 72; refine HG.out.mono ?_; rintro e9 w9 ⟨rfl, n9, rfl⟩)
              go_roundw
              case rel => exact ⟨k + 1, by omega, by go_num, HD.out, below_drewN HBX.out n9⟩
              case measure => simp [intOf]; omega
          · have HD : Hid (∀ m, m < k + 1 → isDv o v j e (lss.getD m []) = false) := HIF.out (by rw [HDD.out]; simp [hq])
            have hd : ((q : Int) == (j : Int)) = false := by simp; omega
            have hd2 : decide ((q : Int) = (j : Int)) = false := by simp; omega
            go_wp2_with fail
            go_roundw
            case rel => exact ⟨k + 1, by omega, by go_num, HD.out, HBX.out⟩
            case measure => simp [intOf]; omega
    · have e1 : k = lss.length := by omega
      subst e1
      have HF := hid (dvI_none_of HNO.out)
      go_wp2
      go_ret
      exact ⟨by rw [HF.out]; rfl, HB2.out.trans (HBR.out.mono HB2.out.size)⟩
end Go.Proofs.YtilogbggilchaaaGreat
