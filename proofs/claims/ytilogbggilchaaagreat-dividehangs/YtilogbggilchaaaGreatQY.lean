/- Divisor of the reference. -/
import Derived.Test.YtilogbggilchaaaGreatQP
import Derived.Test.YtilogbggilchaaaGreatZP
import Derived.Test.YtilogbggilchaaaGreatXV
namespace Go.Proofs.YtilogbggilchaaaGreat
set_option linter.unusedSimpArgs false
set_option linter.unusedVariables false
open Go.RowKit
def dsV (o ov : Int) (lss : List (List (List Tm))) (j : Nat) (e : List Int) : Int :=
  match dvI o ov lss j e with
  | none => -1
  | some i => (i : Int)
def TB (w : World) (bb : Nat) (c : Int) (ev : Value) : Prop := w.cell? ⟨bb, 0, none⟩ = some (.int .i64 c) ∧ w.cell? ⟨bb, 1, none⟩ = some ev
theorem TB.below {w w' : World} {bb : Nat} {c : Int} {ev : Value} (h : TB w bb c ev) (hb : Below w.heap.size w w') : TB w' bb c ev := ⟨cell_keep h.1 hb, cell_keep h.2 hb⟩
theorem tb_new (w : World) (c : Int) (ev : Value) : TB (w.alloc (.cells #[.int .i64 c, ev] 57)) w.heap.size c ev := by
  have h : ∀ j u, #[Value.int .i64 c, ev][j]? = some u → (w.alloc (.cells #[.int .i64 c, ev] 57)).cell? ⟨w.heap.size, j, none⟩ = some u := fun j u hu => by
    unfold World.cell?
    rw [show (w.alloc (.cells #[.int .i64 c, ev] 57)).heap[w.heap.size]? = some (.cells #[.int .i64 c, ev] 57 (0, 0)) from heap_alloc_new w _]
    simpa using hu
  exact ⟨h 0 _ rfl, h 1 _ rfl⟩
def TZ (w : World) (bb : Nat) : Prop := w.ownsRow bb 57 2 (.slice (some ⟨bb, 0, none⟩) 1 1) 1 [.int .i64 0, .slice none 0 0]
theorem tz_new (w : World) : TZ (w.alloc (.cells #[.int .i64 0, .slice none 0 0] 57)) w.heap.size :=
  ⟨by simp, .inr ⟨w.heap.size, 1, _, rfl, Nat.le_refl _, heap_alloc_new w _, Nat.le_refl _, by decide, by simp, by simp⟩⟩
theorem TZ.below {w w' : World} {bb : Nat} (h : TZ w bb) (hb : Below w.heap.size w w') : TZ w' bb := ownBlock_lt h hb
theorem TZ.put {w : World} {bb : Nat} (h : TZ w bb) (c : Int) (ev : Value) : TB ((w.setCell ⟨bb, 0, none⟩ (.int .i64 c)).setCell ⟨bb, 1, none⟩ ev) bb c ev := by
  have s1 := h.stored 0 (.int .i64 c)
  have s2 := s1.1.stored 1 ev
  have x0 := s2.1.cellAt 0 (by simp)
  have x1 := s2.1.cellAt 1 (by simp)
  exact ⟨by simpa using x0, by simpa using x1⟩
theorem dvI_none_of {o ov : Int} {lss : List (List (List Tm))} {j : Nat} {e : List Int} (h : ∀ m, m < lss.length → isDv o ov j e (lss.getD m []) = false) : dsV o ov lss j e = -1 := by
  have : dvI o ov lss j e = none := by
    unfold dvI
    rw [List.findIdx?_eq_none_iff]
    intro g hg
    obtain ⟨m, hm, rfl⟩ := List.getElem_of_mem hg
    have := h m hm
    simpa [List.getD_eq_getElem?_getD, hm] using this
  unfold dsV; rw [this]
theorem dvI_some_of {o ov : Int} {lss : List (List (List Tm))} {j : Nat} {e : List Int} {k : Nat} (hk : k < lss.length) (h : ∀ m, m < k → isDv o ov j e (lss.getD m []) = false) (h2 : isDv o ov j e (lss.getD k []) = true) : dsV o ov lss j e = k := by
  have : dvI o ov lss j e = some k := by
    unfold dvI
    rw [List.findIdx?_eq_some_iff_getElem]
    refine ⟨hk, by simpa [List.getD_eq_getElem?_getD, hk] using h2, fun m hm => ?_⟩
    have := h m hm
    have hml : m < lss.length := by omega
    simpa [List.getD_eq_getElem?_getD, hml] using this
  unfold dsV; rw [this]
theorem isDv_none {o ov : Int} {j : Nat} {e : List Int} {g : List (List Tm)} (h : leadF o ov g g.length = none) : isDv o ov j e g = false := by unfold isDv; rw [h]
theorem isDv_some {o ov : Int} {j : Nat} {e : List Int} {g : List (List Tm)} {k : Nat} {u : Tm} (h : leadF o ov g g.length = some (k, u)) : isDv o ov j e g = (decide (k = j) && !lackB e u.2) := by unfold isDv; rw [h]

set_option maxRecDepth 100000 in
set_option maxHeartbeats 4000000 in
theorem divisor_any (p n o v : Int) (N j : Nat) (lv te : Value) (c : Int) (lss : List (List (List Tm))) (e : List Int) (w : World) (hov : v = 1 ∨ v = 2) (ho : o = 1 ∨ o = 2) (hN0 : 0 < N) (hN : N ≤ 3) (hL : lss.length ≤ 60) (hr : ∀ g ∈ lss, g.length ≤ 1000 ∧ ∀ f ∈ g, Right p o N f) (hl : Wl w lv lss) (he : e.length = N) (ht : Sl w te e) :
    Calls Tryz.prog 34 #[ringV p n o v, lv, .int .i64 (j : Int), .agg #[.int .i64 c, te]] w fun x w' => x = .returned (.int .i64 (dsV o v lss j e)) ∧ Below w.heap.size w w' := by
  have HR := hid hr
  have HY := hid hl
  have HT := hid ht
  have HE := hid he
  have HOV := hid hov
  have HO := hid ho
  obtain ⟨ly, lc, rfl, _⟩ := hl
  obtain ⟨ta, tc, rfl, hta⟩ := ht
  obtain ⟨tb, toff, rfl, _, htc⟩ := hta (by omega)
  obtain ⟨w1, hw1⟩ : ∃ w1, w1 = w.alloc (.cells #[.int .i64 p, .int .i64 n, .int .i64 o, .int .i64 v] 23) := ⟨_, rfl⟩
  obtain ⟨w2, hw2⟩ : ∃ w2, w2 = w1.alloc (.cells #[.int .i64 c, .slice (some ⟨tb, toff, none⟩) e.length tc] 57) := ⟨_, rfl⟩
  have hs1 : w1.heap.size = w.heap.size + 1 := by rw [hw1]; simp
  have HB1 : Hid (Below w.heap.size w w1) := by rw [hw1]; exact belowNew
  have HB12 : Hid (Below w1.heap.size w1 w2) := by rw [hw2]; exact belowNew
  have HB2 : Hid (Below w.heap.size w w2) := HB1.out.trans (HB12.out.mono HB1.out.size)
  have HX2 : Hid (BoxAt w2 w.heap.size p n o v) := by
    have h : BoxAt w1 w.heap.size p n o v := by rw [hw1]; exact BoxAt.new w p n o v _
    exact h.below HB12.out
  have HT2 : Hid (TB w2 (w.heap.size + 1) c (.slice (some ⟨tb, toff, none⟩) e.length tc)) := by
    show TB _ _ _ _
    rw [hw2, ← hs1]; exact tb_new w1 c _
  clear hr ho hov hta he htc hs1
  unfold ringV
  go_enter Tryz.func34, Tryz.ntmps34
  go_wp2_with fail
  rw [← hw1, ← hw2]
  clear hw1 hw2
  go_loopw [9] (fun i wr => ∃ k : Nat, k ≤ lss.length ∧ i = .int .i64 k ∧ (∀ m, m < k → isDv o v j e (lss.getD m []) = false) ∧ Below w2.heap.size w2 wr) (fun i _ => lss.length - (intOf i).toNat)
  case atStart => exact ⟨0, Nat.zero_le _, rfl, fun m hm => by omega, Below.refl _ _⟩
  case round =>
    obtain ⟨k, hk, rfl, hno, hbr⟩ := hrel
    have HNO := hid hno
    have HBR := hid hbr
    clear hno hbr
    by_cases hk2 : k < lss.length
    · obtain ⟨b2, off2, va, vc, rfl, hlt2, d0, hpv⟩ := wl_at HY.out k hk2
      have HRK := hid (HR.out _ (getD_memV lss k hk2))
      have HIT := hid (fun (h : isDv o v j e (lss.getD k []) = true) => dvI_some_of hk2 HNO.out h)
      have HIF : Hid (isDv o v j e (lss.getD k []) = false → ∀ m, m < k + 1 → isDv o v j e (lss.getD m []) = false) := fun h m hm => by
        rcases Nat.lt_or_ge m k with h1 | h1
        · exact HNO.out m h1
        · have : m = k := by omega
          subst this; exact h
      generalize lss.getD k [] = g at d0 hpv HRK HIT HIF
      have HLE : Hid (∀ W, Below w2.heap.size w2 W → Calls Tryz.prog 33 #[ringV p n o v, .slice va g.length vc] W fun e w' => ∃ ea ec, e = .returned (.tuple #[.int .i64 (plc (leadF o v g g.length)), .agg #[.int .i64 (ldC (leadF o v g g.length)), .slice ea (ldE (leadF o v g g.length)).length ec]]) ∧ Sl w2 (.slice ea (ldE (leadF o v g g.length)).length ec) (ldE (leadF o v g g.length)) ∧ Below W.heap.size W w') := fun W hb =>
        leadOf_old w2 p n o v N _ g W hb HOV.out HO.out hN0 hN HRK.out.1 HRK.out.2 (hpv.below HB2.out)
      unfold ringV at HLE
      have HLU : Hid (∀ q u, leadF o v g g.length = some (q, u) → u.2.length = N) := fun q u h => by
        obtain ⟨h1, us, h2⟩ := leadF_at h
        have hr := HRK.out.2 _ (getD_memL g q (by omega))
        rw [h2] at hr
        exact hr.canon.len u (by simp)
      have HDN := hid (fun (h : leadF o v g g.length = none) => isDv_none (j := j) (e := e) h)
      have HDS := hid (fun q u (h : leadF o v g g.length = some (q, u)) => isDv_some (j := j) (e := e) h)
      generalize leadF o v g g.length = L at HLE HLU HDN HDS
      obtain ⟨_, bx0, bx1, bx2, bx3⟩ := HX2.out
      have hd0 := cell_keep d0 HB2.out
      have KEEP : Hid (∀ W, Below w2.heap.size w2 W → (Hid (Below w2.heap.size w2 W) ∧ W.cell? ⟨w.heap.size, 0, none⟩ = some (.int .i64 p) ∧ W.cell? ⟨w.heap.size, 1, none⟩ = some (.int .i64 n) ∧ W.cell? ⟨w.heap.size, 2, none⟩ = some (.int .i64 o) ∧ W.cell? ⟨w.heap.size, 3, none⟩ = some (.int .i64 v) ∧ W.cell? ⟨b2, off2 + k, none⟩ = some (.slice va g.length vc))) :=
        fun W hb => ⟨hb, cell_keep bx0 hb, cell_keep bx1 hb, cell_keep bx2 hb, cell_keep bx3 hb, cell_keep hd0 hb⟩
      have HB0 : Hid (Below w2.heap.size w2 wr.drew) := HBR.out.drew
      have HBA : Hid (Below w2.heap.size w2 (wr.drew.alloc (.cells #[.int .i64 0, .slice none 0 0] 57))) := HBR.out.drew.trans (belowNew.mono HBR.out.size)
      have HBB : Hid (Below w2.heap.size w2 (wr.alloc (.cells #[.int .i64 0, .slice none 0 0] 57)).drew) := (HBR.out.trans (belowNew.mono HBR.out.size)).drew
      have HZA : Hid (TZ (wr.drew.alloc (.cells #[.int .i64 0, .slice none 0 0] 57)) wr.heap.size) := tz_new wr.drew
      have HZB : Hid (TZ (wr.alloc (.cells #[.int .i64 0, .slice none 0 0] 57)).drew wr.heap.size) := (tz_new wr).below (Below.refl _ _).drew
      have LAYB : Hid (∀ w8 (v0 v1 : Value), Below w2.heap.size w2 w8 → Below w2.heap.size w2 ((w8.setCell ⟨wr.heap.size, 0, none⟩ v0).setCell ⟨wr.heap.size, 1, none⟩ v1)) := fun w8 v0 v1 h => (h.setCell HBR.out.size _).setCell HBR.out.size _
      clear bx0 bx1 bx2 bx3 d0 hd0 hpv
      go_upto_region 4 with fail
      go_cut [10, 11] from 18 to 26 (fun s10 s11 wx => ∃ (bb : Nat) (ea : Option Addr) (ec : Nat), s10 = .int .i64 (plc L) ∧ s11 = .pointer (some ⟨bb, 0, none⟩) ∧ Below w2.heap.size w2 wx ∧ TB wx bb (ldC L) (.slice ea (ldE L).length ec) ∧ Sl w2 (.slice ea (ldE L).length ec) (ldE L))
      case first =>
        go_region_held (fun W => Hid (Below w2.heap.size w2 W) ∧ W.cell? ⟨w.heap.size, 0, none⟩ = some (.int .i64 p) ∧ W.cell? ⟨w.heap.size, 1, none⟩ = some (.int .i64 n) ∧ W.cell? ⟨w.heap.size, 2, none⟩ = some (.int .i64 o) ∧ W.cell? ⟨w.heap.size, 3, none⟩ = some (.int .i64 v) ∧ W.cell? ⟨b2, off2 + k, none⟩ = some (.slice va g.length vc))
          (first | with_reducible exact KEEP.out _ HB0.out | with_reducible exact KEEP.out _ HBA.out | with_reducible exact KEEP.out _ HBB.out | with_reducible exact KEEP.out _ HB8.out | with_reducible exact KEEP.out _ (HB8.out.trans (belowNew.mono HB8.out.size)) | with_reducible exact KEEP.out _ (LAYB.out _ _ _ HB8.out))
          (first
            | (go_at_call 33; refine (HLE.out _ HB0.out).mono ?_; rintro e8 w8 ⟨ea, ec, rfl, hsl, hb8⟩; have HB8 := hid (HB0.out.trans (hb8.mono HB0.out.size)); have HSL := hid hsl; clear hb8 hsl)
            | (go_at_call 33; refine (HLE.out _ HBA.out).mono ?_; rintro e8 w8 ⟨ea, ec, rfl, hsl, hb8⟩; have HB8 := hid (HBA.out.trans (hb8.mono HBA.out.size)); have HSL := hid hsl; have HZ8 := hid (HZA.out.below hb8); clear hb8 hsl; have y0 := World.ownsRow.cellAt HZ8.out 0 (by simp); have y1 := World.ownsRow.cellAt HZ8.out 1 (by simp); have z0 := World.ownsRow.frozenAt HZ8.out 0; have z1 := World.ownsRow.frozenAt HZ8.out 1)
            | (go_at_call 33; refine (HLE.out _ HBB.out).mono ?_; rintro e8 w8 ⟨ea, ec, rfl, hsl, hb8⟩; have HB8 := hid (HBB.out.trans (hb8.mono HBB.out.size)); have HSL := hid hsl; have HZ8 := hid (HZB.out.below hb8); clear hb8 hsl; have y0 := World.ownsRow.cellAt HZ8.out 0 (by simp); have y1 := World.ownsRow.cellAt HZ8.out 1 (by simp); have z0 := World.ownsRow.frozenAt HZ8.out 0; have z1 := World.ownsRow.frozenAt HZ8.out 1))
        all_goals
          go_wp2_with fail
          go_meet
          first
            | exact ⟨_, ea, ec, rfl, rfl, HB8.out.trans (belowNew.mono HB8.out.size), tb_new _ _ _, HSL.out⟩
            | exact ⟨_, ea, ec, rfl, rfl, LAYB.out _ _ _ HB8.out, HZ8.out.put _ _, HSL.out⟩
      case rest =>
        obtain ⟨bb, ea, ec, rfl, rfl, hbx, htb, hsl⟩ := hcut
        have HBX := hid hbx
        have HSL := hid hsl
        obtain ⟨q0, q1⟩ := htb
        obtain ⟨t0, t1⟩ := HT2.out.below hbx
        clear hbx hsl
        cases L with
        | none =>
          have HD := hid (HIF.out (HDN.out rfl))
          obtain ⟨mm, hm1⟩ : ∃ mm : Int, plc none = mm := ⟨_, rfl⟩
          have hm0 : mm < 0 := by rw [← hm1]; decide
          have hd : (mm == (j : Int)) = false := by simp; omega
          have hd2 : decide (mm = (j : Int)) = false := by simp; omega
          rw [hm1]
          clear hm1
          go_wp2_with fail
          go_roundw
          case rel => exact ⟨k + 1, by omega, by go_num, HD.out, HBX.out⟩
          case measure => simp [intOf]; omega
        | some q =>
          obtain ⟨q, u⟩ := q
          have HUL := hid (HLU.out q u rfl)
          have HDD := hid (HDS.out q u rfl)
          rw [plc_some]
          by_cases hq : q = j
          · subst hq
            have q1b : wc.cell? ⟨bb, 1, none⟩ = some (.slice ea u.2.length ec) := q1
            have HSU : Hid (Sl wc (.slice ea u.2.length ec) u.2) := Sl.below HSL.out HBX.out
            have HTU : Hid (Sl wc (.slice (some ⟨tb, toff, none⟩) e.length tc) e) := (HT.out.below HB2.out).below HBX.out
            obtain ⟨ea2, ec2, hee, hse⟩ := HSU.out
            simp only [Value.slice.injEq, true_and] at hee
            obtain ⟨rfl, rfl⟩ := hee
            obtain ⟨eb, eoff, rfl, _, hce⟩ := hse (by rw [HUL.out]; exact hN0)
            obtain ⟨ta2, tc2, het, hst⟩ := HTU.out
            obtain ⟨tb2, toff2, htt, _, hct⟩ := hst (by rw [HE.out]; exact hN0)
            subst htt
            simp only [Value.slice.injEq, Option.some.injEq, Addr.mk.injEq, true_and, and_true] at het
            obtain ⟨⟨rfl, rfl⟩, rfl⟩ := het
            have HG := hid (goesInto_any e u.2 tb toff tc eb eoff ec wc (by rw [HE.out]; exact hN) (by rw [HE.out, HUL.out]) hct hce)
            clear hse hce hst hct q1
            have hd : ((q : Int) == (q : Int)) = true := by simp
            have hd2 : decide ((q : Int) = (q : Int)) = true := by simp
            cases hb : lackB e u.2
            · have HD := hid (HIT.out (by rw [HDD.out, hb]; simp))
              rw [hb] at HG
              go_wp2_with (go_at_call 72; refine HG.out.mono ?_; rintro e9 w9 ⟨rfl, n9, rfl⟩)
              go_ret
              exact ⟨by rw [HD.out]; rfl, HB2.out.trans ((below_drewN HBX.out n9).mono HB2.out.size)⟩
            · have HD := hid (HIF.out (by rw [HDD.out, hb]; simp))
              rw [hb] at HG
              go_wp2_with (go_at_call 72; refine HG.out.mono ?_; rintro e9 w9 ⟨rfl, n9, rfl⟩)
              go_roundw
              case rel => exact ⟨k + 1, by omega, by go_num, HD.out, below_drewN HBX.out n9⟩
              case measure => simp [intOf]; omega
          · have HD : Hid (∀ m, m < k + 1 → isDv o v j e (lss.getD m []) = false) := HIF.out (by rw [HDD.out]; simp [hq])
            have hd : ((q : Int) == (j : Int)) = false := by simp; omega
            have hd2 : decide ((q : Int) = (j : Int)) = false := by simp; omega
            go_wp2_with fail
            go_roundw
            case rel => exact ⟨k + 1, by omega, by go_num, HD.out, HBX.out⟩
            case measure => simp [intOf]; omega
    · have e1 : k = lss.length := by omega
      subst e1
      have HF := hid (dvI_none_of HNO.out)
      go_wp2
      go_ret
      exact ⟨by rw [HF.out]; rfl, HB2.out.trans (HBR.out.mono HB2.out.size)⟩
theorem PRow.mono {B B' : Nat} {w : World} {v : Value} {us : List Value} {fss : List (List Tm)} (h : PRow B' w v us fss) (hb : B ≤ B') : PRow B w v us fss := ⟨h.len, own_mono h.own hb, h.kind, h.pls⟩
def vbk : Value → Option Nat
  | .slice (some a) _ _ => some a.block
  | _ => none
theorem Vl.far {w w' : World} {g : Nat} {x : Value} {fss : List (List Tm)} (h : Vl w x fss) (hk : SlK w g) (hg : w.grownBy w' (some g)) (hne : vbk x ≠ some g) : Vl w' x fss := by
  obtain ⟨a, c, rfl, h⟩ := h
  refine ⟨a, c, rfl, fun hp => ?_⟩
  obtain ⟨b, off, rfl, hlt, hat⟩ := h hp
  have hb : b ≠ g := fun e => hne (by simp [vbk, e])
  refine ⟨b, off, rfl, Nat.lt_of_lt_of_le hlt hg.size, fun i hi => ?_⟩
  obtain ⟨v, hc, hpl⟩ := hat i hi
  exact ⟨v, by rw [cell_far hg hlt hb]; exact hc, pl_keep hk hg hpl⟩
theorem PRow.far {B : Nat} {w w' : World} {g : Nat} {v : Value} {us : List Value} {fss : List (List Tm)} (h : PRow B w v us fss) (hk : SlK w g) (hg : w.grownBy w' (some g)) (hne : v.ownBlock ≠ some g) : PRow B w' v us fss := by
  refine ⟨h.len, h.own.kept hg (Or.inr hne), fun g2 h2 j u hu => ?_, fun i hi => pl_keep hk hg (h.pls i hi)⟩
  have hlt := (World.ownsRow.lt h.own g2 h2).2
  rw [cell_far hg hlt (fun e => hne (by rw [h2, e]))] at hu
  exact h.kind g2 h2 j u hu
theorem PRow.put {B : Nat} {w : World} {g c n : Nat} {us : List Value} {fss : List (List Tm)} {i : Nat} {u : Value} {f : List Tm} (h : PRow B w (.slice (some ⟨g, 0, none⟩) n c) us fss) (hn : n = fss.length) (hi : i < fss.length) (hu : Pl w u f) :
    PRow B (w.setCell ⟨g, i, none⟩ u) (.slice (some ⟨g, 0, none⟩) n c) (us.set i u) (fss.set i f) ∧ w.grownBy (w.setCell ⟨g, i, none⟩ u) (some g) := by
  subst hn
  have hk := h.kind g rfl
  obtain ⟨s1, s2⟩ := h.own.stored i u
  have huS : ∃ a n c, u = .slice a n c := by obtain ⟨a, c, e, _⟩ := hu; exact ⟨_, _, _, e⟩
  refine ⟨⟨by simp [h.len], by rw [List.length_set]; exact s1, fun g2 h2 => ?_, fun k hk2 => ?_⟩, s2⟩
  · simp only [Value.ownBlock, Option.some.injEq] at h2
    subst h2
    rcases h.own.2 with ⟨h', _⟩ | ⟨g', cap', cur, h', hb, hg, _⟩
    · simp at h'
    · simp only [Value.slice.injEq, Option.some.injEq, Addr.mk.injEq, and_true, true_and] at h'
      obtain ⟨rfl, rfl⟩ := h'
      have hcur := row_slk hg hk
      refine slk_row (heap_setCell_same w g i cur _ u hg) fun y hy => ?_
      rw [Array.mem_toList_iff] at hy
      rcases Array.mem_or_eq_of_mem_setIfInBounds hy with h9 | h9
      · exact hcur y (by rw [Array.mem_toList_iff]; exact h9)
      · rw [h9]; exact huS
  · rw [List.length_set] at hk2
    by_cases e : i = k
    · subst e
      have e1 : (us.set i u).getD i nilV = u := by simp [List.getD_eq_getElem?_getD, show i < us.length by rw [h.len]; exact hi]
      have e2 : (fss.set i f).getD i [] = f := by simp [List.getD_eq_getElem?_getD, hi]
      rw [e1, e2]; exact pl_keep hk s2 hu
    · have e1 : (us.set i u).getD k nilV = us.getD k nilV := by simp [List.getD_eq_getElem?_getD, List.getElem?_set_ne e]
      have e2 : (fss.set i f).getD k [] = fss.getD k [] := by simp [List.getD_eq_getElem?_getD, List.getElem?_set_ne e]
      rw [e1, e2]; exact pl_keep hk s2 (h.pls k hk2)
theorem sl_uniq {w : World} {v : Value} {xs ys : List Int} (h : Sl w v xs) (k : Sl w v ys) : xs = ys := by
  obtain ⟨a, c, rfl, h⟩ := h
  obtain ⟨a2, c2, e, k⟩ := k
  simp only [Value.slice.injEq] at e
  obtain ⟨rfl, e, rfl⟩ := e
  apply List.ext_getElem?
  intro i
  by_cases hi : i < xs.length
  · obtain ⟨b, off, rfl, _, hc⟩ := h (by omega)
    obtain ⟨b2, off2, e3, _, hc2⟩ := k (by omega)
    simp only [Option.some.injEq, Addr.mk.injEq, and_true] at e3
    obtain ⟨rfl, rfl⟩ := e3
    have h1 := hc i hi
    have h2 := hc2 i (by omega)
    rw [h1] at h2
    simp only [Option.some.injEq, Value.int.injEq, true_and] at h2
    have hi2 : i < ys.length := by omega
    simp only [List.getD_eq_getElem?_getD, List.getElem?_eq_getElem hi, List.getElem?_eq_getElem hi2, Option.getD_some] at h2 ⊢
    rw [h2]
  · rw [List.getElem?_eq_none (by omega), List.getElem?_eq_none (by omega)]
theorem pl_uniq {w : World} {v : Value} {xs ys : List Tm} (h : Pl w v xs) (k : Pl w v ys) : xs = ys := by
  obtain ⟨a, c, rfl, _, h⟩ := h
  obtain ⟨a2, c2, e, _, k⟩ := k
  simp only [Value.slice.injEq] at e
  obtain ⟨rfl, e, rfl⟩ := e
  apply List.ext_getElem?
  intro i
  by_cases hi : i < xs.length
  · obtain ⟨b, off, rfl, _, hc⟩ := h (by omega)
    obtain ⟨b2, off2, e3, _, hc2⟩ := k (by omega)
    simp only [Option.some.injEq, Addr.mk.injEq, and_true] at e3
    obtain ⟨rfl, rfl⟩ := e3
    obtain ⟨h1, u1, h2, h3⟩ := hc i hi
    obtain ⟨k1, u2, k2, k3⟩ := hc2 i (by omega)
    rw [h1] at k1
    rw [h2] at k2
    simp only [Option.some.injEq, Value.int.injEq, true_and] at k1 k2
    subst k2
    have h4 := sl_uniq h3 k3
    have hi2 : i < ys.length := by omega
    simp only [List.getD_eq_getElem?_getD, List.getElem?_eq_getElem hi, List.getElem?_eq_getElem hi2, Option.getD_some] at k1 h4 ⊢
    exact congrArg some (Prod.ext k1 h4)
  · rw [List.getElem?_eq_none (by omega), List.getElem?_eq_none (by omega)]
theorem vl_uniq {w : World} {v : Value} {xs ys : List (List Tm)} (h : Vl w v xs) (k : Vl w v ys) : xs = ys := by
  obtain ⟨a, c, rfl, h⟩ := h
  obtain ⟨a2, c2, e, k⟩ := k
  simp only [Value.slice.injEq] at e
  obtain ⟨rfl, e, rfl⟩ := e
  apply List.ext_getElem?
  intro i
  by_cases hi : i < xs.length
  · obtain ⟨b, off, rfl, _, hc⟩ := h (by omega)
    obtain ⟨b2, off2, e3, _, hc2⟩ := k (by omega)
    simp only [Option.some.injEq, Addr.mk.injEq, and_true] at e3
    obtain ⟨rfl, rfl⟩ := e3
    obtain ⟨u1, h2, h3⟩ := hc i hi
    obtain ⟨u2, k2, k3⟩ := hc2 i (by omega)
    rw [h2] at k2
    simp only [Option.some.injEq] at k2
    subst k2
    have h4 := pl_uniq h3 k3
    have hi2 : i < ys.length := by omega
    simp only [List.getD_eq_getElem?_getD, List.getElem?_eq_getElem hi, List.getElem?_eq_getElem hi2, Option.getD_some] at h4 ⊢
    rw [h4]
  · rw [List.getElem?_eq_none (by omega), List.getElem?_eq_none (by omega)]
open Classical in
theorem msV_ex (o ov : Int) : ∃ f : Value → World → Nat, ∀ x w v, Vl w x v → f x w = dms o ov v := by
  refine ⟨fun x w => if h : ∃ v, Vl w x v then dms o ov h.choose else 0, fun x w v h => ?_⟩
  have he : ∃ v, Vl w x v := ⟨v, h⟩
  simp only
  rw [dif_pos he, vl_uniq he.choose_spec h]
theorem falls_neq {o : Int} : ∀ {f : List Tm}, Falls o f → f.Pairwise fun a b => a.2 ≠ b.2
  | [], _ => List.Pairwise.nil
  | t :: ts, h => List.Pairwise.cons (fun u hu e => by
      have h1 := h.1 u hu
      rw [e, (ordS_zero o u.2 u.2 rfl).2 rfl] at h1
      omega) (falls_neq h.2)
def idT (t : Tm) : Nat := ((t.2.getD 0 0) * 64016001 + ((t.2.getD 1 0) * 8001 + t.2.getD 2 0)).toNat
theorem canon_short {p o : Int} {N : Nat} (hN : N ≤ 3) {f : List Tm} (h : Canon p o N f) (hb : ∀ t ∈ f, ∀ x ∈ t.2, 0 ≤ x ∧ x ≤ 8000) : f.length ≤ 600000000000 := by
  have hg : ∀ t ∈ f, ∀ i, 0 ≤ t.2.getD i 0 ∧ t.2.getD i 0 ≤ 8000 := fun t ht i => by
    by_cases hi : i < t.2.length
    · rw [List.getD_eq_getElem?_getD, List.getElem?_eq_getElem hi]; exact hb t ht _ (List.getElem_mem hi)
    · rw [List.getD_eq_getElem?_getD, List.getElem?_eq_none (by omega)]; simp
  have hn : (f.map idT).Nodup := by
    rw [List.nodup_iff_pairwise_ne, List.pairwise_map]
    refine List.Pairwise.imp_of_mem (R := fun a b : Tm => a.2 ≠ b.2) (fun {a b} ha hb2 hne e => hne ?_) (falls_neq h.falls)
    have a0 := hg a ha 0; have a1 := hg a ha 1; have a2 := hg a ha 2
    have b0 := hg b hb2 0; have b1 := hg b hb2 1; have b2 := hg b hb2 2
    have la := h.len a ha
    have lb := h.len b hb2
    unfold idT at e
    have e0 : a.2.getD 0 0 = b.2.getD 0 0 ∧ a.2.getD 1 0 = b.2.getD 1 0 ∧ a.2.getD 2 0 = b.2.getD 2 0 := by omega
    apply List.ext_getElem?
    intro i
    by_cases hi : i < N
    · have h3 : a.2.getD i 0 = b.2.getD i 0 := by
        have : i = 0 ∨ i = 1 ∨ i = 2 := by omega
        rcases this with rfl | rfl | rfl
        · exact e0.1
        · exact e0.2.1
        · exact e0.2.2
      simp only [List.getD_eq_getElem?_getD, List.getElem?_eq_getElem (show i < a.2.length by omega), List.getElem?_eq_getElem (show i < b.2.length by omega), Option.getD_some] at h3 ⊢
      rw [h3]
    · rw [List.getElem?_eq_none (by omega), List.getElem?_eq_none (by omega)]
  have hb : ∀ x ∈ f.map idT, x < 600000000000 := fun x hx => by
    obtain ⟨t, ht, rfl⟩ := List.mem_map.1 hx
    have a0 := hg t ht 0; have a1 := hg t ht 1; have a2 := hg t ht 2
    unfold idT
    omega
  have := nodup_le _ _ hn hb
  rwa [List.length_map] at this
theorem le_sumI : ∀ {xs : List Int}, (∀ x ∈ xs, 0 ≤ x) → ∀ x ∈ xs, x ≤ sumI xs
  | [], _, x, hx => by simp at hx
  | y :: ys, h, x, hx => by
    have h0 := h y (by simp)
    have h1 := sumI_nn (xs := ys) fun z hz => h z (by simp [hz])
    simp only [sumI]
    rcases List.mem_cons.1 hx with rfl | hx
    · omega
    · have := le_sumI (xs := ys) (fun z hz => h z (by simp [hz])) x hx; omega
theorem vok_bd {p o ov : Int} {N R : Nat} (hx : RCx p o ov N R) {v : List (List Tm)} (h : Vok p o N (Dg ov) v) (hl : v.length = R) : ∀ f ∈ v, Canon p o N f ∧ (∀ t ∈ f, ∀ x ∈ t.2, 0 ≤ x ∧ x ≤ 8000) ∧ f.length ≤ 600000000000 := by
  intro f hf
  obtain ⟨i, hi, rfl⟩ := List.getElem_of_mem hf
  have e : v.getD i [] = v[i] := by simp [List.getD_eq_getElem?_getD, hi]
  rw [← e]
  have hd := (Dg_bd (ov := ov) hx.r i (by omega)).2
  have hb : ∀ t ∈ v.getD i [], ∀ x ∈ t.2, 0 ≤ x ∧ x ≤ 8000 := fun t ht x hx2 => by
    have h1 := h.nn i t ht
    have h2 := le_sumI h1 x hx2
    have h3 := h.deg i t ht
    exact ⟨h1 x hx2, by omega⟩
  exact ⟨h.canon i, hb, canon_short hx.n3 (h.canon i) hb⟩
theorem rgb_of {p o ov : Int} {N R : Nat} (hx : RCx p o ov N R) {v : List (List Tm)} (h : Vok p o N (Dg ov) v) (hl : v.length = R) : ∀ f ∈ v, Rgb p o N f := fun f hf => by
  obtain ⟨h1, h2, h3⟩ := vok_bd hx h hl f hf
  exact ⟨h1, fun t ht x hx => by have := h2 t ht x hx; omega, h3⟩
theorem sm_of {p o ov : Int} {N R : Nat} (hx : RCx p o ov N R) {v : List (List Tm)} (h : Vok p o N (Dg ov) v) (hl : v.length = R) : ∀ f ∈ v, Sm p N f := fun f hf => by
  obtain ⟨h1, h2, h3⟩ := vok_bd hx h hl f hf
  exact ⟨fun t ht => ⟨h1.len t ht, fun x hx => by have := h2 t ht x hx; omega, by have := h1.coef t ht; omega, (h1.coef t ht).2⟩, by omega⟩

theorem made_nil (L : Nat) : (madeCells (Value.cells (.slice none 0 0)) (L * 1)).toList = List.replicate L (.slice none 0 0) := by
  apply List.ext_getElem?
  intro i
  by_cases h : i < L
  · simp [madeCells, Value.cells, h, Nat.mod_one]
  · simp [madeCells, Value.cells, h]
theorem prow_made {w' : World} {B g n : Nat} (h : w'.ownsRow B 54 1 (.slice (some ⟨g, 0, none⟩) n n) n (madeCells (Value.cells (.slice none 0 0)) (n * 1)).toList) : PRow B w' (.slice (some ⟨g, 0, none⟩) n n) (List.replicate n (.slice none 0 0)) (List.replicate n []) := by
  rw [made_nil] at h
  refine ⟨by simp, by rw [List.length_replicate]; exact h, fun g2 h2 => ?_, fun i hi => ?_⟩
  · simp only [Value.ownBlock, Option.some.injEq] at h2
    subst h2
    rcases h.2 with ⟨h', _⟩ | ⟨g', cap', cur, h', hb, hg, hnc, hcm, hcs, htake⟩
    · simp at h'
    · simp only [Value.slice.injEq, Option.some.injEq, Addr.mk.injEq, and_true, true_and] at h'
      obtain ⟨rfl, rfl⟩ := h'
      refine slk_row hg fun u hu => ?_
      rw [List.take_of_length_le (by simp [hcs])] at htake
      rw [htake] at hu
      exact ⟨_, _, _, List.eq_of_mem_replicate hu⟩
  · rw [List.length_replicate] at hi
    have e1 : (List.replicate n (Value.slice none 0 0)).getD i nilV = .slice none 0 0 := by simp [List.getD_eq_getElem?_getD, hi]
    have e2 : (List.replicate n ([] : List Tm)).getD i [] = [] := by simp [List.getD_eq_getElem?_getD, hi]
    rw [e1, e2]; exact Pl.empty _
theorem prow_vbk {B : Nat} {w : World} {v : Value} {us : List Value} {fss : List (List Tm)} (h : PRow B w v us fss) : ∀ g, vbk v = some g → B ≤ g := by
  intro g hg
  rcases h.own.2 with ⟨rfl, _⟩ | ⟨g', cap', cur, rfl, hb, _⟩
  · simp [vbk] at hg
  · simp only [vbk, Option.some.injEq] at hg
    omega
structure DoR (p o ov : Int) (N R : Nat) (lss : List (List (List Tm))) (w1 wr : World) (qa la : Nat) (x : Value) (s0 s : DS) : Prop where
  vl : Vl wr x s.v
  nq : vbk x ≠ some qa
  nl : vbk x ≠ some la
  q : ∃ uq, PRow w1.heap.size wr (.slice (some ⟨qa, 0, none⟩) lss.length lss.length) uq s.q
  l : ∃ ul, PRow w1.heap.size wr (.slice (some ⟨la, 0, none⟩) R R) ul s.l
  dv : Dv p o ov lss s0 s
  inv : DInv p o ov N R lss s
  below : Below w1.heap.size w1 wr
theorem dsV_none {o ov : Int} {lss : List (List (List Tm))} {j : Nat} {e : List Int} (h : dvI o ov lss j e = none) : dsV o ov lss j e = -1 := by unfold dsV; rw [h]
theorem dsV_some {o ov : Int} {lss : List (List (List Tm))} {j i : Nat} {e : List Int} (h : dvI o ov lss j e = some i) : dsV o ov lss j e = i := by unfold dsV; rw [h]
theorem dstep_none {p o ov : Int} {lss : List (List (List Tm))} {s : DS} {j : Nat} {t : Tm} (h : leadF o ov s.v s.v.length = some (j, t)) (hd : dvI o ov lss j t.2 = none) : dstep p o ov lss s = some ⟨sums p o s.v (atPl s.v.length j [(p - t.1, t.2)]), s.q, s.l.set j (s.l.getD j [] ++ [t])⟩ := by
  unfold dstep; rw [h]; simp only; rw [hd]
theorem dstep_some {p o ov : Int} {lss : List (List (List Tm))} {s : DS} {j i : Nat} {t : Tm} (h : leadF o ov s.v s.v.length = some (j, t)) (hd : dvI o ov lss j t.2 = some i) : dstep p o ov lss s = some ⟨sums p o s.v (prods p o [(p - (byT p t (ldT o ov (lss.getD i []))).1, (byT p t (ldT o ov (lss.getD i []))).2)] (lss.getD i [])), s.q.set i (s.q.getD i [] ++ [byT p t (ldT o ov (lss.getD i []))]), s.l⟩ := by
  unfold dstep; rw [h]; simp only; rw [hd]
theorem vbk_lt {w : World} {x : Value} {fss : List (List Tm)} (h : Vl w x fss) (h0 : 0 < fss.length) : ∀ g, vbk x = some g → g < w.heap.size := by
  intro g hg
  obtain ⟨a, c, rfl, h⟩ := h
  obtain ⟨b, off, rfl, hlt, _⟩ := h h0
  simp only [vbk, Option.some.injEq] at hg
  omega

set_option maxRecDepth 100000 in
set_option maxHeartbeats 2000000 in
theorem vsumF_any (p n o v : Int) (N : Nat) (x y : Value) (fss gss : List (List Tm)) (w : World) (hp : 2 ≤ p ∧ p ≤ 101) (ho : o = 1 ∨ o = 2) (hN0 : 0 < N) (hN : N ≤ 3) (hl : fss.length = gss.length) (hm : fss.length ≤ 1000) (hf : ∀ f ∈ fss, Sm p N f) (hg : ∀ g ∈ gss, Sm p N g) (pf : Vl w x fss) (pg : Vl w y gss) :
    Calls Tryz.prog 39 #[ringV p n o v, x, y] w fun e w' => ∃ u us, e = .returned u ∧ PRow w.heap.size w' u us (sums p o fss gss) ∧ Below w.heap.size w w' := by
  have HX := hid pf
  have HY := hid pg
  have HF := hid hf
  have HG := hid hg
  have HP := hid hp
  have HO := hid ho
  have HL := hid hl
  obtain ⟨ax, cx, rfl, _⟩ := pf
  obtain ⟨ay, cy, rfl, _⟩ := pg
  clear hf hg hp ho hl
  obtain ⟨w1, hw1⟩ : ∃ w1, w1 = w.alloc (.cells #[.int .i64 p, .int .i64 n, .int .i64 o, .int .i64 v] 23) := ⟨_, rfl⟩
  have hbx : BoxAt w1 w.heap.size p n o v := by rw [hw1]; exact BoxAt.new w p n o v _
  have hbw : Below w.heap.size w w1 := by rw [hw1]; exact below_oneG
  have HBX := hid hbx
  have HBW := hid hbw
  clear hbx hbw
  go_enter Tryz.func39, Tryz.ntmps39
  go_wp2_with fail
  rw [← hw1]
  clear hw1
  go_loopw [7, 8] (fun z i wr => ∃ (k : Nat) (us : List Value), k ≤ fss.length ∧ i = .int .i64 k ∧ PRow w1.heap.size wr z us ((sums p o fss gss).take k) ∧ Below w1.heap.size w1 wr) (fun _ i _ => fss.length - (intOf i).toNat)
  case atStart => exact ⟨0, [], Nat.zero_le _, rfl, PRow.nil _ _, Below.refl _ _⟩
  case round =>
    obtain ⟨k, us, hk, rfl, hrow, hbr⟩ := hrel
    have HROW := hid hrow
    have HBR := hid hbr
    obtain ⟨ys, hys⟩ : ∃ ys, (sums p o fss gss).take k = ys := ⟨_, rfl⟩
    have HTL : Hid (ys.length = k) := by show _ = _; rw [← hys, List.length_take, sums_len HL.out]; omega
    rw [hys] at hrow HROW
    have HYS := hid hys
    clear hys
    obtain ⟨za, zc, hz⟩ := own_sl hrow.own
    subst hz
    clear hrow hbr
    by_cases hk2 : k < fss.length
    · have hk3 : k < gss.length := by have := HL.out; omega
      obtain ⟨b, off, fa, fc, rfl, hlt, c0, hpf⟩ := vl_at HX.out k hk2
      obtain ⟨b2, off2, ga, gc, rfl, hlt2, d0, hpg⟩ := vl_at HY.out k hk3
      have hkI : (k : Int) < (gss.length : Int) := by omega
      have HDN := hid (HBW.out.trans (HBR.out.mono HBW.out.size))
      have HTS : Hid ((sums p o fss gss).take (k + 1) = ys ++ [colL p o (fss.getD k [] ++ gss.getD k [])]) := by
        show _ = _
        rw [← HYS.out, take_snocL _ _ (by rw [sums_len HL.out]; exact hk2), sums_at HL.out hk2]
      have HFG := hid (And.intro (HF.out _ (getD_memL fss k hk2)) (HG.out _ (getD_memL gss k hk3)))
      generalize fss.getD k [] = f at c0 hpf HTS HFG
      generalize gss.getD k [] = g at d0 hpg HTS HFG
      have HPF := hid (hpf.below HBW.out)
      have HPG := hid (hpg.below HBW.out)
      clear hpf hpg
      obtain ⟨_, bx0, bx1, bx2, bx3⟩ := HBX.out
      have KEEP : Hid (∀ W, Below w1.heap.size w1 W → (Hid (Below w1.heap.size w1 W) ∧ W.cell? ⟨w.heap.size, 0, none⟩ = some (.int .i64 p) ∧ W.cell? ⟨w.heap.size, 1, none⟩ = some (.int .i64 n) ∧ W.cell? ⟨w.heap.size, 2, none⟩ = some (.int .i64 o) ∧ W.cell? ⟨w.heap.size, 3, none⟩ = some (.int .i64 v) ∧ W.cell? ⟨b, off + k, none⟩ = some (.slice fa f.length fc) ∧ W.cell? ⟨b2, off2 + k, none⟩ = some (.slice ga g.length gc))) :=
        fun W hb => ⟨hb, cell_keep bx0 hb, cell_keep bx1 hb, cell_keep bx2 hb, cell_keep bx3 hb, cell_keep (cell_keep c0 HBW.out) hb, cell_keep (cell_keep d0 HBW.out) hb⟩
      have HB0 : Hid (Below w1.heap.size w1 wr.drew) := HBR.out.drew
      clear bx0 bx1 bx2 bx3 c0 d0
      go_wp2
      go_region_held_law (fun W => Hid (Below w1.heap.size w1 W) ∧ W.cell? ⟨w.heap.size, 0, none⟩ = some (.int .i64 p) ∧ W.cell? ⟨w.heap.size, 1, none⟩ = some (.int .i64 n) ∧ W.cell? ⟨w.heap.size, 2, none⟩ = some (.int .i64 o) ∧ W.cell? ⟨w.heap.size, 3, none⟩ = some (.int .i64 v) ∧ W.cell? ⟨b, off + k, none⟩ = some (.slice fa f.length fc) ∧ W.cell? ⟨b2, off2 + k, none⟩ = some (.slice ga g.length gc))
        (first | exact KEEP.out _ HB0.out | exact KEEP.out _ HB7.out | exact KEEP.out _ (HB6.out.trans (belowNew.mono HB6.out.size)) | exact KEEP.out _ HB6.out)
        (first
          | (refine step_append_prow rfl (.tmp 15) (.tmp 26) 25 rfl Tryz.underlying25 w1.heap.size (.slice za ys.length zc) us ys (by simp [Act.eval, Act.put]) (PR6.out.next belowNew) ⟨w6.heap.size, 0, none⟩ 1 (.slice ua6 (colL p o (f ++ g)).length uc6) (colL p o (f ++ g)) (HU6.out.below belowNew) (by simp [Act.eval, Act.put]) (one_newP _ _ _) (by rw [HTL.out]; omega) (Nat.le_trans HB6.out.size (by simp)) ?_; intro v7 w7 r1 r2; have HB7 := hid (show Below w1.heap.size w1 w7 from (PR6.out.next belowNew).grown (HB6.out.trans (belowNew.mono HB6.out.size)) r2 (Nat.le_refl _)); obtain ⟨va7, vc7, hv7⟩ := own_sl r1.own; rw [len_snoc] at hv7; subst hv7; have HR7 := hid r1; clear r1 r2)
          | (go_at_call 37; refine (refSum_any p n o v N _ _ f g _ HP.out HO.out hN0 hN HFG.out.1.1 HFG.out.2.1 ?_ ?_ ?_).mono ?_; (have h1 := HFG.out.1.2; have h2 := HFG.out.2.2; omega); exact HPF.out.below HB0.out; exact HPG.out.below HB0.out; rintro e w6 ⟨u6, rfl, hu6, hb6⟩; have PR6 := hid (HROW.out.next (((Below.refl wr.heap.size wr).drew).trans hb6)); have HB6 := hid (show Below w1.heap.size w1 w6 from HB0.out.trans (hb6.mono HB0.out.size)); have HU6 := hid hu6; obtain ⟨ua6, uc6, rfl, _, _⟩ := hu6; clear hb6))
      all_goals
        go_wp2
        first
          | exact ⟨⟨k + 1, us ++ [_], by omega, by go_num, by rw [HTS.out]; exact HR7.out, HB7.out⟩, by simp [intOf]; omega⟩
          | (go_roundw; (case rel => exact ⟨k + 1, us ++ [_], by omega, by go_num, by rw [HTS.out]; exact HR7.out, HB7.out⟩); case measure => simp [intOf]; omega)
    · have e : k = fss.length := by omega
      subst e
      have HE : Hid (sums p o fss gss = ys) := by show _ = _; rw [← HYS.out, List.take_of_length_le (by rw [sums_len HL.out]; exact Nat.le_refl _)]
      have HV := hid (HROW.out.mono HBW.out.size)
      go_wp2
      go_ret
      exact ⟨_, us, rfl, by rw [HE.out]; exact HV.out, HBW.out.trans (HBR.out.mono HBW.out.size)⟩
end Go.Proofs.YtilogbggilchaaaGreat
