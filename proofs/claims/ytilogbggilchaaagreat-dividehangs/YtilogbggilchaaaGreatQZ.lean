/- Divide where all is right. -/
import Derived.Test.YtilogbggilchaaaGreatQN
import Derived.Test.YtilogbggilchaaaGreatQG
import Derived.Test.YtilogbggilchaaaGreatQY
import Derived.Laws.EntriesVeiled
namespace Go.Proofs.YtilogbggilchaaaGreat
set_option linter.unusedSimpArgs false
set_option linter.unusedVariables false
open Go.RowKit
theorem own_cellsA {w : World} {B g : Nat} {C : Array Value} {T : TypeId} (L : Nat) (h : w.heap[g]? = some (.cells C T)) (hB : B ≤ g) (hs : C.size = L) (h0 : L ≤ 1000) : w.ownsRow B T 1 (.slice (some ⟨g, 0, none⟩) L L) L C.toList :=
  ⟨by simp [hs], .inr ⟨g, L, C, rfl, hB, h, Nat.le_refl _, by unfold maxLen; omega, by simp [hs], by rw [List.take_of_length_le (by simp [hs])]⟩⟩
theorem gd_more {o ov : Int} {N R : Nat} {t : Ft} (h1 : Gd o ov N R 200 t) : Gd o ov N R 400 t := ⟨h1.k, h1.a, h1.b, h1.d, by have := h1.deg; omega, h1.z, h1.pl0, h1.pl, h1.n1, h1.n2⟩
theorem SmD.mono {p : Int} {G : Ft → Prop} {B B' : Nat} {w : World} {sb ob : Nat} {rv : Value} {us : List Value} {rows : List (List Ft)} {C : Int → Int} (h : SmD p G B' w sb ob rv us rows C) (hb : B ≤ B') : SmD p G B w sb ob rv us rows C := ⟨h.sum.mono hb, h.ok, h.len, h.cn⟩
theorem own_oneB {w : World} {B : Nat} (u : Value) (T : TypeId) (hB : B ≤ w.heap.size) : (w.alloc (.cells #[u] T)).ownsRow B T 1 (.slice (some ⟨w.heap.size, 0, none⟩) 1 1) 1 [u] :=
  ⟨by simp, .inr ⟨w.heap.size, 1, _, rfl, hB, heap_alloc_new w _, Nat.le_refl _, by decide, by simp, by simp⟩⟩

set_option maxRecDepth 100000 in
set_option maxHeartbeats 4000000 in
theorem divide_ok (p o v rank : Int) (N : Nat) (x lv : Value) (u : List (List Tm)) (vss : List (List (List Tm))) (w : World) (hu : Vl w x u) (hl : Wl w lv vss) (he : errDiv p N o v rank u vss = 0) :
    Calls Tryz.prog 5 #[ringV p N o v, .int .i64 rank, x, lv] w fun e w' => Below w.heap.size w w' ∧ ∃ (s : DS) (tss : Bool → List (List TV)), QS tss s ∧ Dv p o v vss ⟨u, List.replicate vss.length [], List.replicate u.length []⟩ s ∧ ((∃ qv xv, e = .returned (.tuple #[qv, xv, .int .i64 0]) ∧ Vl w' qv s.q ∧ Vl w' xv s.l ∧ leadF o v s.v s.v.length = none ∧ Sml tss) ∨ (e = .returned (.tuple #[.slice none 0 0, .slice none 0 0, .int .i64 2]) ∧ Grt tss)) := by
  obtain ⟨R, hR, hx, hlo, hrl, hll, hul, hur, _⟩ := errDiv_ok he
  subst hR
  obtain ⟨w1, hw1⟩ : ∃ w1, w1 = w.alloc (.cells #[.int .i64 p, .int .i64 N, .int .i64 o, .int .i64 v] 23) := ⟨_, rfl⟩
  have HB1 : Hid (Below w.heap.size w w1) := by rw [hw1]; exact belowNew
  have HX1 : Hid (BoxAt w1 w.heap.size p N o v) := by rw [hw1]; exact BoxAt.new w p N o v _
  have HC1 := hid (divCheck_any p N o v R x lv u vss w1 (hu.below HB1.out) (hl.below HB1.out))
  rw [he] at HC1
  obtain ⟨_, r0, r1, r2, r3⟩ := HX1.out
  have HU := hid hu
  have HL := hid hl
  have HX := hid hx
  have HLO := hid hlo
  have HRL := hid hrl
  have HUR := hid hur
  have HUL := hid hul
  have HLL := hid hll
  have HNO := hid (fun (W : World) => newOrd_any p o v N R W hx)
  have HDO : Hid (∀ W ob sv, Below w.heap.size w W → OrC W ob p o v N R sv → Calls Tryz.prog 18 #[.pointer (some ⟨ob, 0, none⟩), lv] W fun e w' => ∃ d, e = .returned d ∧ ∃ ds fls, DoW p o v N R vss W w' vss.length d ds fls) := fun W ob sv hb hoc => divisorsOf_any ob p o v N R sv lv vss W HX.out hoc HLL.out HLO.out.len HRL.out (HL.out.below hb)
  obtain ⟨xa, xc, rfl, _⟩ := hu
  obtain ⟨la, lc, rfl, _⟩ := hl
  unfold ringV at HC1 HNO ⊢
  clear he hx hlo hrl hur hul hll
  go_enter Tryz.func5, Tryz.ntmps5
  go_upto_region 1 with fail
  rw [← hw1]
  clear hw1
  go_upto_region 5 with (first
    | (go_at_call 16; refine HC1.out.mono ?_; rintro e w2 ⟨rfl, hb2⟩; have HB2 := hid (HB1.out.trans (hb2.mono HB1.out.size)); have HRB2 := hid (HX1.out.below hb2); have s0 := cell_keep r0 hb2; have s1 := cell_keep r1 hb2; have s2 := cell_keep r2 hb2; have s3 := cell_keep r3 hb2; clear hb2)
    | (go_at_call 17; refine (HNO.out _).mono ?_; rintro e w3 ⟨ob, rfl, sv, q1, q2⟩; have HOC := hid q1; have HB3 := hid (HB2.out.trans (q2.mono HB2.out.size)); have HRB := hid (HRB2.out.below q2); clear q1 q2))
  go_upto_region 6 with (go_at_call 18; refine (HDO.out _ _ _ HB3.out HOC.out).mono ?_; rintro e w4 ⟨dd, rfl, ds, fls, q1⟩; have HD4 := hid q1; clear q1; obtain ⟨da, dc, hdd⟩ := own_sl HD4.out.dvs.own; subst hdd)
  have HDL := hid HD4.out.dlen
  obtain ⟨w5, hw5⟩ : ∃ w5, w5 = w4.alloc (.cells #[.slice da ds.length dc] 45) := ⟨_, rfl⟩
  have H5 : Hid (Below w4.heap.size w4 w5 ∧ w5.cell? ⟨w4.heap.size, 0, none⟩ = some (.slice da ds.length dc)) := by
    show _ ∧ _
    rw [hw5]
    refine ⟨belowNew, ?_⟩
    rw [cell_of_row _ w4.heap.size _ _ 45 (0, 0) (heap_alloc_new w4 _)]
    simp
  rw [← hw5]
  clear hw5
  have HB35 : Hid (Below w3.heap.size w3 w5) := HD4.out.below.trans (H5.out.1.mono HD4.out.below.size)
  have HB5 : Hid (Below w.heap.size w w5) := HB3.out.trans (HB35.out.mono HB3.out.size)
  have HCX : Hid (DCx p o v N R vss w5.heap.size w5 ob w.heap.size w4.heap.size sv (.slice da ds.length dc) ds fls) :=
    ⟨HX.out, HLO.out, HOC.out.below HB35.out, HRB.out.below HB35.out, H5.out.2, (HD4.out.dvs.mono (Nat.zero_le _)).next H5.out.1, HD4.out.made, HD4.out.len, HD4.out.flr, rfl, HLL.out⟩
  obtain ⟨i0, hi0, hz0, hz1, hz2⟩ := info_parts Tryz.infoPolyW
  have HI := hid (And.intro hi0 (And.intro hz0 (And.intro hz1 hz2)))
  clear hi0 hz0 hz1 hz2
  have bL : (i0.bytes : Int) * (vss.length : Int) ≤ 281474976710656 := by rw [HI.out.2.2.2]; have := HLL.out; omega
  have bR : (i0.bytes : Int) * (R : Int) ≤ 281474976710656 := by rw [HI.out.2.2.2]; have := HX.out.r; omega
  have bL2 : (vss.length : Int) ≤ 9223372036854775807 := by have := HLL.out; omega
  have bR2 : (R : Int) ≤ 9223372036854775807 := by have := HX.out.r; omega
  obtain ⟨MQ, hMQ⟩ : ∃ MQ : Array Value, MQ = madeCells (Value.cells (.slice none 0 0)) (vss.length * i0.size) := ⟨_, rfl⟩
  obtain ⟨ML, hML⟩ : ∃ ML : Array Value, ML = madeCells (Value.cells (.slice none 0 0)) (R * i0.size) := ⟨_, rfl⟩
  have hm1 : ∀ W : World, (Instr.makeSlice 24 (.int .i64 (vss.length : Int)) (.int .i64 (vss.length : Int))).run Tryz.prog W = .ok (.slice (some ⟨W.heap.size, 0, none⟩) vss.length vss.length) (W.alloc (.cells MQ 54)) := fun W => by
    have h := run_make (P := Tryz.prog) W 24 54 i0 _ Tryz.underlying24 HI.out.1 HI.out.2.1 .i64 .i64 vss.length vss.length (by omega) (Int.le_refl _) bL bL2
    simp only [Int.toNat_natCast] at h
    rw [hMQ]; exact h
  have hm2 : ∀ W : World, (Instr.makeSlice 25 (.int .i64 (R : Int)) (.int .i64 (R : Int))).run Tryz.prog W = .ok (.slice (some ⟨W.heap.size, 0, none⟩) R R) (W.alloc (.cells ML 54)) := fun W => by
    have h := run_make (P := Tryz.prog) W 25 54 i0 _ Tryz.underlying25 HI.out.1 HI.out.2.1 .i64 .i64 R R (by omega) (Int.le_refl _) bR bR2
    simp only [Int.toNat_natCast] at h
    rw [hML]; exact h
  have HMQ := hid hMQ
  have HML := hid hML
  clear hMQ hML
  go_cut [14, 15] from 32 to 36 (fun s14 s15 wx => ∃ qa la qb lb : Nat, s14 = .pointer (some ⟨qb, 0, none⟩) ∧ s15 = .pointer (some ⟨lb, 0, none⟩) ∧ MkW w5 wx MQ ML vss.length R qa la qb lb)
  case first =>
    go_region
    all_goals
      go_wp2_with fail
      go_meet
      apply mk_of rfl rfl
      case hq => first | exact four0 _ _ _ _ _ | exact four1 _ _ _ _ _ | exact four2 _ _ _ _ _ | exact four3 _ _ _ _ _
      case hl => first | exact four0 _ _ _ _ _ | exact four1 _ _ _ _ _ | exact four2 _ _ _ _ _ | exact four3 _ _ _ _ _
      case hmq => first | exact four0 _ _ _ _ _ | exact four1 _ _ _ _ _ | exact four2 _ _ _ _ _ | exact four3 _ _ _ _ _
      case hml => first | exact four0 _ _ _ _ _ | exact four1 _ _ _ _ _ | exact four2 _ _ _ _ _ | exact four3 _ _ _ _ _
      case hb => exact fourB _ _ _ _ _
      case hge => exact ⟨by omega, by omega, by omega, by omega, by omega⟩
  case rest =>
    obtain ⟨qa, la, qb, lb, rfl, rfl, hmk⟩ := hcut
    have HMK := hid hmk
    clear hmk hm1 hm2
    have HQA : Hid (MQ.toList = List.replicate vss.length (.slice none 0 0) ∧ MQ.size = vss.length) := by
      have h : MQ.toList = List.replicate vss.length (.slice none 0 0) := by rw [HMQ.out, HI.out.2.2.1, made_nil]
      exact ⟨h, by have := congrArg List.length h; simpa using this⟩
    have HLA : Hid (ML.toList = List.replicate R (.slice none 0 0) ∧ ML.size = R) := by
      have h : ML.toList = List.replicate R (.slice none 0 0) := by rw [HML.out, HI.out.2.2.1, made_nil]
      exact ⟨h, by have := congrArg List.length h; simpa using this⟩
    have HQW : Hid (QW w5.heap.size N wc (fun s => if s then .slice (some ⟨qa, 0, none⟩) vss.length vss.length else .slice (some ⟨la, 0, none⟩) R R) (fun s => List.replicate (if s then vss.length else R) (.slice none 0 0)) (fun s => List.replicate (if s then vss.length else R) [])) := by
      obtain ⟨g1, g2, g3, g4, g5⟩ := HMK.out.ge
      have hR := HX.out.r
      have hLL := HLL.out
      refine qw_start g5 ?_ ?_ ?_ ?_
      · have h := own_cellsA vss.length HMK.out.mq g1 HQA.out.2 (by omega)
        rw [HQA.out.1] at h; exact h
      · have h := own_cellsA R HMK.out.ml g2 HLA.out.2 (by omega)
        rw [HLA.out.1] at h; exact h
      · exact slk_row HMK.out.mq fun u hu => by rw [HQA.out.1] at hu; exact ⟨_, _, _, List.eq_of_mem_replicate hu⟩
      · exact slk_row HMK.out.ml fun u hu => by rw [HLA.out.1] at hu; exact ⟨_, _, _, List.eq_of_mem_replicate hu⟩
    obtain ⟨RV, hRV⟩ : ∃ RV : Bool → Value, RV = fun s => if s then .slice (some ⟨qa, 0, none⟩) vss.length vss.length else .slice (some ⟨la, 0, none⟩) R R := ⟨_, rfl⟩
    have hRVt : RV true = .slice (some ⟨qa, 0, none⟩) vss.length vss.length := by rw [hRV]; rfl
    have hRVf : RV false = .slice (some ⟨la, 0, none⟩) R R := by rw [hRV]; rfl
    have HRV := hid (And.intro hRVt hRVf)
    obtain ⟨w6, hw6⟩ : ∃ w6, w6 = wc.alloc (.cells #[.bool true] 4) := ⟨_, rfl⟩
    obtain ⟨w7, hw7⟩ : ∃ w7, w7 = w6.alloc (.cells #[growV w.heap.size wc.heap.size] 60) := ⟨_, rfl⟩
    have HB6 : Hid (Below wc.heap.size wc w6) := by rw [hw6]; exact belowNew
    have HB67 : Hid (Below w6.heap.size w6 w7) := by rw [hw7]; exact belowNew
    have hs6 : w6.heap.size = wc.heap.size + 1 := by rw [hw6]; simp
    have HB7 : Hid (Below wc.heap.size wc w7) := HB6.out.trans (HB67.out.mono HB6.out.size)
    have HEN : Hid (EnW w5.heap.size N w7 w.heap.size qb lb wc.heap.size (wc.heap.size + 1) RV (fun s => List.replicate (if s then vss.length else R) (.slice none 0 0)) (fun s => List.replicate (if s then vss.length else R) []) true) := by
      obtain ⟨g1, g2, g3, g4, g5⟩ := HMK.out.ge
      have hz := HMK.out.below.size
      refine ⟨?_, ?_, ?_, ?_, by rw [hRV]; exact HQW.out.next HB7.out⟩
      · rw [hRVt]; exact ownBlock_lt (own_cellsA 1 HMK.out.q g3 rfl (by omega)) HB7.out
      · rw [hRVf]; exact ownBlock_lt (own_cellsA 1 HMK.out.l g4 rfl (by omega)) HB7.out
      · refine ownBlock_lt (w := w6) ?_ HB67.out
        rw [hw6]; exact own_oneB _ _ hz
      · rw [← hs6, hw7]; exact own_oneB _ _ (by rw [hs6]; omega)
    have HB57 : Hid (Below w5.heap.size w5 w7) := HMK.out.below.trans (HB7.out.mono HMK.out.below.size)
    have HOV : Hid (Calls Tryz.prog 23 #[.pointer (some ⟨ob, 0, none⟩), .int .i64 0, .slice xa u.length xc] w7 fun e w' => ∃ y fs, e = .returned y ∧ Fv w' y fs ∧ FlR p o v N R 200 u fs ∧ Below w7.heap.size w7 w' ∧ ∀ b, y.ownBlock = some b → w7.heap.size ≤ b) :=
      orderVec_any ob p o v N R sv _ u w7 HX.out (HCX.out.oc.below HB57.out) HUL.out HUR.out ((HU.out.below HB5.out).below HB57.out)
    have HNS : Hid (∀ W fs vb vc y, Below w5.heap.size w5 W → W.cell? ⟨vb, 0, none⟩ = some y → Fv W y fs → FlR p o v N R 200 u fs → Calls Tryz.prog 22 #[.pointer (some ⟨ob, 0, none⟩), .slice (some ⟨vb, 0, none⟩) 1 vc] W fun e w' => e = .returned (.pointer (some ⟨W.heap.size, 0, none⟩)) ∧ ∃ rv us rows, SmD p (Gd o v N R 400) W.heap.size w' W.heap.size ob rv us rows (fun k => cnt k fs) ∧ Below W.heap.size W w') := fun W fs vb vc y hb hc hf hflr =>
      newSum_any ob vb 0 vc p _ _ _ (Gd o v N R 400) sv y fs W (HCX.out.oc.below hb).ord (errP_bd HX.out.pr) hc hf ⟨fun r hr => by rw [List.mem_singleton] at hr; rw [hr]; exact hflr.dn, fun r hr t ht => by rw [List.mem_singleton] at hr; rw [hr] at ht; exact hflr.co t ht, fun r hr t ht => by rw [List.mem_singleton] at hr; rw [hr] at ht; exact gd_more (hflr.gd t ht)⟩ (fun x t => Gd.alk x t) (gd_len HX.out.r)
    have HSD : Hid (∀ W sb rw us rows fs, Below w5.heap.size w5 W → w5.heap.size ≤ W.heap.size → EnW w5.heap.size N W w.heap.size qb lb wc.heap.size (wc.heap.size + 1) RV (fun s => List.replicate (if s then vss.length else R) (.slice none 0 0)) (fun s => List.replicate (if s then vss.length else R) []) true → SmD p (Gd o v N R 400) w5.heap.size W sb ob rw us rows (fun k => cnt k fs) → FlR p o v N R 200 u fs →
        Calls Tryz.prog 24 #[.pointer (some ⟨sb, 0, none⟩), .func (.func 25) #[] #[.pointer (some ⟨w4.heap.size, 0, none⟩)], .func (.func 27) #[] #[.pointer (some ⟨wc.heap.size + 1, 0, none⟩), .pointer (some ⟨qb, 0, none⟩)], .func (.func 28) #[] #[.pointer (some ⟨wc.heap.size + 1, 0, none⟩), .pointer (some ⟨lb, 0, none⟩)]] W fun e w' => e = .returned (.tuple #[]) ∧ ∃ s tss2 f2, Below w5.heap.size w5 w' ∧ (∃ us, EnW w5.heap.size N w' w.heap.size qb lb wc.heap.size (wc.heap.size + 1) RV us tss2 f2) ∧ QS tss2 s ∧ Dv p o v vss ⟨u, List.replicate vss.length [], List.replicate R []⟩ s ∧ (f2 = true → leadF o v s.v s.v.length = none ∧ Sml tss2) ∧ (f2 = false → Grt tss2)) := fun W sb rw us rows fs hb hsz hen hsm hflr => by
      have h0 : ∀ (n i : Nat), (List.replicate n ([] : List TV)).getD i [] = [] := fun n i => by
        rw [List.getD_eq_getElem?_getD]
        by_cases h : i < n <;> simp [h]
      refine sumDivide_any p o v N R vss w5.heap.size w5 ob w.heap.size w4.heap.size qb lb wc.heap.size (wc.heap.size + 1) sb sv _ ds fls RV ⟨u, List.replicate vss.length [], List.replicate R []⟩ rows (fun s => List.replicate (if s then vss.length else R) []) W HCX.out ⟨hb, ⟨_, hen⟩, ⟨rw, us, hsm.sum⟩, hsm.len, ⟨by simp, by simp⟩, Dv.refl _⟩ (dinv_start HX.out.ov HUL.out HUR.out) hsm.ok ?_ ?_ (by simp) (by simp) hsz
      · intro k
        have h1 := hsm.cn k
        have h2 := hflr.cn k
        rw [h2] at h1; exact h1
      · intro s i
        simp only [h0]
        exact ⟨by simp, fun t ht => by simp at ht⟩
    clear hRV hRVt hRVf
    unfold growV at hw7
    go_upto_region 9 with fail
    rw [← hw6, ← hw7]
    clear hw6 hw7
    have HB4C := hid hs6
    clear hs6
    go_upto_region 10 with (first
      | (go_at_call 23; refine HOV.out.mono ?_; rintro e w8 ⟨y, fs, rfl, hf, hflr, hb8, _⟩; have HF8 := hid hf; have HFLR := hid hflr; have HB58 : Hid (Below w5.heap.size w5 w8) := HB57.out.trans (hb8.mono HB57.out.size); have HE8 := hid (HEN.out.next hb8); obtain ⟨ya, yc, rfl, _, _⟩ := hf; clear hflr hb8)
      | (go_at_call 22; refine (HNS.out _ fs w8.heap.size 1 (.slice ya fs.length yc) (HB58.out.trans (belowNew.mono HB58.out.size)) (by simp [go_sem]) (HF8.out.below belowNew) HFLR.out).mono ?_; rintro e w10 ⟨rfl, rvs, uss, rows, hsm, hb10⟩; have HB510 : Hid (Below w5.heap.size w5 w10) := (HB58.out.trans (belowNew.mono HB58.out.size)).trans (hb10.mono (Nat.le_trans HB58.out.size (by simp))); have HE10 := hid ((HE8.out.next belowNew).next hb10); have HSM := hid (SmD.mono hsm (Nat.le_trans HB58.out.size (by simp))); clear hsm hb10)
      | (go_at_call 24; refine (HSD.out _ _ rvs uss rows fs HB510.out HB510.out.size HE10.out (by simpa using HSM.out) HFLR.out).mono ?_; rintro e w11 ⟨rfl, s, tss2, f2, hb11, ⟨us11, he11⟩, hqs, hdv, htr, hfa⟩; have HB511 := hid hb11; have HE11 := hid he11; have HQS := hid hqs; have HDV := hid hdv; have HTR := hid htr; have HFA := hid hfa; clear hb11 he11 hqs hdv htr hfa))
    have HBF : Hid (Below w.heap.size w w11) := HB5.out.trans (HB511.out.mono HB5.out.size)
    have f0 := World.ownsRow.cellAt HE11.out.fit 0 (by simp)
    have q0 := World.ownsRow.cellAt HE11.out.q 0 (by simp)
    have l0 := World.ownsRow.cellAt HE11.out.l 0 (by simp)
    have HVQ := hid (HE11.out.qw.vl true)
    have HVL := hid (HE11.out.qw.vl false)
    rw [HRV.out.1] at q0 HVQ
    rw [HRV.out.2] at l0 HVL
    rw [HQS.out.q] at HVQ
    rw [HQS.out.l] at HVL
    rw [← HUL.out] at HDV
    simp only [List.getElem?_cons_zero] at f0 q0 l0
    cases f2 with
    | true =>
      go_wp2_with fail
      go_quiet (fail)
      go_wp2_with fail
      go_ret3
      have HTT : leadF o v s.v s.v.length = none ∧ Sml tss2 := by first | exact HTR.out rfl | exact HTR.out trivial
      exact ⟨below_drewN HBF.out nq, s, tss2, HQS.out, HDV.out, Or.inl ⟨_, _, rfl, HVQ.out.below (below_drewN (Below.refl _ _) nq), HVL.out.below (below_drewN (Below.refl _ _) nq), HTT.1, HTT.2⟩⟩
    | false =>
      go_wp2_with fail
      go_ret3
      exact ⟨HBF.out, s, tss2, HQS.out, HDV.out, Or.inr ⟨rfl, by first | exact HFA.out rfl | exact HFA.out trivial⟩⟩
end Go.Proofs.YtilogbggilchaaaGreat
