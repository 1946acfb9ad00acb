/- Divide where all is right. -/
import Derived.Test.YtkmjmmnnnbjghaaGreatNB
import Derived.Test.YtkmjmmnnnbjghaaGreatQL
import Derived.Test.YtkmjmmnnnbjghaaGreatQO
import Derived.Laws.EntriesVeiled
import Derived.Test.YtkmjmmnnnbjghaaGreatWN
import Derived.Test.YtkmjmmnnnbjghaaGreatNA
namespace Go.Proofs.YtkmjmmnnnbjghaaGreat
set_option linter.unusedSimpArgs false
set_option linter.unusedVariables false
open Go.RowKit

theorem own_cellsA {w : World} {B g : Nat} {C : Array Value} {T : TypeId} (L : Nat) (h : w.heap[g]? = some (.cells C T)) (hB : B ≤ g) (hs : C.size = L) (h0 : L ≤ 1000) : w.ownsRow B T 1 (.slice (some ⟨g, 0, none⟩) L L) L C.toList :=
  ⟨by simp [hs], .inr ⟨g, L, C, rfl, hB, h, Nat.le_refl _, by unfold maxLen; omega, by simp [hs], by rw [List.take_of_length_le (by simp [hs])]⟩⟩
theorem gd_more {o ov : Int} {N R : Nat} {t : Ft} (h1 : Gd o ov N R 200 t) : Gd o ov N R 400 t := ⟨h1.k, h1.a, h1.b, h1.d, by have := h1.deg; omega, h1.z, h1.pl0, h1.pl, h1.n1, h1.n2⟩
theorem SmD.mono {p : Int} {G : Ft → Prop} {B B' : Nat} {w : World} {sb ob : Nat} {rv : Value} {us : List Value} {rows : List (List Ft)} {C : Int → Int} (h : SmD p G B' w sb ob rv us rows C) (hb : B ≤ B') : SmD p G B w sb ob rv us rows C := ⟨h.sum.mono hb, h.ok, h.len, h.cn⟩
theorem own_oneB {w : World} {B : Nat} (u : Value) (T : TypeId) (hB : B ≤ w.heap.size) : (w.alloc (.cells #[u] T)).ownsRow B T 1 (.slice (some ⟨w.heap.size, 0, none⟩) 1 1) 1 [u] :=
  ⟨by simp, .inr ⟨w.heap.size, 1, _, rfl, hB, heap_alloc_new w _, Nat.le_refl _, by decide, by simp, by simp⟩⟩

set_option maxRecDepth 100000 in
set_option maxHeartbeats 4000000 in
theorem divide_ok (p o v rank : Int) (N : Nat) (x lv : Value) (u : List (List Tm)) (vss : List (List (List Tm))) (w : World) (hu : Vl w x u) (hl : Wl w lv vss) (he : errDiv p N o v rank u vss = 0) :
    Calls Tryz.prog 5 #[ringV p N o v, .int .i64 rank, x, lv] w fun e w' => Below w.heap.size w w' ∧ ∃ (s : DS) (tss : Bool → List (List TV)), QS tss s ∧ Dv p o v vss ⟨u, List.replicate vss.length [], List.replicate u.length []⟩ s ∧ ((∃ qv xv, e = .returned (.tuple #[qv, xv, .int .i64 0]) ∧ Vl w' qv s.q ∧ Vl w' xv s.l ∧ leadF o v s.v s.v.length = none ∧ Sml tss) ∨ (e = .returned (.tuple #[.slice none 0 0, .slice none 0 0, .int .i64 2]) ∧ Grt tss)) := by
  obtain ⟨R, hR, hx, hlo, hrl, hll, hul, hur, _⟩ := errDiv_ok he
  subst hR
  obtain ⟨w1, hw1⟩ : ∃ w1, w1 = w.alloc (.cells #[.int .i64 p, .int .i64 N, .int .i64 o, .int .i64 v] 23) := ⟨_, rfl⟩
  have HB1 : Hid (Below w.heap.size w w1) := by rw [hw1]; exact belowNew
  have HX1 : Hid (BoxAt w1 w.heap.size p N o v) := by rw [hw1]; exact BoxAt.new w p N o v _
  have HC1 := hid (divCheck_any p N o v R x lv u vss w1 (hu.below HB1.out) (hl.below HB1.out))
  rw [he] at HC1
  obtain ⟨_, r0, r1, r2, r3⟩ := HX1.out
  have HU := hid hu
  have HL := hid hl
  have HX := hid hx
  have HLO := hid hlo
  have HRL := hid hrl
  have HUR := hid hur
  have HUL := hid hul
  have HLL := hid hll
  have HNO := hid (fun (W : World) => newOrd_any p o v N R W hx)
  have HDO : Hid (∀ W ob sv, Below w.heap.size w W → OrC W ob p o v N R sv → Calls Tryz.prog 18 #[.pointer (some ⟨ob, 0, none⟩), lv] W fun e w' => ∃ d, e = .returned d ∧ ∃ ds fls, DoW p o v N R vss W w' vss.length d ds fls) := fun W ob sv hb hoc => divisorsOf_any ob p o v N R sv lv vss W HX.out hoc HLL.out HLO.out.len HRL.out (HL.out.below hb)
  obtain ⟨xa, xc, rfl, _⟩ := hu
  obtain ⟨la, lc, rfl, _⟩ := hl
  unfold ringV at HC1 HNO ⊢
  clear he hx hlo hrl hur hul hll
  go_enter Tryz.func5, Tryz.ntmps5
  go_upto_region 1 with fail
  rw [← hw1]
  clear hw1
  go_upto_region 5 with (first
    | (go_at_call 16; refine HC1.out.mono ?_; rintro e w2 ⟨rfl, hb2⟩; have HB2 := hid (HB1.out.trans (hb2.mono HB1.out.size)); have HRB2 := hid (HX1.out.below hb2); have s0 := cell_keep r0 hb2; have s1 := cell_keep r1 hb2; have s2 := cell_keep r2 hb2; have s3 := cell_keep r3 hb2; clear hb2)
    | (go_at_call 17; refine (HNO.out _).mono ?_; rintro e w3 ⟨ob, rfl, sv, q1, q2⟩; have HOC := hid q1; have HB3 := hid (HB2.out.trans (q2.mono HB2.out.size)); have HRB := hid (HRB2.out.below q2); clear q1 q2))
  go_upto_region 6 with (go_at_call 18; refine (HDO.out _ _ _ HB3.out HOC.out).mono ?_; rintro e w4 ⟨dd, rfl, ds, fls, q1⟩; have HD4 := hid q1; clear q1; obtain ⟨da, dc, hdd⟩ := own_sl HD4.out.dvs.own; subst hdd)
  have HDL := hid HD4.out.dlen
  obtain ⟨w5, hw5⟩ : ∃ w5, w5 = w4.alloc (.cells #[.slice da ds.length dc] 45) := ⟨_, rfl⟩
  have H5 : Hid (Below w4.heap.size w4 w5 ∧ w5.cell? ⟨w4.heap.size, 0, none⟩ = some (.slice da ds.length dc)) := by
    show _ ∧ _
    rw [hw5]
    refine ⟨belowNew, ?_⟩
    rw [cell_of_row _ w4.heap.size _ _ 45 (0, 0) (heap_alloc_new w4 _)]
    simp
  rw [← hw5]
  clear hw5
  have HB35 : Hid (Below w3.heap.size w3 w5) := HD4.out.below.trans (H5.out.1.mono HD4.out.below.size)
  have HB5 : Hid (Below w.heap.size w w5) := HB3.out.trans (HB35.out.mono HB3.out.size)
  have HCX : Hid (DCx p o v N R vss w5.heap.size w5 ob w.heap.size w4.heap.size sv (.slice da ds.length dc) ds fls) :=
    ⟨HX.out, HLO.out, HOC.out.below HB35.out, HRB.out.below HB35.out, H5.out.2, (HD4.out.dvs.mono (Nat.zero_le _)).next H5.out.1, HD4.out.made, HD4.out.len, HD4.out.flr, rfl, HLL.out⟩
  obtain ⟨i0, hi0, hz0, hz1, hz2⟩ := info_parts Tryz.infoPolyW
  have HI := hid (And.intro hi0 (And.intro hz0 (And.intro hz1 hz2)))
  clear hi0 hz0 hz1 hz2
  have bL : (i0.bytes : Int) * (vss.length : Int) ≤ 281474976710656 := by rw [HI.out.2.2.2]; have := HLL.out; omega
  have bR : (i0.bytes : Int) * (R : Int) ≤ 281474976710656 := by rw [HI.out.2.2.2]; have := HX.out.r; omega
  have bL2 : (vss.length : Int) ≤ 9223372036854775807 := by have := HLL.out; omega
  have bR2 : (R : Int) ≤ 9223372036854775807 := by have := HX.out.r; omega
  obtain ⟨MQ, hMQ⟩ : ∃ MQ : Array Value, MQ = madeCells (Value.cells (.slice none 0 0)) (vss.length * i0.size) := ⟨_, rfl⟩
  obtain ⟨ML, hML⟩ : ∃ ML : Array Value, ML = madeCells (Value.cells (.slice none 0 0)) (R * i0.size) := ⟨_, rfl⟩
  have hm1 : ∀ W : World, (Instr.makeSlice 24 (.int .i64 (vss.length : Int)) (.int .i64 (vss.length : Int))).run Tryz.prog W = .ok (.slice (some ⟨W.heap.size, 0, none⟩) vss.length vss.length) (W.alloc (.cells MQ 54)) := fun W => by
    have h := run_make (P := Tryz.prog) W 24 54 i0 _ Tryz.underlying24 HI.out.1 HI.out.2.1 .i64 .i64 vss.length vss.length (by omega) (Int.le_refl _) bL bL2
    simp only [Int.toNat_natCast] at h
    rw [hMQ]; exact h
  have hm2 : ∀ W : World, (Instr.makeSlice 25 (.int .i64 (R : Int)) (.int .i64 (R : Int))).run Tryz.prog W = .ok (.slice (some ⟨W.heap.size, 0, none⟩) R R) (W.alloc (.cells ML 54)) := fun W => by
    have h := run_make (P := Tryz.prog) W 25 54 i0 _ Tryz.underlying25 HI.out.1 HI.out.2.1 .i64 .i64 R R (by omega) (Int.le_refl _) bR bR2
    simp only [Int.toNat_natCast] at h
    rw [hML]; exact h
  have HMQ := hid hMQ
  have HML := hid hML
  clear hMQ hML
  go_cut [14, 15] from 32 to 36 (fun s14 s15 wx => ∃ qa la qb lb : Nat, s14 = .pointer (some ⟨qb, 0, none⟩) ∧ s15 = .pointer (some ⟨lb, 0, none⟩) ∧ MkW w5 wx MQ ML vss.length R qa la qb lb)
  case first =>
    go_region
    all_goals
      go_wp2_with fail
      go_meet
      apply mk_of rfl rfl
      case hq => first | exact four0 _ _ _ _ _ | exact four1 _ _ _ _ _ | exact four2 _ _ _ _ _ | exact four3 _ _ _ _ _
      case hl => first | exact four0 _ _ _ _ _ | exact four1 _ _ _ _ _ | exact four2 _ _ _ _ _ | exact four3 _ _ _ _ _
      case hmq => first | exact four0 _ _ _ _ _ | exact four1 _ _ _ _ _ | exact four2 _ _ _ _ _ | exact four3 _ _ _ _ _
      case hml => first | exact four0 _ _ _ _ _ | exact four1 _ _ _ _ _ | exact four2 _ _ _ _ _ | exact four3 _ _ _ _ _
      case hb => exact fourB _ _ _ _ _
      case hge => exact ⟨by omega, by omega, by omega, by omega, by omega⟩
  case rest =>
    obtain ⟨qa, la, qb, lb, rfl, rfl, hmk⟩ := hcut
    have HMK := hid hmk
    clear hmk hm1 hm2
    have HQA : Hid (MQ.toList = List.replicate vss.length (.slice none 0 0) ∧ MQ.size = vss.length) := by
      have h : MQ.toList = List.replicate vss.length (.slice none 0 0) := by rw [HMQ.out, HI.out.2.2.1, made_nil]
      exact ⟨h, by have := congrArg List.length h; simpa using this⟩
    have HLA : Hid (ML.toList = List.replicate R (.slice none 0 0) ∧ ML.size = R) := by
      have h : ML.toList = List.replicate R (.slice none 0 0) := by rw [HML.out, HI.out.2.2.1, made_nil]
      exact ⟨h, by have := congrArg List.length h; simpa using this⟩
    have HQW : Hid (QW w5.heap.size N wc (fun s => if s then .slice (some ⟨qa, 0, none⟩) vss.length vss.length else .slice (some ⟨la, 0, none⟩) R R) (fun s => List.replicate (if s then vss.length else R) (.slice none 0 0)) (fun s => List.replicate (if s then vss.length else R) [])) := by
      obtain ⟨g1, g2, g3, g4, g5⟩ := HMK.out.ge
      have hR := HX.out.r
      have hLL := HLL.out
      refine qw_start g5 ?_ ?_ ?_ ?_
      · have h := own_cellsA vss.length HMK.out.mq g1 HQA.out.2 (by omega)
        rw [HQA.out.1] at h; exact h
      · have h := own_cellsA R HMK.out.ml g2 HLA.out.2 (by omega)
        rw [HLA.out.1] at h; exact h
      · exact slk_row HMK.out.mq fun u hu => by rw [HQA.out.1] at hu; exact ⟨_, _, _, List.eq_of_mem_replicate hu⟩
      · exact slk_row HMK.out.ml fun u hu => by rw [HLA.out.1] at hu; exact ⟨_, _, _, List.eq_of_mem_replicate hu⟩
    obtain ⟨RV, hRV⟩ : ∃ RV : Bool → Value, RV = fun s => if s then .slice (some ⟨qa, 0, none⟩) vss.length vss.length else .slice (some ⟨la, 0, none⟩) R R := ⟨_, rfl⟩
    have hRVt : RV true = .slice (some ⟨qa, 0, none⟩) vss.length vss.length := by rw [hRV]; rfl
    have hRVf : RV false = .slice (some ⟨la, 0, none⟩) R R := by rw [hRV]; rfl
    have HRV := hid (And.intro hRVt hRVf)
    obtain ⟨w6, hw6⟩ : ∃ w6, w6 = wc.alloc (.cells #[.bool true] 4) := ⟨_, rfl⟩
    obtain ⟨w7, hw7⟩ : ∃ w7, w7 = w6.alloc (.cells #[growV w.heap.size wc.heap.size] 60) := ⟨_, rfl⟩
    have HB6 : Hid (Below wc.heap.size wc w6) := by rw [hw6]; exact belowNew
    have HB67 : Hid (Below w6.heap.size w6 w7) := by rw [hw7]; exact belowNew
    have hs6 : w6.heap.size = wc.heap.size + 1 := by rw [hw6]; simp
    have HB7 : Hid (Below wc.heap.size wc w7) := HB6.out.trans (HB67.out.mono HB6.out.size)
    have HEN : Hid (EnW w5.heap.size N w7 w.heap.size qb lb wc.heap.size (wc.heap.size + 1) RV (fun s => List.replicate (if s then vss.length else R) (.slice none 0 0)) (fun s => List.replicate (if s then vss.length else R) []) true) := by
      obtain ⟨g1, g2, g3, g4, g5⟩ := HMK.out.ge
      have hz := HMK.out.below.size
      refine ⟨?_, ?_, ?_, ?_, by rw [hRV]; exact HQW.out.next HB7.out⟩
      · rw [hRVt]; exact ownBlock_lt (own_cellsA 1 HMK.out.q g3 rfl (by omega)) HB7.out
      · rw [hRVf]; exact ownBlock_lt (own_cellsA 1 HMK.out.l g4 rfl (by omega)) HB7.out
      · refine ownBlock_lt (w := w6) ?_ HB67.out
        rw [hw6]; exact own_oneB _ _ hz
      · rw [← hs6, hw7]; exact own_oneB _ _ (by rw [hs6]; omega)
    have HB57 : Hid (Below w5.heap.size w5 w7) := HMK.out.below.trans (HB7.out.mono HMK.out.below.size)
    have HOV : Hid (Calls Tryz.prog 23 #[.pointer (some ⟨ob, 0, none⟩), .int .i64 0, .slice xa u.length xc] w7 fun e w' => ∃ y fs, e = .returned y ∧ Fv w' y fs ∧ FlR p o v N R 200 u fs ∧ Below w7.heap.size w7 w' ∧ ∀ b, y.ownBlock = some b → w7.heap.size ≤ b) :=
      orderVec_any ob p o v N R sv _ u w7 HX.out (HCX.out.oc.below HB57.out) HUL.out HUR.out ((HU.out.below HB5.out).below HB57.out)
    have HNS : Hid (∀ W fs vb vc y, Below w5.heap.size w5 W → W.cell? ⟨vb, 0, none⟩ = some y → Fv W y fs → FlR p o v N R 200 u fs → Calls Tryz.prog 22 #[.pointer (some ⟨ob, 0, none⟩), .slice (some ⟨vb, 0, none⟩) 1 vc] W fun e w' => e = .returned (.pointer (some ⟨W.heap.size, 0, none⟩)) ∧ ∃ rv us rows, SmD p (Gd o v N R 400) W.heap.size w' W.heap.size ob rv us rows (fun k => cnt k fs) ∧ Below W.heap.size W w') := fun W fs vb vc y hb hc hf hflr =>
      newSum_any ob vb 0 vc p _ _ _ (Gd o v N R 400) sv y fs W (HCX.out.oc.below hb).ord (errP_bd HX.out.pr) hc hf ⟨fun r hr => by rw [List.mem_singleton] at hr; rw [hr]; exact hflr.dn, fun r hr t ht => by rw [List.mem_singleton] at hr; rw [hr] at ht; exact hflr.co t ht, fun r hr t ht => by rw [List.mem_singleton] at hr; rw [hr] at ht; exact gd_more (hflr.gd t ht)⟩ (fun x t => Gd.alk x t) (gd_len HX.out.r)
    have HSD : Hid (∀ W sb rw us rows fs, Below w5.heap.size w5 W → w5.heap.size ≤ W.heap.size → EnW w5.heap.size N W w.heap.size qb lb wc.heap.size (wc.heap.size + 1) RV (fun s => List.replicate (if s then vss.length else R) (.slice none 0 0)) (fun s => List.replicate (if s then vss.length else R) []) true → SmD p (Gd o v N R 400) w5.heap.size W sb ob rw us rows (fun k => cnt k fs) → FlR p o v N R 200 u fs →
        Calls Tryz.prog 24 #[.pointer (some ⟨sb, 0, none⟩), .func (.func 25) #[] #[.pointer (some ⟨w4.heap.size, 0, none⟩)], .func (.func 27) #[] #[.pointer (some ⟨wc.heap.size + 1, 0, none⟩), .pointer (some ⟨qb, 0, none⟩)], .func (.func 28) #[] #[.pointer (some ⟨wc.heap.size + 1, 0, none⟩), .pointer (some ⟨lb, 0, none⟩)]] W fun e w' => e = .returned (.tuple #[]) ∧ ∃ s tss2 f2, Below w5.heap.size w5 w' ∧ (∃ us, EnW w5.heap.size N w' w.heap.size qb lb wc.heap.size (wc.heap.size + 1) RV us tss2 f2) ∧ QS tss2 s ∧ Dv p o v vss ⟨u, List.replicate vss.length [], List.replicate R []⟩ s ∧ (f2 = true → leadF o v s.v s.v.length = none ∧ Sml tss2) ∧ (f2 = false → Grt tss2)) := fun W sb rw us rows fs hb hsz hen hsm hflr => by
      have h0 : ∀ (n i : Nat), (List.replicate n ([] : List TV)).getD i [] = [] := fun n i => by
        rw [List.getD_eq_getElem?_getD]
        by_cases h : i < n <;> simp [h]
      refine sumDivide_any p o v N R vss w5.heap.size w5 ob w.heap.size w4.heap.size qb lb wc.heap.size (wc.heap.size + 1) sb sv _ ds fls RV ⟨u, List.replicate vss.length [], List.replicate R []⟩ rows (fun s => List.replicate (if s then vss.length else R) []) W HCX.out ⟨hb, ⟨_, hen⟩, ⟨rw, us, hsm.sum⟩, hsm.len, ⟨by simp, by simp⟩, Dv.refl _⟩ (dinv_start HX.out.ov HUL.out HUR.out) hsm.ok ?_ ?_ (by simp) (by simp) hsz
      · intro k
        have h1 := hsm.cn k
        have h2 := hflr.cn k
        rw [h2] at h1; exact h1
      · intro s i
        simp only [h0]
        exact ⟨by simp, fun t ht => by simp at ht⟩
    clear hRV hRVt hRVf
    unfold growV at hw7
    go_upto_region 9 with fail
    rw [← hw6, ← hw7]
    clear hw6 hw7
    have HB4C := hid hs6
    clear hs6
    go_upto_region 10 with (first
      | (go_at_call 23; refine HOV.out.mono ?_; rintro e w8 ⟨y, fs, rfl, hf, hflr, hb8, _⟩; have HF8 := hid hf; have HFLR := hid hflr; have HB58 : Hid (Below w5.heap.size w5 w8) := HB57.out.trans (hb8.mono HB57.out.size); have HE8 := hid (HEN.out.next hb8); obtain ⟨ya, yc, rfl, _, _⟩ := hf; clear hflr hb8)
      | (go_at_call 22; refine (HNS.out _ fs w8.heap.size 1 (.slice ya fs.length yc) (HB58.out.trans (belowNew.mono HB58.out.size)) (by simp [go_sem]) (HF8.out.below belowNew) HFLR.out).mono ?_; rintro e w10 ⟨rfl, rvs, uss, rows, hsm, hb10⟩; have HB510 : Hid (Below w5.heap.size w5 w10) := (HB58.out.trans (belowNew.mono HB58.out.size)).trans (hb10.mono (Nat.le_trans HB58.out.size (by simp))); have HE10 := hid ((HE8.out.next belowNew).next hb10); have HSM := hid (SmD.mono hsm (Nat.le_trans HB58.out.size (by simp))); clear hsm hb10)
      | (go_at_call 24; refine (HSD.out _ _ rvs uss rows fs HB510.out HB510.out.size HE10.out (by simpa using HSM.out) HFLR.out).mono ?_; rintro e w11 ⟨rfl, s, tss2, f2, hb11, ⟨us11, he11⟩, hqs, hdv, htr, hfa⟩; have HB511 := hid hb11; have HE11 := hid he11; have HQS := hid hqs; have HDV := hid hdv; have HTR := hid htr; have HFA := hid hfa; clear hb11 he11 hqs hdv htr hfa))
    have HBF : Hid (Below w.heap.size w w11) := HB5.out.trans (HB511.out.mono HB5.out.size)
    have f0 := World.ownsRow.cellAt HE11.out.fit 0 (by simp)
    have q0 := World.ownsRow.cellAt HE11.out.q 0 (by simp)
    have l0 := World.ownsRow.cellAt HE11.out.l 0 (by simp)
    have HVQ := hid (HE11.out.qw.vl true)
    have HVL := hid (HE11.out.qw.vl false)
    rw [HRV.out.1] at q0 HVQ
    rw [HRV.out.2] at l0 HVL
    rw [HQS.out.q] at HVQ
    rw [HQS.out.l] at HVL
    rw [← HUL.out] at HDV
    simp only [List.getElem?_cons_zero] at f0 q0 l0
    cases f2 with
    | true =>
      go_wp2_with fail
      go_quiet (fail)
      go_wp2_with fail
      go_ret3
      have HTT : leadF o v s.v s.v.length = none ∧ Sml tss2 := by first | exact HTR.out rfl | exact HTR.out trivial
      exact ⟨below_drewN HBF.out nq, s, tss2, HQS.out, HDV.out, Or.inl ⟨_, _, rfl, HVQ.out.below (below_drewN (Below.refl _ _) nq), HVL.out.below (below_drewN (Below.refl _ _) nq), HTT.1, HTT.2⟩⟩
    | false =>
      go_wp2_with fail
      go_ret3
      exact ⟨HBF.out, s, tss2, HQS.out, HDV.out, Or.inr ⟨rfl, by first | exact HFA.out rfl | exact HFA.out trivial⟩⟩

end Go.Proofs.YtkmjmmnnnbjghaaGreat

/- Divide: its errors. -/
namespace Go.Proofs.YtkmjmmnnnbjghaaGreat
set_option linter.unusedSimpArgs false
set_option linter.unusedVariables false
open Go.RowKit

set_option maxRecDepth 100000 in
set_option maxHeartbeats 2000000 in
theorem divide_err (p n o v rank : Int) (x lv : Value) (u : List (List Tm)) (vss : List (List (List Tm))) (w : World) (hu : Vl w x u) (hl : Wl w lv vss) (he : errDiv p n o v rank u vss ≠ 0) :
    Calls Tryz.prog 5 #[ringV p n o v, .int .i64 rank, x, lv] w fun e w' => e = .returned (.tuple #[.slice none 0 0, .slice none 0 0, .int .i64 (errDiv p n o v rank u vss)]) ∧ Below w.heap.size w w' := by
  obtain ⟨w1, hw1⟩ : ∃ w1, w1 = w.alloc (.cells #[.int .i64 p, .int .i64 n, .int .i64 o, .int .i64 v] 23) := ⟨_, rfl⟩
  have HB1 : Hid (Below w.heap.size w w1) := by rw [hw1]; exact belowNew
  have HX1 : Hid (BoxAt w1 w.heap.size p n o v) := by rw [hw1]; exact BoxAt.new w p n o v _
  have HC1 := hid (divCheck_any p n o v rank x lv u vss w1 (hu.below HB1.out) (hl.below HB1.out))
  obtain ⟨_, r0, r1, r2, r3⟩ := HX1.out
  generalize errDiv p n o v rank u vss = E at HC1 he ⊢
  have hE : (E != 0) = true := by simpa using he
  obtain ⟨xa, xc, rfl, _⟩ := hu
  obtain ⟨la, lc, rfl, _⟩ := hl
  unfold ringV at HC1 ⊢
  go_enter Tryz.func5, Tryz.ntmps5
  go_upto_region 1 with fail
  rw [← hw1]
  clear hw1
  go_wp2_with (go_at_call 16; refine HC1.out.mono ?_; rintro e w2 ⟨rfl, hb2⟩; have HB2 := hid hb2; clear hb2)
  go_ret3
  exact ⟨rfl, HB1.out.trans (HB2.out.mono HB1.out.size)⟩

end Go.Proofs.YtkmjmmnnnbjghaaGreat

/- checkDivide, one, divideBegun; what is too great. -/
namespace Go.Proofs.YtkmjmmnnnbjghaaGreat
set_option linter.unusedSimpArgs false
set_option linter.unusedVariables false
open Go.RowKit

set_option maxRecDepth 100000 in
set_option maxHeartbeats 2000000 in
theorem checkDivide_any (p n o v rank : Int) (x lv : Value) (u : List (List Tm)) (vss : List (List (List Tm))) (w : World) (hu : Vl w x u) (hl : Wl w lv vss) :
    Calls Tryz.prog 7 #[ringV p n o v, .int .i64 rank, x, lv] w fun e w' => e = .returned (.int .i64 (errDiv p n o v rank u vss)) ∧ Below w.heap.size w w' := by
  obtain ⟨w1, hw1⟩ : ∃ w1, w1 = w.alloc (.cells #[.int .i64 p, .int .i64 n, .int .i64 o, .int .i64 v] 23) := ⟨_, rfl⟩
  have HB1 : Hid (Below w.heap.size w w1) := by rw [hw1]; exact belowNew
  have HX1 : Hid (BoxAt w1 w.heap.size p n o v) := by rw [hw1]; exact BoxAt.new w p n o v _
  have HU := hid hu
  have HC1 := hid (checkVectors_any p n o v rank lv vss w1 (hl.below HB1.out))
  obtain ⟨xa, xc, rfl, _⟩ := hu
  obtain ⟨_, r0, r1, r2, r3⟩ := HX1.out
  by_cases h1 : errVecs p n o v rank vss = 0
  · have hR : errR p n o v = 0 := by
      unfold errVecs at h1
      by_cases h : errR p n o v = 0
      · exact h
      · rw [if_pos h] at h1; exact absurd h1 h
    have HE : Hid (errDiv p n o v rank u vss = errList p n o rank [u]) := by
      show _ = _
      unfold errDiv
      rw [if_neg (by simpa using h1)]
      unfold errVecs
      rw [if_neg (by simpa using hR)]
    have HC2 : Hid (∀ W, Below w1.heap.size w1 W → Calls Tryz.prog 32 #[ringV p n o v, .int .i64 rank, .slice (some ⟨W.heap.size, 0, none⟩) 1 1] (W.alloc (.cells #[.slice xa u.length xc] 25)) fun e w' => e = .returned (.int .i64 (errList p n o rank [u])) ∧ Below (W.alloc (.cells #[.slice xa u.length xc] 25)).heap.size (W.alloc (.cells #[.slice xa u.length xc] 25)) w') := fun W hb =>
      checkList_any p n o v rank _ [u] _ hR (wl_one (((HU.out.below HB1.out).below hb).below belowNew) (by simp) (by simp [go_sem]))
    rw [HE.out]
    rw [h1] at HC1
    unfold ringV at HC1 HC2 ⊢
    clear hl h1 hR
    go_enter Tryz.func7, Tryz.ntmps7
    go_upto_region 1 with fail
    rw [← hw1]
    clear hw1
    go_upto_region 3 with (go_at_call 31; refine HC1.out.mono ?_; rintro e w2 ⟨rfl, hb2⟩; have HB2 := hid hb2; have s0 := cell_keep r0 hb2; have s1 := cell_keep r1 hb2; have s2 := cell_keep r2 hb2; have s3 := cell_keep r3 hb2; clear hb2)
    go_wp2_with (go_at_call 32; refine (HC2.out _ HB2.out).mono ?_; rintro e w3 ⟨rfl, hb3⟩; have HB3 := hid hb3; clear hb3)
    go_ret
    exact ⟨rfl, (HB1.out.trans (HB2.out.mono HB1.out.size)).trans ((belowNew.trans (HB3.out.mono belowNew.size)).mono (HB1.out.trans (HB2.out.mono HB1.out.size)).size)⟩
  · have HE : Hid (errDiv p n o v rank u vss = errVecs p n o v rank vss) := by show _ = _; unfold errDiv; rw [if_pos h1]
    rw [HE.out]
    unfold ringV at HC1 ⊢
    generalize errVecs p n o v rank vss = E at HC1 h1
    have hb : (E == 0) = false := by simpa using h1
    go_enter Tryz.func7, Tryz.ntmps7
    go_upto_region 1 with fail
    rw [← hw1]
    clear hw1
    go_wp2_with (go_at_call 31; refine HC1.out.mono ?_; rintro e w2 ⟨rfl, hb2⟩; have HB2 := hid hb2; clear hb2)
    go_ret
    exact ⟨rfl, HB1.out.trans (HB2.out.mono HB1.out.size)⟩

/-- Where a division has come to its end it is the only one. -/
theorem Dv.uniq {p o ov : Int} {lss : List (List (List Tm))} {a b c : DS} (h : Dv p o ov lss a b) (k : Dv p o ov lss a c) (hb : dstep p o ov lss b = none) (hc : dstep p o ov lss c = none) : b = c := by
  rcases (Dv.linear h k hc).first with e | ⟨d, hd, _⟩
  · exact e
  · rw [hb] at hd; simp at hd
theorem dstep_end {p o ov : Int} {lss : List (List (List Tm))} {s : DS} (h : leadF o ov s.v s.v.length = none) : dstep p o ov lss s = none := by
  unfold dstep; rw [h]
theorem qs_at {tss : Bool → List (List TV)} {s : DS} (h : QS tss s) (b : Bool) (i : Nat) : ((tss b).getD i []).map tm = (if b then s.q else s.l).getD i [] := by
  have e : (tss b).map (List.map tm) = if b then s.q else s.l := by
    cases b
    · simpa using h.l
    · simpa using h.q
  rw [← e]
  simp only [List.getD_eq_getElem?_getD, List.getElem?_map]
  cases (tss b)[i]? <;> rfl
theorem great_pre {f g : List Tm} (h : f <+: g) (hg : greatB f = true) : greatB g = true := by
  by_cases hx : ∃ x ∈ g, 200 < sumI x.2
  · obtain ⟨x, hx, h2⟩ := hx
    exact great_large hx h2
  · have hs : ∀ x ∈ g, sumI x.2 ≤ 200 := fun x hx2 => by
      have hn : ¬ 200 < sumI x.2 := fun hlt => hx ⟨x, hx2, hlt⟩
      omega
    have hsf : ∀ x ∈ f, sumI x.2 ≤ 200 := fun x hx2 => hs x (h.subset hx2)
    rw [great_small hsf] at hg
    rw [great_small hs]
    have := h.length_le
    simp only [decide_eq_true_eq] at hg ⊢
    omega
theorem grt_great {p o ov : Int} {lss : List (List (List Tm))} {tss : Bool → List (List TV)} {s s2 : DS} (h : QS tss s) (hg : Grt tss) (hd : Dv p o ov lss s s2) : (s2.q.any greatB || s2.l.any greatB) = true := by
  obtain ⟨b, i, hi, hgr⟩ := hg
  have ha := qs_at h b i
  have hgb : greatB ((if b then s.q else s.l).getD i []) = true := by
    rw [← ha]
    rcases hgr with h1 | ⟨t, ht, h2⟩
    · by_cases hx : ∃ x ∈ ((tss b).getD i []).map tm, 200 < sumI x.2
      · obtain ⟨x, hx, h2⟩ := hx; exact great_large hx h2
      · rw [great_small (fun x hx2 => by have hn : ¬ 200 < sumI x.2 := fun hlt => hx ⟨x, hx2, hlt⟩; omega)]
        simpa using h1
    · exact great_large (List.mem_map.2 ⟨t, ht, rfl⟩) h2
  obtain ⟨p1, p2, p3, p4⟩ := hd.pre
  cases b
  · simp only [Bool.false_eq_true, if_false] at hgb
    have h5 := great_pre (p4 i) hgb
    have hil : i < s2.l.length := by
      rw [p2, ← h.l, List.length_map]; exact hi
    rw [Bool.or_eq_true]
    exact Or.inr (List.any_eq_true.2 ⟨_, getD_memL s2.l i hil, h5⟩)
  · simp only [if_true] at hgb
    have h5 := great_pre (p3 i) hgb
    have hil : i < s2.q.length := by
      rw [p1, ← h.q, List.length_map]; exact hi
    rw [Bool.or_eq_true]
    exact Or.inl (List.any_eq_true.2 ⟨_, getD_memL s2.q i hil, h5⟩)
theorem sml_small {tss : Bool → List (List TV)} {s : DS} (h : QS tss s) (hs : Sml tss) : s.q.any greatB = false ∧ s.l.any greatB = false := by
  have key : ∀ (b : Bool) (i : Nat), greatB ((if b then s.q else s.l).getD i []) = false := fun b i => by
    rw [← qs_at h b i]
    rw [great_small (fun x hx => by
      obtain ⟨t, ht, rfl⟩ := List.mem_map.1 hx
      exact (hs b i).2 t ht)]
    have := (hs b i).1
    simp only [List.length_map, decide_eq_false_iff_not]; omega
  constructor
  · rw [List.any_eq_false]
    intro f hf
    obtain ⟨i, hi, rfl⟩ := List.getElem_of_mem hf
    have := key true i
    simpa [List.getD_eq_getElem?_getD, hi] using this
  · rw [List.any_eq_false]
    intro f hf
    obtain ⟨i, hi, rfl⟩ := List.getElem_of_mem hf
    have := key false i
    simpa [List.getD_eq_getElem?_getD, hi] using this

end Go.Proofs.YtkmjmmnnnbjghaaGreat

/- divideBegun. -/
namespace Go.Proofs.YtkmjmmnnnbjghaaGreat
set_option linter.unusedSimpArgs false
set_option linter.unusedVariables false
open Go.RowKit

abbrev lB : List (List (List Tm)) := [[[(1, [1, 0])]]]
abbrev uB : List (List Tm) := [[(3, [1, 1]), (1, [0, 1])]]
abbrev qB : List (List Tm) := [[(3, [0, 1])]]
abbrev xB : List (List Tm) := [[(1, [0, 1])]]
theorem vl_oneB {w : World} {f : List Tm} {x : Value} {b c : Nat} (hf : Pl w x f) (hlt : b < w.heap.size) (c0 : w.cell? ⟨b, 0, none⟩ = some x) : Vl w (.slice (some ⟨b, 0, none⟩) 1 c) [f] := by
  refine ⟨_, c, rfl, fun _ => ⟨b, 0, rfl, hlt, fun i hi => ?_⟩⟩
  have e : i = 0 := by simp at hi; omega
  subst e
  exact ⟨x, c0, hf⟩
set_option maxRecDepth 100000 in
set_option maxHeartbeats 2000000 in
theorem one_any (w : World) : Calls Tryz.prog 43 #[] w fun e w' => ∃ a c, e = .returned (.slice a 1 c) ∧ Wl w' (.slice a 1 c) lB ∧ Below w.heap.size w w' := by
  go_enter Tryz.func43, Tryz.ntmps43
  go_wp2_with fail
  refine (term_any _ _ _ _ _).mono ?_
  rintro e w1 ⟨rfl, hb1⟩
  have HS1 := hid ((Sl.new2 w 1 0 _).below hb1)
  have HB1 := hid (show Below w.heap.size w w1 from below_one.trans (hb1.mono (by simp)))
  clear hb1
  have HV : Hid (∀ T T' T'', Wl (((w1.alloc (.cells #[.int .i64 1, .slice (some ⟨w.heap.size, 0, none⟩) 2 2] T)).alloc (.cells #[.slice (some ⟨w1.heap.size, 0, none⟩) 1 1] T')).alloc (.cells #[.slice (some ⟨w1.heap.size + 1, 0, none⟩) 1 1] T'')) (.slice (some ⟨w1.heap.size + 1 + 1, 0, none⟩) 1 1) lB) := fun T T' T'' => by
    have v1 : Vl ((w1.alloc (.cells #[.int .i64 1, .slice (some ⟨w.heap.size, 0, none⟩) 2 2] T)).alloc (.cells #[.slice (some ⟨w1.heap.size, 0, none⟩) 1 1] T')) (.slice (some ⟨w1.heap.size + 1, 0, none⟩) 1 1) [[(1, [1, 0])]] := vl_oneB ((pl_new1 HS1.out).below belowNew) (by simp) (by simp [go_sem])
    exact wl_one (v1.below belowNew) (by simp) (by simp [go_sem])
  go_wp2
  go_ret
  exact ⟨_, _, rfl, HV.out _ _ _, HB1.out.trans ((below_three).mono HB1.out.size)⟩
theorem dB1 : dstep 7 1 1 lB ⟨uB, [[]], [[]]⟩ = some ⟨[[(1, [0, 1])]], [[(3, [0, 1])]], [[]]⟩ := by kernel_rfl
theorem dB2 : dstep 7 1 1 lB ⟨[[(1, [0, 1])]], [[(3, [0, 1])]], [[]]⟩ = some ⟨[[]], qB, xB⟩ := by kernel_rfl
theorem dBv : Dv 7 1 1 lB ⟨uB, [[]], [[]]⟩ ⟨[[]], qB, xB⟩ := ((Dv.refl _).step dB1).step dB2
theorem dBe : leadF 1 1 [[]] 1 = none ∧ (qB.any greatB || xB.any greatB) = false ∧ errDiv 7 2 1 1 1 uB lB = 0 ∧ errDiv 7 2 1 1 1 xB lB = 0 ∧ nrmB 1 1 lB xB = true := by
  refine ⟨by decide +kernel, by decide +kernel, by decide +kernel, by decide +kernel, by decide +kernel⟩
theorem divB (x lv : Value) (w : World) (hx : Vl w x uB) (hl : Wl w lv lB) : Calls Tryz.prog 5 #[ringV 7 2 1 1, .int .i64 1, x, lv] w fun e w' => ∃ qa qc xa xc, e = .returned (.tuple #[.slice qa 1 qc, .slice xa 1 xc, .int .i64 0]) ∧ Vl w' (.slice qa 1 qc) qB ∧ Vl w' (.slice xa 1 xc) xB ∧ Below w.heap.size w w' := by
  refine (divide_ok 7 1 1 1 2 x lv uB lB w hx hl dBe.2.2.1).mono ?_
  rintro e w' ⟨hb, s, tss, hqs, hdv, h⟩
  have hdv2 : Dv 7 1 1 lB ⟨uB, [[]], [[]]⟩ s := hdv
  have hend : dstep 7 1 1 lB ⟨[[]], qB, xB⟩ = none := dstep_end dBe.1
  rcases h with ⟨qv, xv, rfl, hq, hxv, hld, _⟩ | ⟨rfl, hg⟩
  · have es := Dv.uniq hdv2 dBv (dstep_end hld) hend
    subst es
    obtain ⟨qa, qc, rfl, _⟩ := id hq
    obtain ⟨xa, xc, rfl, _⟩ := id hxv
    exact ⟨qa, qc, xa, xc, rfl, hq, hxv, hb⟩
  · have h1 := grt_great hqs hg (Dv.linear hdv2 dBv hend)
    rw [dBe.2.1] at h1
    cases h1

set_option maxRecDepth 100000 in
set_option maxHeartbeats 4000000 in
theorem divideBegun_any (w : World) : Calls Tryz.prog 11 #[] w fun e w' => e = .returned (.bool true) ∧ Below w.heap.size w w' := by
  go_enter Tryz.func11, Tryz.ntmps11
  go_wp2_with fail
  refine (xy_any _).mono ?_
  rintro e w1 ⟨rfl, hb1⟩
  have HB1 := hid hb1
  clear hb1
  go_wp2_with fail
  refine (term_any _ _ _ _ _).mono ?_
  rintro e w2 ⟨rfl, hb2⟩
  have HS2 := hid ((Sl.new2 w1 1 1 _).below hb2)
  have HB2 := hid (show Below w.heap.size w w2 from HB1.out.trans ((below_one.trans (hb2.mono (by simp))).mono HB1.out.size))
  clear hb2
  go_wp2_with fail
  refine (term_any _ _ _ _ _).mono ?_
  rintro e w3 ⟨rfl, hb3⟩
  have HS3 := hid ((HS2.out.below below_one).below hb3)
  have HT3 := hid ((Sl.new2 w2 0 1 _).below hb3)
  have HB3 := hid (show Below w.heap.size w w3 from HB2.out.trans ((below_one.trans (hb3.mono (by simp))).mono HB2.out.size))
  clear hb3
  have HV : Hid (∀ T T', Vl ((w3.alloc (.cells #[.int .i64 3, .slice (some ⟨w1.heap.size, 0, none⟩) 2 2, .int .i64 1, .slice (some ⟨w2.heap.size, 0, none⟩) 2 2] T)).alloc (.cells #[.slice (some ⟨w3.heap.size, 0, none⟩) 2 2] T')) (.slice (some ⟨w3.heap.size + 1, 0, none⟩) 1 1) uB) := fun T T' =>
    vl_oneB ((pl_new2 HS3.out HT3.out).below belowNew) (by simp) (by simp [go_sem])
  go_wp2_with fail
  refine (one_any _).mono ?_
  rintro e w4 ⟨la, lc, rfl, hl4, hb4⟩
  have HL4 := hid hl4
  have HV4 := hid ((HV.out _ _).below hb4)
  have HB4 := hid (show Below w.heap.size w w4 from HB3.out.trans ((below_two.trans (hb4.mono below_two.size)).mono HB3.out.size))
  clear hl4 hb4
  go_wp2_with fail
  refine (divB _ _ _ HV4.out HL4.out).mono ?_
  rintro e w5 ⟨qa, qc, xa, xc, rfl, hq5, hx5, hb5⟩
  have HQ5 := hid hq5
  have HX5 := hid hx5
  have HB5 := hid (HB4.out.trans (hb5.mono HB4.out.size))
  clear hq5 hx5 hb5
  go_wp2_with fail
  refine (xy_any _).mono ?_
  rintro e w6 ⟨rfl, hb6⟩
  have HQ6 := hid (HQ5.out.below hb6)
  have HX6 := hid (HX5.out.below hb6)
  have HB6 := hid (HB5.out.trans (hb6.mono HB5.out.size))
  clear hb6
  go_wp2_with fail
  refine (one_any _).mono ?_
  rintro e w7 ⟨ma, mc, rfl, hl7, hb7⟩
  have HL7 := hid hl7
  have HQ7 := hid (HQ6.out.below hb7)
  have HX7 := hid (HX6.out.below hb7)
  have HB7 := hid (HB6.out.trans (hb7.mono HB6.out.size))
  clear hl7 hb7
  have HN7 : Hid (Calls Tryz.prog 6 #[ringV 7 2 1 1, .int .i64 1, .slice xa 1 xc, .slice ma 1 mc] w7 fun e w' => e = .returned (.tuple #[.bool true, .int .i64 0]) ∧ Below w7.heap.size w7 w') := by
    have h := normal_ok 7 1 1 1 2 (.slice xa 1 xc) (.slice ma 1 mc) xB lB w7 HX7.out HL7.out dBe.2.2.2.1
    rw [dBe.2.2.2.2] at h
    exact h
  go_wp2_with fail
  refine HN7.out.mono ?_
  rintro e w8 ⟨rfl, hb8⟩
  have HQ8 := hid (HQ7.out.below hb8)
  have HX8 := hid (HX7.out.below hb8)
  have HB8 := hid (HB7.out.trans (hb8.mono HB7.out.size))
  clear hb8 HN7
  obtain ⟨b, off, fa, fc, hqa, hlt, c1, hpl⟩ := vl_at (fss := qB) HQ8.out 0 (by simp)
  subst hqa
  have c1' : w8.cell? ⟨b, off, none⟩ = some (.slice fa 1 fc) := c1
  obtain ⟨b2, off2, ea, ec, hfa, hlt2, e0, _, _⟩ := pl_first (t := (3, [0, 1])) (ts := []) hpl
  subst hfa
  simp only at e0
  obtain ⟨b3, off3, ga, gc, hxa, hlt3, c3, _⟩ := vl_at (fss := xB) HX8.out 0 (by simp)
  subst hxa
  have c3' : w8.cell? ⟨b3, off3, none⟩ = some (.slice ga 1 gc) := c3
  clear c1 c3 hpl
  go_wp2
  go_ret
  exact ⟨rfl, HB8.out⟩

end Go.Proofs.YtkmjmmnnnbjghaaGreat

/- DivideDivides, walked. -/
namespace Go.Proofs.YtkmjmmnnnbjghaaGreat
set_option linter.unusedSimpArgs false
set_option linter.unusedVariables false
open Go.RowKit

theorem dstep_lead {p o ov : Int} {lss : List (List (List Tm))} {s : DS} (h : dstep p o ov lss s = none) : leadF o ov s.v s.v.length = none := by
  unfold dstep at h
  split at h
  · assumption
  · split at h <;> simp at h
/-- Each division ends. -/
theorem dv_end {p o ov : Int} {N R : Nat} (hx : RCx p o ov N R) {lss : List (List (List Tm))} (hl : LOk p o N R lss) : ∀ (n : Nat) (s : DS), DInv p o ov N R lss s → dms o ov s.v ≤ n → ∃ f, Dv p o ov lss s f ∧ DInv p o ov N R lss f ∧ dstep p o ov lss f = none
  | 0, s, hi, hn => by
    cases hd : dstep p o ov lss s with
    | none => exact ⟨s, Dv.refl _, hi, hd⟩
    | some s2 => have := dms_lt hx hl hi hd; omega
  | n + 1, s, hi, hn => by
    cases hd : dstep p o ov lss s with
    | none => exact ⟨s, Dv.refl _, hi, hd⟩
    | some s2 =>
      have := dms_lt hx hl hi hd
      obtain ⟨f, h1, h2, h3⟩ := dv_end hx hl n s2 (dinv_step hx hl hi hd).1 (by omega)
      exact ⟨f, ((Dv.refl _).step hd).trans h1, h2, h3⟩
theorem okp_inv {p o ov : Int} {N R : Nat} (hx : RCx p o ov N R) {lss : List (List (List Tm))} {s : DS} (h : DInv p o ov N R lss s) : (∀ f ∈ s.q, OkP f) ∧ ∀ f ∈ s.l, OkP f := by
  have h0 := hx.n0
  have h3 := hx.n3
  constructor
  · intro f hf
    obtain ⟨i, hi, rfl⟩ := List.getElem_of_mem hf
    have e : s.q.getD i [] = s.q[i] := by simp [List.getD_eq_getElem?_getD, hi]
    rw [← e]
    obtain ⟨c1, c2, c3⟩ := h.qok i
    have hb : ∀ t ∈ s.q.getD i [], ∀ x ∈ t.2, 0 ≤ x ∧ x ≤ 8000 := fun t ht x hx2 => by
      have h1 := le_sumI (c2 t ht) x hx2
      have h2 := c3 t ht
      exact ⟨c2 t ht x hx2, by omega⟩
    have hlen := canon_short hx.n3 c1 hb
    exact ⟨by omega, fun t ht => ⟨by rw [c1.len t ht]; omega, by rw [c1.len t ht]; omega, fun x hx2 => by have := hb t ht x hx2; omega⟩⟩
  · intro f hf
    obtain ⟨c1, hb, hlen⟩ := vok_bd hx h.lok h.ll f hf
    exact ⟨by omega, fun t ht => ⟨by rw [c1.len t ht]; omega, by rw [c1.len t ht]; omega, fun x hx2 => by have := hb t ht x hx2; omega⟩⟩
theorem vl_nil (w : World) : Vl w (.slice none 0 0) [] := ⟨none, 0, rfl, fun h => by simp at h⟩
/-- What the three answer, by where the division ends. -/
structure FinD (p o v rank : Int) (N R : Nat) (x lv : Value) (u : List (List Tm)) (vss : List (List (List Tm))) (w1 : World) (f : DS) : Prop where
  ok : (∀ g ∈ f.q, OkP g) ∧ ∀ g ∈ f.l, OkP g
  ql : f.q.length ≤ 1000
  ll : f.l.length ≤ 1000
  small : f.q.any greatB = false → f.l.any greatB = false → ∀ W, Below w1.heap.size w1 W → Calls Tryz.prog 5 #[ringV p N o v, .int .i64 rank, x, lv] W fun e w' => ∃ qa qc xa xc, e = .returned (.tuple #[.slice qa f.q.length qc, .slice xa f.l.length xc, .int .i64 0]) ∧ Vl w' (.slice qa f.q.length qc) f.q ∧ Vl w' (.slice xa f.l.length xc) f.l ∧ Below W.heap.size W w'
  great : (f.q.any greatB || f.l.any greatB) = true → ∀ W, Below w1.heap.size w1 W → Calls Tryz.prog 5 #[ringV p N o v, .int .i64 rank, x, lv] W fun e w' => e = .returned (.tuple #[.slice none 0 0, .slice none 0 0, .int .i64 2]) ∧ Below W.heap.size W w'
  ref : ∀ W, Below w1.heap.size w1 W → Calls Tryz.prog 8 #[ringV p N o v, x, lv] W fun e w' => ∃ qa qc xa xc, e = .returned (.tuple #[.slice qa f.q.length qc, .slice xa f.l.length xc]) ∧ Vl w' (.slice qa f.q.length qc) f.q ∧ Vl w' (.slice xa f.l.length xc) f.l ∧ Below W.heap.size W w'
  nrm : ∀ W, Below w1.heap.size w1 W → Calls Tryz.prog 9 #[ringV p N o v, x, lv] W fun e w' => e = .returned (.bool (nrmB o v vss u)) ∧ Below W.heap.size W w'
theorem fin_all {p o v rank : Int} {N : Nat} {x lv : Value} {u : List (List Tm)} {vss : List (List (List Tm))} {w1 : World} (hu : Vl w1 x u) (hl : Wl w1 lv vss) (he : errDiv p N o v rank u vss = 0) : ∃ (R : Nat) (f : DS), rank = (R : Int) ∧ RCx p o v N R ∧ LOk p o N R vss ∧ (∀ g ∈ vss, ∀ f ∈ g, Right p o N f) ∧ u.length = R ∧ (∀ f ∈ u, Right p o N f) ∧ 1 ≤ R ∧ Dv p o v vss ⟨u, List.replicate vss.length [], List.replicate R []⟩ f ∧ DInv p o v N R vss f ∧ dstep p o v vss f = none ∧ vss.length ≤ 60 ∧ FinD p o v rank N R x lv u vss w1 f := by
  obtain ⟨R, hR, hx, hlo, hrl, hll, hul, hur, hR1⟩ := errDiv_ok he
  have hi := dinv_start (lss := vss) hx.ov hul hur
  obtain ⟨f, h1, h2, h3⟩ := dv_end hx hlo _ _ hi (Nat.le_refl _)
  have hR40 := hx.r
  refine ⟨R, f, hR, hx, hlo, hrl, hul, hur, hR1, h1, h2, h3, hll, okp_inv hx h2, by rw [h2.ql]; omega, by rw [h2.ll]; omega, fun g1 g2 W hb => ?_, fun g W hb => ?_, fun W hb => ?_, fun W hb => ?_⟩
  · refine (divide_ok p o v rank N x lv u vss W (hu.below hb) (hl.below hb) he).mono ?_
    rintro e w' ⟨hb2, s, tss, hqs, hdv, h⟩
    rw [hul] at hdv
    rcases h with ⟨qv, xv, rfl, hq, hxv, hld, _⟩ | ⟨rfl, hg⟩
    · have es := Dv.uniq hdv h1 (dstep_end hld) h3
      subst es
      obtain ⟨qa, qc, rfl, _⟩ := id hq
      obtain ⟨xa, xc, rfl, _⟩ := id hxv
      exact ⟨qa, qc, xa, xc, rfl, hq, hxv, hb2⟩
    · have h9 := grt_great hqs hg (Dv.linear hdv h1 h3)
      rw [g1, g2] at h9
      cases h9
  · refine (divide_ok p o v rank N x lv u vss W (hu.below hb) (hl.below hb) he).mono ?_
    rintro e w' ⟨hb2, s, tss, hqs, hdv, h⟩
    rw [hul] at hdv
    rcases h with ⟨qv, xv, rfl, hq, hxv, hld, hsm⟩ | ⟨rfl, hg⟩
    · have es := Dv.uniq hdv h1 (dstep_end hld) h3
      subst es
      obtain ⟨k1, k2⟩ := sml_small hqs hsm
      rw [k1, k2] at g
      cases g
    · exact ⟨rfl, hb2⟩
  · refine (divideOf_any p o v N R x lv u vss W hx hlo hll hrl hul hR1 hur (hu.below hb) (hl.below hb)).mono ?_
    rintro e w' ⟨qv, xv, s, rfl, hq, hxv, hdv, _, hld, hb2⟩
    have es := Dv.uniq hdv h1 (dstep_end hld) h3
    subst es
    obtain ⟨qa, qc, rfl, _⟩ := id hq
    obtain ⟨xa, xc, rfl, _⟩ := id hxv
    exact ⟨qa, qc, xa, xc, rfl, hq, hxv, hb2⟩
  · exact normalOf_any p o v N R x lv u vss W hx hlo hll hrl hul hur (hu.below hb) (hl.below hb)
theorem fin_of {p o v rank : Int} {N : Nat} {x lv : Value} {u : List (List Tm)} {vss : List (List (List Tm))} {w1 : World} (hu : Vl w1 x u) (hl : Wl w1 lv vss) (he : errDiv p N o v rank u vss = 0) : ∃ R f, FinD p o v rank N R x lv u vss w1 f := by
  obtain ⟨R, f, _, _, _, _, _, _, _, _, _, _, _, h⟩ := fin_all hu hl he
  exact ⟨R, f, h⟩

end Go.Proofs.YtkmjmmnnnbjghaaGreat

/- DivideDivides in its ways. -/
namespace Go.Proofs.YtkmjmmnnnbjghaaGreat
set_option linter.unusedSimpArgs false
set_option linter.unusedVariables false
open Go.RowKit

set_option maxRecDepth 100000 in
set_option maxHeartbeats 4000000 in
theorem divideDivides_err (p n o v rank : Int) (x lv : Value) (u : List (List Tm)) (vss : List (List (List Tm))) (w : World) (hu : Vl w x u) (hl : Wl w lv vss) (he : errDiv p n o v rank u vss ≠ 0) :
    Calls Tryz.prog 3 #[ringV p n o v, .int .i64 rank, x, lv] w fun e w' => e = .returned (.bool true) ∧ Below w.heap.size w w' := by
  obtain ⟨w1, hw1⟩ : ∃ w1, w1 = w.alloc (.cells #[.int .i64 p, .int .i64 n, .int .i64 o, .int .i64 v] 23) := ⟨_, rfl⟩
  have HB1 : Hid (Below w.heap.size w w1) := by rw [hw1]; exact belowNew
  have HX1 : Hid (BoxAt w1 w.heap.size p n o v) := by rw [hw1]; exact BoxAt.new w p n o v _
  have hu1 := hu.below HB1.out
  have hl1 := hl.below HB1.out
  have HDV := hid (fun W (hb : Below w1.heap.size w1 W) => divide_err p n o v rank x lv u vss W (hu1.below hb) (hl1.below hb) he)
  have HNO := hid (fun W (hb : Below w1.heap.size w1 W) => normal_err p n o v rank x lv u vss W (hu1.below hb) (hl1.below hb) he)
  have HCK := hid (fun W (hb : Below w1.heap.size w1 W) => checkDivide_any p n o v rank x lv u vss W (hu1.below hb) (hl1.below hb))
  have HSV := hid (fun W => sameVector_any (.slice none 0 0) (.slice none 0 0) [] W (by simp) (fun f hf => by simp at hf) (vl_nil W) (vl_nil W))
  have HBG := hid (fun W => divideBegun_any W)
  obtain ⟨_, r0, r1, r2, r3⟩ := HX1.out
  generalize errDiv p n o v rank u vss = E at HDV HNO HCK he
  have hE : (E == 0) = false := by simpa using he
  obtain ⟨xa, xc, rfl, _⟩ := hu
  obtain ⟨la, lc, rfl, _⟩ := hl
  unfold ringV at HDV HNO HCK ⊢
  clear hu1 hl1
  go_enter Tryz.func3, Tryz.ntmps3
  go_upto_region 1 with fail
  rw [← hw1]
  clear hw1
  go_wp2_with (first
    | (go_at_call 5; refine (HDV.out _ (Below.refl _ _)).mono ?_; rintro e w2 ⟨rfl, hb2⟩; have HB2 := hid hb2; have s0 := cell_keep r0 hb2; have s1 := cell_keep r1 hb2; have s2 := cell_keep r2 hb2; have s3 := cell_keep r3 hb2; clear hb2)
    | (go_at_call 6; refine (HNO.out _ HB2.out).mono ?_; rintro e w3 ⟨rfl, hb3⟩; have HB3 := hid (HB2.out.trans (hb3.mono HB2.out.size)); have q0 := cell_keep s0 hb3; have q1 := cell_keep s1 hb3; have q2 := cell_keep s2 hb3; have q3 := cell_keep s3 hb3; clear hb3)
    | (go_at_call 7; refine (HCK.out _ HB3.out).mono ?_; rintro e w4 ⟨rfl, hb4⟩; have HB4 := hid (HB3.out.trans (hb4.mono HB3.out.size)); clear hb4)
    | (go_at_call 11; refine (HBG.out _).mono ?_; rintro e w5 ⟨rfl, hb5⟩; have HBC := hid (HB4.out.trans (hb5.mono HB4.out.size)); clear hb5)
    | (go_at_call 12; refine (HSV.out _).mono ?_; rintro e w6 ⟨rfl, hb6⟩; have HBC := hid (HBC.out.trans (hb6.mono HBC.out.size)); clear hb6))
  go_ret
  exact ⟨rfl, HB1.out.trans (HBC.out.mono HB1.out.size)⟩

set_option maxRecDepth 100000 in
set_option maxHeartbeats 4000000 in
theorem divideDivides_ok1 (p o v rank : Int) (N R : Nat) (x lv : Value) (u : List (List Tm)) (vss : List (List (List Tm))) (f : DS) (w w1 : World) (hu : Vl w x u) (hl : Wl w lv vss) (he : errDiv p N o v rank u vss = 0) (hw1 : w1 = w.alloc (.cells #[.int .i64 p, .int .i64 N, .int .i64 o, .int .i64 v] 23)) (hf : FinD p o v rank N R x lv u vss w1 f) (hg : f.q.any greatB = false ∧ f.l.any greatB = false) :
    Calls Tryz.prog 3 #[ringV p N o v, .int .i64 rank, x, lv] w fun e w' => e = .returned (.bool true) ∧ Below w.heap.size w w' := by
  have HB1 : Hid (Below w.heap.size w w1) := by rw [hw1]; exact belowNew
  have HX1 : Hid (BoxAt w1 w.heap.size p N o v) := by rw [hw1]; exact BoxAt.new w p N o v _
  have hu1 := hu.below HB1.out
  have hl1 := hl.below HB1.out
  have HDV := hid (hf.small hg.1 hg.2)
  have HRF := hid hf.ref
  have HNR := hid hf.nrm
  have HOK := hid hf.ok
  have HQL := hid hf.ql
  have HLL := hid hf.ll
  have HNO := hid (fun W (hb : Below w1.heap.size w1 W) => normal_ok p o v rank N x lv u vss W (hu1.below hb) (hl1.below hb) he)
  have HCK : Hid (∀ W, Below w1.heap.size w1 W → Calls Tryz.prog 7 #[ringV p N o v, .int .i64 rank, x, lv] W fun e w' => e = .returned (.int .i64 0) ∧ Below W.heap.size W w') := fun W hb => by
    have h := checkDivide_any p N o v rank x lv u vss W (hu1.below hb) (hl1.below hb)
    rw [he] at h; exact h
  have HBG := hid (fun W => divideBegun_any W)
  have HSN := hid (fun W => sameVector_any (.slice none 0 0) (.slice none 0 0) [] W (by simp) (fun f hf => by simp at hf) (vl_nil W) (vl_nil W))
  obtain ⟨_, r0, r1, r2, r3⟩ := HX1.out
  generalize nrmB o v vss u = nb at HNO HNR
  obtain ⟨xa, xc, rfl, _⟩ := hu
  obtain ⟨la, lc, rfl, _⟩ := hl
  unfold ringV at HDV HRF HNR HNO HCK ⊢
  clear hu1 hl1 hf he
  have HG := hid hg
  clear hg
  go_enter Tryz.func3, Tryz.ntmps3
  go_upto_region 1 with fail
  rw [← hw1]
  clear hw1
  go_upto_region 10 with (first
    | (go_at_call 5; refine (HDV.out _ (Below.refl _ _)).mono ?_; rintro e w2 ⟨qa, qc, ya, yc, rfl, hq2, hx2, hb2⟩; have HQ2 := hid hq2; have HX2 := hid hx2; have HB2 := hid hb2; have s0 := cell_keep r0 hb2; have s1 := cell_keep r1 hb2; have s2 := cell_keep r2 hb2; have s3 := cell_keep r3 hb2; clear hq2 hx2 hb2)
    | (go_at_call 6; refine (HNO.out _ HB2.out).mono ?_; rintro e w3 ⟨rfl, hb3⟩; have HB23 := hid hb3; have HB3 := hid (HB2.out.trans (hb3.mono HB2.out.size)); have q0 := cell_keep s0 hb3; have q1 := cell_keep s1 hb3; have q2 := cell_keep s2 hb3; have q3 := cell_keep s3 hb3; clear hb3)
    | (go_at_call 7; refine (HCK.out _ HB3.out).mono ?_; rintro e w4 ⟨rfl, hb4⟩; have HB34 := hid hb4; have HB4 := hid (HB3.out.trans (hb4.mono HB3.out.size)); have t0 := cell_keep q0 hb4; have t1 := cell_keep q1 hb4; have t2 := cell_keep q2 hb4; have t3 := cell_keep q3 hb4; clear hb4)
    | (go_at_call 8; refine (HRF.out _ HB4.out).mono ?_; rintro e w5 ⟨qa2, qc2, xa2, xc2, rfl, hq5, hx5, hb5⟩; have HQ5 := hid hq5; have HX5 := hid hx5; have HB45 := hid hb5; have HB5 := hid (HB4.out.trans (hb5.mono HB4.out.size)); have m0 := cell_keep t0 hb5; have m1 := cell_keep t1 hb5; have m2 := cell_keep t2 hb5; have m3 := cell_keep t3 hb5; clear hq5 hx5 hb5)
    | (go_at_call 9; refine (HNR.out _ HB5.out).mono ?_; rintro e w6 ⟨rfl, hb6⟩; have HB56 := hid hb6; have HB6 := hid (HB5.out.trans (hb6.mono HB5.out.size)); clear hb6))
  have HQ6 := hid (HQ5.out.below HB56.out)
  have HX6 := hid (HX5.out.below HB56.out)
  have HVQ := hid (vgreat_any (.slice qa2 f.q.length qc2) f.q w6 HQL.out HOK.out.1 HQ6.out)
  have HVL := hid (vgreat_any (.slice xa2 f.l.length xc2) f.l w6 HLL.out HOK.out.2 HX6.out)
  rw [HG.out.1] at HVQ
  rw [HG.out.2] at HVL
  have HB26 : Hid (Below w2.heap.size w2 w6) := HB23.out.trans ((HB34.out.trans ((HB45.out.trans (HB56.out.mono HB45.out.size)).mono HB34.out.size)).mono HB23.out.size)
  have HSQ := hid (fun W (hb : Below w6.heap.size w6 W) => sameVector_any (.slice qa f.q.length qc) (.slice qa2 f.q.length qc2) f.q W HQL.out HOK.out.1 ((HQ2.out.below HB26.out).below hb) (HQ6.out.below hb))
  have HSX := hid (fun W (hb : Below w6.heap.size w6 W) => sameVector_any (.slice ya f.l.length yc) (.slice xa2 f.l.length xc2) f.l W HLL.out HOK.out.2 ((HX2.out.below HB26.out).below hb) (HX6.out.below hb))

  go_wp2_with (first
    | (go_at_call 10; with_reducible refine HVQ.out.mono ?_; rintro e w7 ⟨rfl, rfl⟩)
    | (go_at_call 10; with_reducible refine HVL.out.mono ?_; rintro e w7 ⟨rfl, rfl⟩)
    | (go_at_call 11; refine (HBG.out _).mono ?_; rintro e w8 ⟨rfl, hb8⟩; have HB8 := hid hb8; clear hb8)
    | (go_at_call 12; with_reducible refine (HSQ.out _ HB8.out).mono ?_; rintro e w9 ⟨rfl, hb9⟩; have HB8 := hid (HB8.out.trans (hb9.mono HB8.out.size)); clear hb9)
    | (go_at_call 12; with_reducible refine (HSX.out _ HB8.out).mono ?_; rintro e w10 ⟨rfl, hb10⟩; have HB8 := hid (HB8.out.trans (hb10.mono HB8.out.size)); clear hb10))
  go_ret
  exact ⟨rfl, HB1.out.trans ((HB6.out.trans (HB8.out.mono HB6.out.size)).mono HB1.out.size)⟩

set_option maxRecDepth 100000 in
set_option maxHeartbeats 4000000 in
theorem divideDivides_ok2 (p o v rank : Int) (N R : Nat) (x lv : Value) (u : List (List Tm)) (vss : List (List (List Tm))) (f : DS) (w w1 : World) (hu : Vl w x u) (hl : Wl w lv vss) (he : errDiv p N o v rank u vss = 0) (hw1 : w1 = w.alloc (.cells #[.int .i64 p, .int .i64 N, .int .i64 o, .int .i64 v] 23)) (hf : FinD p o v rank N R x lv u vss w1 f) (hg : f.q.any greatB = true) :
    Calls Tryz.prog 3 #[ringV p N o v, .int .i64 rank, x, lv] w fun e w' => e = .returned (.bool true) ∧ Below w.heap.size w w' := by
  have HB1 : Hid (Below w.heap.size w w1) := by rw [hw1]; exact belowNew
  have HX1 : Hid (BoxAt w1 w.heap.size p N o v) := by rw [hw1]; exact BoxAt.new w p N o v _
  have hu1 := hu.below HB1.out
  have hl1 := hl.below HB1.out
  have HDV := hid (hf.great (by rw [hg]; rfl))
  have HRF := hid hf.ref
  have HNR := hid hf.nrm
  have HOK := hid hf.ok
  have HQL := hid hf.ql
  have HLL := hid hf.ll
  have HNO := hid (fun W (hb : Below w1.heap.size w1 W) => normal_ok p o v rank N x lv u vss W (hu1.below hb) (hl1.below hb) he)
  have HCK : Hid (∀ W, Below w1.heap.size w1 W → Calls Tryz.prog 7 #[ringV p N o v, .int .i64 rank, x, lv] W fun e w' => e = .returned (.int .i64 0) ∧ Below W.heap.size W w') := fun W hb => by
    have h := checkDivide_any p N o v rank x lv u vss W (hu1.below hb) (hl1.below hb)
    rw [he] at h; exact h
  have HBG := hid (fun W => divideBegun_any W)
  have HSN := hid (fun W => sameVector_any (.slice none 0 0) (.slice none 0 0) [] W (by simp) (fun f hf => by simp at hf) (vl_nil W) (vl_nil W))
  obtain ⟨_, r0, r1, r2, r3⟩ := HX1.out
  generalize nrmB o v vss u = nb at HNO HNR
  obtain ⟨xa, xc, rfl, _⟩ := hu
  obtain ⟨la, lc, rfl, _⟩ := hl
  unfold ringV at HDV HRF HNR HNO HCK ⊢
  clear hu1 hl1 hf he
  have HG := hid hg
  clear hg
  go_enter Tryz.func3, Tryz.ntmps3
  go_upto_region 1 with fail
  rw [← hw1]
  clear hw1
  go_upto_region 10 with (first
    | (go_at_call 5; refine (HDV.out _ (Below.refl _ _)).mono ?_; rintro e w2 ⟨rfl, hb2⟩; have HB2 := hid hb2; have s0 := cell_keep r0 hb2; have s1 := cell_keep r1 hb2; have s2 := cell_keep r2 hb2; have s3 := cell_keep r3 hb2; clear hb2)
    | (go_at_call 6; refine (HNO.out _ HB2.out).mono ?_; rintro e w3 ⟨rfl, hb3⟩; have HB23 := hid hb3; have HB3 := hid (HB2.out.trans (hb3.mono HB2.out.size)); have q0 := cell_keep s0 hb3; have q1 := cell_keep s1 hb3; have q2 := cell_keep s2 hb3; have q3 := cell_keep s3 hb3; clear hb3)
    | (go_at_call 7; refine (HCK.out _ HB3.out).mono ?_; rintro e w4 ⟨rfl, hb4⟩; have HB34 := hid hb4; have HB4 := hid (HB3.out.trans (hb4.mono HB3.out.size)); have t0 := cell_keep q0 hb4; have t1 := cell_keep q1 hb4; have t2 := cell_keep q2 hb4; have t3 := cell_keep q3 hb4; clear hb4)
    | (go_at_call 8; refine (HRF.out _ HB4.out).mono ?_; rintro e w5 ⟨qa2, qc2, xa2, xc2, rfl, hq5, hx5, hb5⟩; have HQ5 := hid hq5; have HX5 := hid hx5; have HB45 := hid hb5; have HB5 := hid (HB4.out.trans (hb5.mono HB4.out.size)); have m0 := cell_keep t0 hb5; have m1 := cell_keep t1 hb5; have m2 := cell_keep t2 hb5; have m3 := cell_keep t3 hb5; clear hq5 hx5 hb5)
    | (go_at_call 9; refine (HNR.out _ HB5.out).mono ?_; rintro e w6 ⟨rfl, hb6⟩; have HB56 := hid hb6; have HB6 := hid (HB5.out.trans (hb6.mono HB5.out.size)); clear hb6))
  have HQ6 := hid (HQ5.out.below HB56.out)
  have HX6 := hid (HX5.out.below HB56.out)
  have HVQ := hid (vgreat_any (.slice qa2 f.q.length qc2) f.q w6 HQL.out HOK.out.1 HQ6.out)
  have HVL := hid (vgreat_any (.slice xa2 f.l.length xc2) f.l w6 HLL.out HOK.out.2 HX6.out)
  rw [HG.out] at HVQ

  go_wp2_with (first
    | (go_at_call 10; with_reducible refine HVQ.out.mono ?_; rintro e w7 ⟨rfl, rfl⟩)
    | (go_at_call 10; with_reducible refine HVL.out.mono ?_; rintro e w7 ⟨rfl, rfl⟩)
    | (go_at_call 11; refine (HBG.out _).mono ?_; rintro e w8 ⟨rfl, hb8⟩; have HB8 := hid hb8; clear hb8)
    | (go_at_call 12; refine (HSN.out _).mono ?_; rintro e w9 ⟨rfl, hb9⟩; have HB8 := hid (HB8.out.trans (hb9.mono HB8.out.size)); clear hb9))
  go_ret
  exact ⟨rfl, HB1.out.trans ((HB6.out.trans (HB8.out.mono HB6.out.size)).mono HB1.out.size)⟩

set_option maxRecDepth 100000 in
set_option maxHeartbeats 4000000 in
theorem divideDivides_ok3 (p o v rank : Int) (N R : Nat) (x lv : Value) (u : List (List Tm)) (vss : List (List (List Tm))) (f : DS) (w w1 : World) (hu : Vl w x u) (hl : Wl w lv vss) (he : errDiv p N o v rank u vss = 0) (hw1 : w1 = w.alloc (.cells #[.int .i64 p, .int .i64 N, .int .i64 o, .int .i64 v] 23)) (hf : FinD p o v rank N R x lv u vss w1 f) (hg : f.q.any greatB = false ∧ f.l.any greatB = true) :
    Calls Tryz.prog 3 #[ringV p N o v, .int .i64 rank, x, lv] w fun e w' => e = .returned (.bool true) ∧ Below w.heap.size w w' := by
  have HB1 : Hid (Below w.heap.size w w1) := by rw [hw1]; exact belowNew
  have HX1 : Hid (BoxAt w1 w.heap.size p N o v) := by rw [hw1]; exact BoxAt.new w p N o v _
  have hu1 := hu.below HB1.out
  have hl1 := hl.below HB1.out
  have HDV := hid (hf.great (by rw [hg.1, hg.2]; rfl))
  have HRF := hid hf.ref
  have HNR := hid hf.nrm
  have HOK := hid hf.ok
  have HQL := hid hf.ql
  have HLL := hid hf.ll
  have HNO := hid (fun W (hb : Below w1.heap.size w1 W) => normal_ok p o v rank N x lv u vss W (hu1.below hb) (hl1.below hb) he)
  have HCK : Hid (∀ W, Below w1.heap.size w1 W → Calls Tryz.prog 7 #[ringV p N o v, .int .i64 rank, x, lv] W fun e w' => e = .returned (.int .i64 0) ∧ Below W.heap.size W w') := fun W hb => by
    have h := checkDivide_any p N o v rank x lv u vss W (hu1.below hb) (hl1.below hb)
    rw [he] at h; exact h
  have HBG := hid (fun W => divideBegun_any W)
  have HSN := hid (fun W => sameVector_any (.slice none 0 0) (.slice none 0 0) [] W (by simp) (fun f hf => by simp at hf) (vl_nil W) (vl_nil W))
  obtain ⟨_, r0, r1, r2, r3⟩ := HX1.out
  generalize nrmB o v vss u = nb at HNO HNR
  obtain ⟨xa, xc, rfl, _⟩ := hu
  obtain ⟨la, lc, rfl, _⟩ := hl
  unfold ringV at HDV HRF HNR HNO HCK ⊢
  clear hu1 hl1 hf he
  have HG := hid hg
  clear hg
  go_enter Tryz.func3, Tryz.ntmps3
  go_upto_region 1 with fail
  rw [← hw1]
  clear hw1
  go_upto_region 10 with (first
    | (go_at_call 5; refine (HDV.out _ (Below.refl _ _)).mono ?_; rintro e w2 ⟨rfl, hb2⟩; have HB2 := hid hb2; have s0 := cell_keep r0 hb2; have s1 := cell_keep r1 hb2; have s2 := cell_keep r2 hb2; have s3 := cell_keep r3 hb2; clear hb2)
    | (go_at_call 6; refine (HNO.out _ HB2.out).mono ?_; rintro e w3 ⟨rfl, hb3⟩; have HB23 := hid hb3; have HB3 := hid (HB2.out.trans (hb3.mono HB2.out.size)); have q0 := cell_keep s0 hb3; have q1 := cell_keep s1 hb3; have q2 := cell_keep s2 hb3; have q3 := cell_keep s3 hb3; clear hb3)
    | (go_at_call 7; refine (HCK.out _ HB3.out).mono ?_; rintro e w4 ⟨rfl, hb4⟩; have HB34 := hid hb4; have HB4 := hid (HB3.out.trans (hb4.mono HB3.out.size)); have t0 := cell_keep q0 hb4; have t1 := cell_keep q1 hb4; have t2 := cell_keep q2 hb4; have t3 := cell_keep q3 hb4; clear hb4)
    | (go_at_call 8; refine (HRF.out _ HB4.out).mono ?_; rintro e w5 ⟨qa2, qc2, xa2, xc2, rfl, hq5, hx5, hb5⟩; have HQ5 := hid hq5; have HX5 := hid hx5; have HB45 := hid hb5; have HB5 := hid (HB4.out.trans (hb5.mono HB4.out.size)); have m0 := cell_keep t0 hb5; have m1 := cell_keep t1 hb5; have m2 := cell_keep t2 hb5; have m3 := cell_keep t3 hb5; clear hq5 hx5 hb5)
    | (go_at_call 9; refine (HNR.out _ HB5.out).mono ?_; rintro e w6 ⟨rfl, hb6⟩; have HB56 := hid hb6; have HB6 := hid (HB5.out.trans (hb6.mono HB5.out.size)); clear hb6))
  have HQ6 := hid (HQ5.out.below HB56.out)
  have HX6 := hid (HX5.out.below HB56.out)
  have HVQ := hid (vgreat_any (.slice qa2 f.q.length qc2) f.q w6 HQL.out HOK.out.1 HQ6.out)
  have HVL := hid (vgreat_any (.slice xa2 f.l.length xc2) f.l w6 HLL.out HOK.out.2 HX6.out)
  rw [HG.out.1] at HVQ
  rw [HG.out.2] at HVL

  go_wp2_with (first
    | (go_at_call 10; with_reducible refine HVQ.out.mono ?_; rintro e w7 ⟨rfl, rfl⟩)
    | (go_at_call 10; with_reducible refine HVL.out.mono ?_; rintro e w7 ⟨rfl, rfl⟩)
    | (go_at_call 11; refine (HBG.out _).mono ?_; rintro e w8 ⟨rfl, hb8⟩; have HB8 := hid hb8; clear hb8)
    | (go_at_call 12; refine (HSN.out _).mono ?_; rintro e w9 ⟨rfl, hb9⟩; have HB8 := hid (HB8.out.trans (hb9.mono HB8.out.size)); clear hb9))
  go_ret
  exact ⟨rfl, HB1.out.trans ((HB6.out.trans (HB8.out.mono HB6.out.size)).mono HB1.out.size)⟩

theorem divideDivides_any (p n o v rank : Int) (x lv : Value) (u : List (List Tm)) (vss : List (List (List Tm))) (w : World) (hu : Vl w x u) (hl : Wl w lv vss) :
    Calls Tryz.prog 3 #[ringV p n o v, .int .i64 rank, x, lv] w fun e w' => e = .returned (.bool true) ∧ Below w.heap.size w w' := by
  by_cases he : errDiv p n o v rank u vss = 0
  · have hn : 0 < n := by
      have h1 : errVecs p n o v rank vss = 0 := by
        unfold errDiv at he
        by_cases h : errVecs p n o v rank vss = 0
        · exact h
        · rw [if_pos h] at he; exact absurd he h
      have hR : errR p n o v = 0 := by
        unfold errVecs at h1
        by_cases h : errR p n o v = 0
        · exact h
        · rw [if_pos h] at h1; exact absurd h1 h
      have := (ring_ok hR).2.1
      omega
    obtain ⟨N, rfl⟩ : ∃ N : Nat, n = N := ⟨n.toNat, by omega⟩
    obtain ⟨w1, hw1⟩ : ∃ w1, w1 = w.alloc (.cells #[.int .i64 p, .int .i64 N, .int .i64 o, .int .i64 v] 23) := ⟨_, rfl⟩
    have hb : Below w.heap.size w w1 := by rw [hw1]; exact belowNew
    obtain ⟨R, f, hf⟩ := fin_of (hu.below hb) (hl.below hb) he
    cases h1 : f.q.any greatB with
    | true => exact divideDivides_ok2 p o v rank N R x lv u vss f w w1 hu hl he hw1 hf h1
    | false =>
      cases h2 : f.l.any greatB with
      | true => exact divideDivides_ok3 p o v rank N R x lv u vss f w w1 hu hl he hw1 hf ⟨h1, h2⟩
      | false => exact divideDivides_ok1 p o v rank N R x lv u vss f w w1 hu hl he hw1 hf ⟨h1, h2⟩
  · exact divideDivides_err p n o v rank x lv u vss w hu hl he

end Go.Proofs.YtkmjmmnnnbjghaaGreat
