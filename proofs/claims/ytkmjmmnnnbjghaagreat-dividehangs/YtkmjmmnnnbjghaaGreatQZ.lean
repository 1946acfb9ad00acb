/- Divide where all is right. -/
import Derived.Test.YtkmjmmnnnbjghaaGreatNB
import Derived.Test.YtkmjmmnnnbjghaaGreatQL
import Derived.Test.YtkmjmmnnnbjghaaGreatQO
import Derived.Laws.EntriesVeiled
import Derived.Test.YtkmjmmnnnbjghaaGreatWN
import Derived.Test.YtkmjmmnnnbjghaaGreatNA
import Derived.Test.YtkmjmmnnnbjghaaGreatPQ
import Derived.Test.YtkmjmmnnnbjghaaGreatPJ
namespace Go.Proofs.YtkmjmmnnnbjghaaGreat
set_option linter.unusedSimpArgs false
set_option linter.unusedVariables false
open Go.RowKit

theorem own_cellsA {w : World} {B g : Nat} {C : Array Value} {T : TypeId} (L : Nat) (h : w.heap[g]? = some (.cells C T)) (hB : B ≤ g) (hs : C.size = L) (h0 : L ≤ 1000) : w.ownsRow B T 1 (.slice (some ⟨g, 0, none⟩) L L) L C.toList :=
  ⟨by simp [hs], .inr ⟨g, L, C, rfl, hB, h, Nat.le_refl _, by unfold maxLen; omega, by simp [hs], by rw [List.take_of_length_le (by simp [hs])]⟩⟩
theorem gd_more {o ov : Int} {N R : Nat} {t : Ft} (h1 : Gd o ov N R 200 t) : Gd o ov N R 400 t := ⟨h1.k, h1.a, h1.b, h1.d, by have := h1.deg; omega, h1.z, h1.pl0, h1.pl, h1.n1, h1.n2⟩
theorem SmD.mono {p : Int} {G : Ft → Prop} {B B' : Nat} {w : World} {sb ob : Nat} {rv : Value} {us : List Value} {rows : List (List Ft)} {C : Int → Int} (h : SmD p G B' w sb ob rv us rows C) (hb : B ≤ B') : SmD p G B w sb ob rv us rows C := ⟨h.sum.mono hb, h.ok, h.len, h.cn⟩
theorem own_oneB {w : World} {B : Nat} (u : Value) (T : TypeId) (hB : B ≤ w.heap.size) : (w.alloc (.cells #[u] T)).ownsRow B T 1 (.slice (some ⟨w.heap.size, 0, none⟩) 1 1) 1 [u] :=
  ⟨by simp, .inr ⟨w.heap.size, 1, _, rfl, hB, heap_alloc_new w _, Nat.le_refl _, by decide, by simp, by simp⟩⟩

set_option maxRecDepth 100000 in
set_option maxHeartbeats 4000000 in
theorem divide_ok (p o v rank : Int) (N : Nat) (x lv : Value) (u : List (List Tm)) (vss : List (List (List Tm))) (w : World) (hu : Vl w x u) (hl : Wl w lv vss) (he : errDiv p N o v rank u vss = 0) :
    Calls Tryz.prog 5 #[ringV p N o v, .int .i64 rank, x, lv] w fun e w' => Below w.heap.size w w' ∧ ∃ (s : DS) (tss : Bool → List (List TV)), QS tss s ∧ Dv p o v vss ⟨u, List.replicate vss.length [], List.replicate u.length []⟩ s ∧ ((∃ qv xv, e = .returned (.tuple #[qv, xv, .int .i64 0]) ∧ Vl w' qv s.q ∧ Vl w' xv s.l ∧ leadF o v s.v s.v.length = none ∧ Sml tss) ∨ (e = .returned (.tuple #[.slice none 0 0, .slice none 0 0, .int .i64 2]) ∧ Grt tss)) := by
  obtain ⟨R, hR, hx, hlo, hrl, hll, hul, hur, _⟩ := errDiv_ok he
  subst hR
  obtain ⟨w1, hw1⟩ : ∃ w1, w1 = w.alloc (.cells #[.int .i64 p, .int .i64 N, .int .i64 o, .int .i64 v] 23) := ⟨_, rfl⟩
  have HB1 : Hid (Below w.heap.size w w1) := by rw [hw1]; exact belowNew
  have HX1 : Hid (BoxAt w1 w.heap.size p N o v) := by rw [hw1]; exact BoxAt.new w p N o v _
  have HC1 := hid (divCheck_any p N o v R x lv u vss w1 (hu.below HB1.out) (hl.below HB1.out))
  rw [he] at HC1
  obtain ⟨_, r0, r1, r2, r3⟩ := HX1.out
  have HU := hid hu
  have HL := hid hl
  have HX := hid hx
  have HLO := hid hlo
  have HRL := hid hrl
  have HUR := hid hur
  have HUL := hid hul
  have HLL := hid hll
  have HNO := hid (fun (W : World) => newOrd_any p o v N R W hx)
  have HDO : Hid (∀ W ob sv, Below w.heap.size w W → OrC W ob p o v N R sv → Calls Tryz.prog 18 #[.pointer (some ⟨ob, 0, none⟩), lv] W fun e w' => ∃ d, e = .returned d ∧ ∃ ds fls, DoW p o v N R vss W w' vss.length d ds fls) := fun W ob sv hb hoc => divisorsOf_any ob p o v N R sv lv vss W HX.out hoc HLL.out HLO.out.len HRL.out (HL.out.below hb)
  obtain ⟨xa, xc, rfl, _⟩ := hu
  obtain ⟨la, lc, rfl, _⟩ := hl
  unfold ringV at HC1 HNO ⊢
  clear he hx hlo hrl hur hul hll
  go_enter Tryz.func5, Tryz.ntmps5
  go_upto_region 1 with fail
  rw [← hw1]
  clear hw1
  go_upto_region 5 with (first
    | (go_at_call 16; refine HC1.out.mono ?_; rintro e w2 ⟨rfl, hb2⟩; have HB2 := hid (HB1.out.trans (hb2.mono HB1.out.size)); have HRB2 := hid (HX1.out.below hb2); have s0 := cell_keep r0 hb2; have s1 := cell_keep r1 hb2; have s2 := cell_keep r2 hb2; have s3 := cell_keep r3 hb2; clear hb2)
    | (go_at_call 17; refine (HNO.out _).mono ?_; rintro e w3 ⟨ob, rfl, sv, q1, q2⟩; have HOC := hid q1; have HB3 := hid (HB2.out.trans (q2.mono HB2.out.size)); have HRB := hid (HRB2.out.below q2); clear q1 q2))
  go_upto_region 6 with (go_at_call 18; refine (HDO.out _ _ _ HB3.out HOC.out).mono ?_; rintro e w4 ⟨dd, rfl, ds, fls, q1⟩; have HD4 := hid q1; clear q1; obtain ⟨da, dc, hdd⟩ := own_sl HD4.out.dvs.own; subst hdd)
  have HDL := hid HD4.out.dlen
  obtain ⟨w5, hw5⟩ : ∃ w5, w5 = w4.alloc (.cells #[.slice da ds.length dc] 45) := ⟨_, rfl⟩
  have H5 : Hid (Below w4.heap.size w4 w5 ∧ w5.cell? ⟨w4.heap.size, 0, none⟩ = some (.slice da ds.length dc)) := by
    show _ ∧ _
    rw [hw5]
    refine ⟨belowNew, ?_⟩
    rw [cell_of_row _ w4.heap.size _ _ 45 (0, 0) (heap_alloc_new w4 _)]
    simp
  rw [← hw5]
  clear hw5
  have HB35 : Hid (Below w3.heap.size w3 w5) := HD4.out.below.trans (H5.out.1.mono HD4.out.below.size)
  have HB5 : Hid (Below w.heap.size w w5) := HB3.out.trans (HB35.out.mono HB3.out.size)
  have HCX : Hid (DCx p o v N R vss w5.heap.size w5 ob w.heap.size w4.heap.size sv (.slice da ds.length dc) ds fls) :=
    ⟨HX.out, HLO.out, HOC.out.below HB35.out, HRB.out.below HB35.out, H5.out.2, (HD4.out.dvs.mono (Nat.zero_le _)).next H5.out.1, HD4.out.made, HD4.out.len, HD4.out.flr, rfl, HLL.out⟩
  obtain ⟨i0, hi0, hz0, hz1, hz2⟩ := info_parts Tryz.infoPolyW
  have HI := hid (And.intro hi0 (And.intro hz0 (And.intro hz1 hz2)))
  clear hi0 hz0 hz1 hz2
  have bL : (i0.bytes : Int) * (vss.length : Int) ≤ 281474976710656 := by rw [HI.out.2.2.2]; have := HLL.out; omega
  have bR : (i0.bytes : Int) * (R : Int) ≤ 281474976710656 := by rw [HI.out.2.2.2]; have := HX.out.r; omega
  have bL2 : (vss.length : Int) ≤ 9223372036854775807 := by have := HLL.out; omega
  have bR2 : (R : Int) ≤ 9223372036854775807 := by have := HX.out.r; omega
  obtain ⟨MQ, hMQ⟩ : ∃ MQ : Array Value, MQ = madeCells (Value.cells (.slice none 0 0)) (vss.length * i0.size) := ⟨_, rfl⟩
  obtain ⟨ML, hML⟩ : ∃ ML : Array Value, ML = madeCells (Value.cells (.slice none 0 0)) (R * i0.size) := ⟨_, rfl⟩
  have hm1 : ∀ W : World, (Instr.makeSlice 24 (.int .i64 (vss.length : Int)) (.int .i64 (vss.length : Int))).run Tryz.prog W = .ok (.slice (some ⟨W.heap.size, 0, none⟩) vss.length vss.length) (W.alloc (.cells MQ 54)) := fun W => by
    have h := run_make (P := Tryz.prog) W 24 54 i0 _ Tryz.underlying24 HI.out.1 HI.out.2.1 .i64 .i64 vss.length vss.length (by omega) (Int.le_refl _) bL bL2
    simp only [Int.toNat_natCast] at h
    rw [hMQ]; exact h
  have hm2 : ∀ W : World, (Instr.makeSlice 25 (.int .i64 (R : Int)) (.int .i64 (R : Int))).run Tryz.prog W = .ok (.slice (some ⟨W.heap.size, 0, none⟩) R R) (W.alloc (.cells ML 54)) := fun W => by
    have h := run_make (P := Tryz.prog) W 25 54 i0 _ Tryz.underlying25 HI.out.1 HI.out.2.1 .i64 .i64 R R (by omega) (Int.le_refl _) bR bR2
    simp only [Int.toNat_natCast] at h
    rw [hML]; exact h
  have HMQ := hid hMQ
  have HML := hid hML
  clear hMQ hML
  go_cut [14, 15] from 32 to 36 (fun s14 s15 wx => ∃ qa la qb lb : Nat, s14 = .pointer (some ⟨qb, 0, none⟩) ∧ s15 = .pointer (some ⟨lb, 0, none⟩) ∧ MkW w5 wx MQ ML vss.length R qa la qb lb)
  case first =>
    go_region
    all_goals
      go_wp2_with fail
      go_meet
      apply mk_of rfl rfl
      case hq => first | exact four0 _ _ _ _ _ | exact four1 _ _ _ _ _ | exact four2 _ _ _ _ _ | exact four3 _ _ _ _ _
      case hl => first | exact four0 _ _ _ _ _ | exact four1 _ _ _ _ _ | exact four2 _ _ _ _ _ | exact four3 _ _ _ _ _
      case hmq => first | exact four0 _ _ _ _ _ | exact four1 _ _ _ _ _ | exact four2 _ _ _ _ _ | exact four3 _ _ _ _ _
      case hml => first | exact four0 _ _ _ _ _ | exact four1 _ _ _ _ _ | exact four2 _ _ _ _ _ | exact four3 _ _ _ _ _
      case hb => exact fourB _ _ _ _ _
      case hge => exact ⟨by omega, by omega, by omega, by omega, by omega⟩
  case rest =>
    obtain ⟨qa, la, qb, lb, rfl, rfl, hmk⟩ := hcut
    have HMK := hid hmk
    clear hmk hm1 hm2
    have HQA : Hid (MQ.toList = List.replicate vss.length (.slice none 0 0) ∧ MQ.size = vss.length) := by
      have h : MQ.toList = List.replicate vss.length (.slice none 0 0) := by rw [HMQ.out, HI.out.2.2.1, made_nil]
      exact ⟨h, by have := congrArg List.length h; simpa using this⟩
    have HLA : Hid (ML.toList = List.replicate R (.slice none 0 0) ∧ ML.size = R) := by
      have h : ML.toList = List.replicate R (.slice none 0 0) := by rw [HML.out, HI.out.2.2.1, made_nil]
      exact ⟨h, by have := congrArg List.length h; simpa using this⟩
    have HQW : Hid (QW w5.heap.size N wc (fun s => if s then .slice (some ⟨qa, 0, none⟩) vss.length vss.length else .slice (some ⟨la, 0, none⟩) R R) (fun s => List.replicate (if s then vss.length else R) (.slice none 0 0)) (fun s => List.replicate (if s then vss.length else R) [])) := by
      obtain ⟨g1, g2, g3, g4, g5⟩ := HMK.out.ge
      have hR := HX.out.r
      have hLL := HLL.out
      refine qw_start g5 ?_ ?_ ?_ ?_
      · have h := own_cellsA vss.length HMK.out.mq g1 HQA.out.2 (by omega)
        rw [HQA.out.1] at h; exact h
      · have h := own_cellsA R HMK.out.ml g2 HLA.out.2 (by omega)
        rw [HLA.out.1] at h; exact h
      · exact slk_row HMK.out.mq fun u hu => by rw [HQA.out.1] at hu; exact ⟨_, _, _, List.eq_of_mem_replicate hu⟩
      · exact slk_row HMK.out.ml fun u hu => by rw [HLA.out.1] at hu; exact ⟨_, _, _, List.eq_of_mem_replicate hu⟩
    obtain ⟨RV, hRV⟩ : ∃ RV : Bool → Value, RV = fun s => if s then .slice (some ⟨qa, 0, none⟩) vss.length vss.length else .slice (some ⟨la, 0, none⟩) R R := ⟨_, rfl⟩
    have hRVt : RV true = .slice (some ⟨qa, 0, none⟩) vss.length vss.length := by rw [hRV]; rfl
    have hRVf : RV false = .slice (some ⟨la, 0, none⟩) R R := by rw [hRV]; rfl
    have HRV := hid (And.intro hRVt hRVf)
    obtain ⟨w6, hw6⟩ : ∃ w6, w6 = wc.alloc (.cells #[.bool true] 4) := ⟨_, rfl⟩
    obtain ⟨w7, hw7⟩ : ∃ w7, w7 = w6.alloc (.cells #[growV w.heap.size wc.heap.size] 60) := ⟨_, rfl⟩
    have HB6 : Hid (Below wc.heap.size wc w6) := by rw [hw6]; exact belowNew
    have HB67 : Hid (Below w6.heap.size w6 w7) := by rw [hw7]; exact belowNew
    have hs6 : w6.heap.size = wc.heap.size + 1 := by rw [hw6]; simp
    have HB7 : Hid (Below wc.heap.size wc w7) := HB6.out.trans (HB67.out.mono HB6.out.size)
    have HEN : Hid (EnW w5.heap.size N w7 w.heap.size qb lb wc.heap.size (wc.heap.size + 1) RV (fun s => List.replicate (if s then vss.length else R) (.slice none 0 0)) (fun s => List.replicate (if s then vss.length else R) []) true) := by
      obtain ⟨g1, g2, g3, g4, g5⟩ := HMK.out.ge
      have hz := HMK.out.below.size
      refine ⟨?_, ?_, ?_, ?_, by rw [hRV]; exact HQW.out.next HB7.out⟩
      · rw [hRVt]; exact ownBlock_lt (own_cellsA 1 HMK.out.q g3 rfl (by omega)) HB7.out
      · rw [hRVf]; exact ownBlock_lt (own_cellsA 1 HMK.out.l g4 rfl (by omega)) HB7.out
      · refine ownBlock_lt (w := w6) ?_ HB67.out
        rw [hw6]; exact own_oneB _ _ hz
      · rw [← hs6, hw7]; exact own_oneB _ _ (by rw [hs6]; omega)
    have HB57 : Hid (Below w5.heap.size w5 w7) := HMK.out.below.trans (HB7.out.mono HMK.out.below.size)
    have HOV : Hid (Calls Tryz.prog 23 #[.pointer (some ⟨ob, 0, none⟩), .int .i64 0, .slice xa u.length xc] w7 fun e w' => ∃ y fs, e = .returned y ∧ Fv w' y fs ∧ FlR p o v N R 200 u fs ∧ Below w7.heap.size w7 w' ∧ ∀ b, y.ownBlock = some b → w7.heap.size ≤ b) :=
      orderVec_any ob p o v N R sv _ u w7 HX.out (HCX.out.oc.below HB57.out) HUL.out HUR.out ((HU.out.below HB5.out).below HB57.out)
    have HNS : Hid (∀ W fs vb vc y, Below w5.heap.size w5 W → W.cell? ⟨vb, 0, none⟩ = some y → Fv W y fs → FlR p o v N R 200 u fs → Calls Tryz.prog 22 #[.pointer (some ⟨ob, 0, none⟩), .slice (some ⟨vb, 0, none⟩) 1 vc] W fun e w' => e = .returned (.pointer (some ⟨W.heap.size, 0, none⟩)) ∧ ∃ rv us rows, SmD p (Gd o v N R 400) W.heap.size w' W.heap.size ob rv us rows (fun k => cnt k fs) ∧ Below W.heap.size W w') := fun W fs vb vc y hb hc hf hflr =>
      newSum_any ob vb 0 vc p _ _ _ (Gd o v N R 400) sv y fs W (HCX.out.oc.below hb).ord (errP_bd HX.out.pr) hc hf ⟨fun r hr => by rw [List.mem_singleton] at hr; rw [hr]; exact hflr.dn, fun r hr t ht => by rw [List.mem_singleton] at hr; rw [hr] at ht; exact hflr.co t ht, fun r hr t ht => by rw [List.mem_singleton] at hr; rw [hr] at ht; exact gd_more (hflr.gd t ht)⟩ (fun x t => Gd.alk x t) (gd_len HX.out.r)
    have HSD : Hid (∀ W sb rw us rows fs, Below w5.heap.size w5 W → w5.heap.size ≤ W.heap.size → EnW w5.heap.size N W w.heap.size qb lb wc.heap.size (wc.heap.size + 1) RV (fun s => List.replicate (if s then vss.length else R) (.slice none 0 0)) (fun s => List.replicate (if s then vss.length else R) []) true → SmD p (Gd o v N R 400) w5.heap.size W sb ob rw us rows (fun k => cnt k fs) → FlR p o v N R 200 u fs →
        Calls Tryz.prog 24 #[.pointer (some ⟨sb, 0, none⟩), .func (.func 25) #[] #[.pointer (some ⟨w4.heap.size, 0, none⟩)], .func (.func 27) #[] #[.pointer (some ⟨wc.heap.size + 1, 0, none⟩), .pointer (some ⟨qb, 0, none⟩)], .func (.func 28) #[] #[.pointer (some ⟨wc.heap.size + 1, 0, none⟩), .pointer (some ⟨lb, 0, none⟩)]] W fun e w' => e = .returned (.tuple #[]) ∧ ∃ s tss2 f2, Below w5.heap.size w5 w' ∧ (∃ us, EnW w5.heap.size N w' w.heap.size qb lb wc.heap.size (wc.heap.size + 1) RV us tss2 f2) ∧ QS tss2 s ∧ Dv p o v vss ⟨u, List.replicate vss.length [], List.replicate R []⟩ s ∧ (f2 = true → leadF o v s.v s.v.length = none ∧ Sml tss2) ∧ (f2 = false → Grt tss2)) := fun W sb rw us rows fs hb hsz hen hsm hflr => by
      have h0 : ∀ (n i : Nat), (List.replicate n ([] : List TV)).getD i [] = [] := fun n i => by
        rw [List.getD_eq_getElem?_getD]
        by_cases h : i < n <;> simp [h]
      refine sumDivide_any p o v N R vss w5.heap.size w5 ob w.heap.size w4.heap.size qb lb wc.heap.size (wc.heap.size + 1) sb sv _ ds fls RV ⟨u, List.replicate vss.length [], List.replicate R []⟩ rows (fun s => List.replicate (if s then vss.length else R) []) W HCX.out ⟨hb, ⟨_, hen⟩, ⟨rw, us, hsm.sum⟩, hsm.len, ⟨by simp, by simp⟩, Dv.refl _⟩ (dinv_start HX.out.ov HUL.out HUR.out) hsm.ok ?_ ?_ (by simp) (by simp) hsz
      · intro k
        have h1 := hsm.cn k
        have h2 := hflr.cn k
        rw [h2] at h1; exact h1
      · intro s i
        simp only [h0]
        exact ⟨by simp, fun t ht => by simp at ht⟩
    clear hRV hRVt hRVf
    unfold growV at hw7
    go_upto_region 9 with fail
    rw [← hw6, ← hw7]
    clear hw6 hw7
    have HB4C := hid hs6
    clear hs6
    go_upto_region 10 with (first
      | (go_at_call 23; refine HOV.out.mono ?_; rintro e w8 ⟨y, fs, rfl, hf, hflr, hb8, _⟩; have HF8 := hid hf; have HFLR := hid hflr; have HB58 : Hid (Below w5.heap.size w5 w8) := HB57.out.trans (hb8.mono HB57.out.size); have HE8 := hid (HEN.out.next hb8); obtain ⟨ya, yc, rfl, _, _⟩ := hf; clear hflr hb8)
      | (go_at_call 22; refine (HNS.out _ fs w8.heap.size 1 (.slice ya fs.length yc) (HB58.out.trans (belowNew.mono HB58.out.size)) (by simp [go_sem]) (HF8.out.below belowNew) HFLR.out).mono ?_; rintro e w10 ⟨rfl, rvs, uss, rows, hsm, hb10⟩; have HB510 : Hid (Below w5.heap.size w5 w10) := (HB58.out.trans (belowNew.mono HB58.out.size)).trans (hb10.mono (Nat.le_trans HB58.out.size (by simp))); have HE10 := hid ((HE8.out.next belowNew).next hb10); have HSM := hid (SmD.mono hsm (Nat.le_trans HB58.out.size (by simp))); clear hsm hb10)
      | (go_at_call 24; refine (HSD.out _ _ rvs uss rows fs HB510.out HB510.out.size HE10.out (by simpa using HSM.out) HFLR.out).mono ?_; rintro e w11 ⟨rfl, s, tss2, f2, hb11, ⟨us11, he11⟩, hqs, hdv, htr, hfa⟩; have HB511 := hid hb11; have HE11 := hid he11; have HQS := hid hqs; have HDV := hid hdv; have HTR := hid htr; have HFA := hid hfa; clear hb11 he11 hqs hdv htr hfa))
    have HBF : Hid (Below w.heap.size w w11) := HB5.out.trans (HB511.out.mono HB5.out.size)
    have f0 := World.ownsRow.cellAt HE11.out.fit 0 (by simp)
    have q0 := World.ownsRow.cellAt HE11.out.q 0 (by simp)
    have l0 := World.ownsRow.cellAt HE11.out.l 0 (by simp)
    have HVQ := hid (HE11.out.qw.vl true)
    have HVL := hid (HE11.out.qw.vl false)
    rw [HRV.out.1] at q0 HVQ
    rw [HRV.out.2] at l0 HVL
    rw [HQS.out.q] at HVQ
    rw [HQS.out.l] at HVL
    rw [← HUL.out] at HDV
    simp only [List.getElem?_cons_zero] at f0 q0 l0
    cases f2 with
    | true =>
      go_wp2_with fail
      go_quiet (fail)
      go_wp2_with fail
      go_ret3
      have HTT : leadF o v s.v s.v.length = none ∧ Sml tss2 := by first | exact HTR.out rfl | exact HTR.out trivial
      exact ⟨below_drewN HBF.out nq, s, tss2, HQS.out, HDV.out, Or.inl ⟨_, _, rfl, HVQ.out.below (below_drewN (Below.refl _ _) nq), HVL.out.below (below_drewN (Below.refl _ _) nq), HTT.1, HTT.2⟩⟩
    | false =>
      go_wp2_with fail
      go_ret3
      exact ⟨HBF.out, s, tss2, HQS.out, HDV.out, Or.inr ⟨rfl, by first | exact HFA.out rfl | exact HFA.out trivial⟩⟩

end Go.Proofs.YtkmjmmnnnbjghaaGreat

/- Divide: its errors. -/
namespace Go.Proofs.YtkmjmmnnnbjghaaGreat
set_option linter.unusedSimpArgs false
set_option linter.unusedVariables false
open Go.RowKit

set_option maxRecDepth 100000 in
set_option maxHeartbeats 2000000 in
theorem divide_err (p n o v rank : Int) (x lv : Value) (u : List (List Tm)) (vss : List (List (List Tm))) (w : World) (hu : Vl w x u) (hl : Wl w lv vss) (he : errDiv p n o v rank u vss ≠ 0) :
    Calls Tryz.prog 5 #[ringV p n o v, .int .i64 rank, x, lv] w fun e w' => e = .returned (.tuple #[.slice none 0 0, .slice none 0 0, .int .i64 (errDiv p n o v rank u vss)]) ∧ Below w.heap.size w w' := by
  obtain ⟨w1, hw1⟩ : ∃ w1, w1 = w.alloc (.cells #[.int .i64 p, .int .i64 n, .int .i64 o, .int .i64 v] 23) := ⟨_, rfl⟩
  have HB1 : Hid (Below w.heap.size w w1) := by rw [hw1]; exact belowNew
  have HX1 : Hid (BoxAt w1 w.heap.size p n o v) := by rw [hw1]; exact BoxAt.new w p n o v _
  have HC1 := hid (divCheck_any p n o v rank x lv u vss w1 (hu.below HB1.out) (hl.below HB1.out))
  obtain ⟨_, r0, r1, r2, r3⟩ := HX1.out
  generalize errDiv p n o v rank u vss = E at HC1 he ⊢
  have hE : (E != 0) = true := by simpa using he
  obtain ⟨xa, xc, rfl, _⟩ := hu
  obtain ⟨la, lc, rfl, _⟩ := hl
  unfold ringV at HC1 ⊢
  go_enter Tryz.func5, Tryz.ntmps5
  go_upto_region 1 with fail
  rw [← hw1]
  clear hw1
  go_wp2_with (go_at_call 16; refine HC1.out.mono ?_; rintro e w2 ⟨rfl, hb2⟩; have HB2 := hid hb2; clear hb2)
  go_ret3
  exact ⟨rfl, HB1.out.trans (HB2.out.mono HB1.out.size)⟩

end Go.Proofs.YtkmjmmnnnbjghaaGreat

/- checkDivide, one, divideBegun; what is too great. -/
namespace Go.Proofs.YtkmjmmnnnbjghaaGreat
set_option linter.unusedSimpArgs false
set_option linter.unusedVariables false
open Go.RowKit

set_option maxRecDepth 100000 in
set_option maxHeartbeats 2000000 in
theorem checkDivide_any (p n o v rank : Int) (x lv : Value) (u : List (List Tm)) (vss : List (List (List Tm))) (w : World) (hu : Vl w x u) (hl : Wl w lv vss) :
    Calls Tryz.prog 7 #[ringV p n o v, .int .i64 rank, x, lv] w fun e w' => e = .returned (.int .i64 (errDiv p n o v rank u vss)) ∧ Below w.heap.size w w' := by
  obtain ⟨w1, hw1⟩ : ∃ w1, w1 = w.alloc (.cells #[.int .i64 p, .int .i64 n, .int .i64 o, .int .i64 v] 23) := ⟨_, rfl⟩
  have HB1 : Hid (Below w.heap.size w w1) := by rw [hw1]; exact belowNew
  have HX1 : Hid (BoxAt w1 w.heap.size p n o v) := by rw [hw1]; exact BoxAt.new w p n o v _
  have HU := hid hu
  have HC1 := hid (checkVectors_any p n o v rank lv vss w1 (hl.below HB1.out))
  obtain ⟨xa, xc, rfl, _⟩ := hu
  obtain ⟨_, r0, r1, r2, r3⟩ := HX1.out
  by_cases h1 : errVecs p n o v rank vss = 0
  · have hR : errR p n o v = 0 := by
      unfold errVecs at h1
      by_cases h : errR p n o v = 0
      · exact h
      · rw [if_pos h] at h1; exact absurd h1 h
    have HE : Hid (errDiv p n o v rank u vss = errList p n o rank [u]) := by
      show _ = _
      unfold errDiv
      rw [if_neg (by simpa using h1)]
      unfold errVecs
      rw [if_neg (by simpa using hR)]
    have HC2 : Hid (∀ W, Below w1.heap.size w1 W → Calls Tryz.prog 32 #[ringV p n o v, .int .i64 rank, .slice (some ⟨W.heap.size, 0, none⟩) 1 1] (W.alloc (.cells #[.slice xa u.length xc] 25)) fun e w' => e = .returned (.int .i64 (errList p n o rank [u])) ∧ Below (W.alloc (.cells #[.slice xa u.length xc] 25)).heap.size (W.alloc (.cells #[.slice xa u.length xc] 25)) w') := fun W hb =>
      checkList_any p n o v rank _ [u] _ hR (wl_one (((HU.out.below HB1.out).below hb).below belowNew) (by simp) (by simp [go_sem]))
    rw [HE.out]
    rw [h1] at HC1
    unfold ringV at HC1 HC2 ⊢
    clear hl h1 hR
    go_enter Tryz.func7, Tryz.ntmps7
    go_upto_region 1 with fail
    rw [← hw1]
    clear hw1
    go_upto_region 3 with (go_at_call 31; refine HC1.out.mono ?_; rintro e w2 ⟨rfl, hb2⟩; have HB2 := hid hb2; have s0 := cell_keep r0 hb2; have s1 := cell_keep r1 hb2; have s2 := cell_keep r2 hb2; have s3 := cell_keep r3 hb2; clear hb2)
    go_wp2_with (go_at_call 32; refine (HC2.out _ HB2.out).mono ?_; rintro e w3 ⟨rfl, hb3⟩; have HB3 := hid hb3; clear hb3)
    go_ret
    exact ⟨rfl, (HB1.out.trans (HB2.out.mono HB1.out.size)).trans ((belowNew.trans (HB3.out.mono belowNew.size)).mono (HB1.out.trans (HB2.out.mono HB1.out.size)).size)⟩
  · have HE : Hid (errDiv p n o v rank u vss = errVecs p n o v rank vss) := by show _ = _; unfold errDiv; rw [if_pos h1]
    rw [HE.out]
    unfold ringV at HC1 ⊢
    generalize errVecs p n o v rank vss = E at HC1 h1
    have hb : (E == 0) = false := by simpa using h1
    go_enter Tryz.func7, Tryz.ntmps7
    go_upto_region 1 with fail
    rw [← hw1]
    clear hw1
    go_wp2_with (go_at_call 31; refine HC1.out.mono ?_; rintro e w2 ⟨rfl, hb2⟩; have HB2 := hid hb2; clear hb2)
    go_ret
    exact ⟨rfl, HB1.out.trans (HB2.out.mono HB1.out.size)⟩

/-- Where a division has come to its end it is the only one. -/
theorem Dv.uniq {p o ov : Int} {lss : List (List (List Tm))} {a b c : DS} (h : Dv p o ov lss a b) (k : Dv p o ov lss a c) (hb : dstep p o ov lss b = none) (hc : dstep p o ov lss c = none) : b = c := by
  rcases (Dv.linear h k hc).first with e | ⟨d, hd, _⟩
  · exact e
  · rw [hb] at hd; simp at hd
theorem dstep_end {p o ov : Int} {lss : List (List (List Tm))} {s : DS} (h : leadF o ov s.v s.v.length = none) : dstep p o ov lss s = none := by
  unfold dstep; rw [h]
theorem qs_at {tss : Bool → List (List TV)} {s : DS} (h : QS tss s) (b : Bool) (i : Nat) : ((tss b).getD i []).map tm = (if b then s.q else s.l).getD i [] := by
  have e : (tss b).map (List.map tm) = if b then s.q else s.l := by
    cases b
    · simpa using h.l
    · simpa using h.q
  rw [← e]
  simp only [List.getD_eq_getElem?_getD, List.getElem?_map]
  cases (tss b)[i]? <;> rfl
theorem great_pre {f g : List Tm} (h : f <+: g) (hg : greatB f = true) : greatB g = true := by
  by_cases hx : ∃ x ∈ g, 200 < sumI x.2
  · obtain ⟨x, hx, h2⟩ := hx
    exact great_large hx h2
  · have hs : ∀ x ∈ g, sumI x.2 ≤ 200 := fun x hx2 => by
      have hn : ¬ 200 < sumI x.2 := fun hlt => hx ⟨x, hx2, hlt⟩
      omega
    have hsf : ∀ x ∈ f, sumI x.2 ≤ 200 := fun x hx2 => hs x (h.subset hx2)
    rw [great_small hsf] at hg
    rw [great_small hs]
    have := h.length_le
    simp only [decide_eq_true_eq] at hg ⊢
    omega
theorem grt_great {p o ov : Int} {lss : List (List (List Tm))} {tss : Bool → List (List TV)} {s s2 : DS} (h : QS tss s) (hg : Grt tss) (hd : Dv p o ov lss s s2) : (s2.q.any greatB || s2.l.any greatB) = true := by
  obtain ⟨b, i, hi, hgr⟩ := hg
  have ha := qs_at h b i
  have hgb : greatB ((if b then s.q else s.l).getD i []) = true := by
    rw [← ha]
    rcases hgr with h1 | ⟨t, ht, h2⟩
    · by_cases hx : ∃ x ∈ ((tss b).getD i []).map tm, 200 < sumI x.2
      · obtain ⟨x, hx, h2⟩ := hx; exact great_large hx h2
      · rw [great_small (fun x hx2 => by have hn : ¬ 200 < sumI x.2 := fun hlt => hx ⟨x, hx2, hlt⟩; omega)]
        simpa using h1
    · exact great_large (List.mem_map.2 ⟨t, ht, rfl⟩) h2
  obtain ⟨p1, p2, p3, p4⟩ := hd.pre
  cases b
  · simp only [Bool.false_eq_true, if_false] at hgb
    have h5 := great_pre (p4 i) hgb
    have hil : i < s2.l.length := by
      rw [p2, ← h.l, List.length_map]; exact hi
    rw [Bool.or_eq_true]
    exact Or.inr (List.any_eq_true.2 ⟨_, getD_memL s2.l i hil, h5⟩)
  · simp only [if_true] at hgb
    have h5 := great_pre (p3 i) hgb
    have hil : i < s2.q.length := by
      rw [p1, ← h.q, List.length_map]; exact hi
    rw [Bool.or_eq_true]
    exact Or.inl (List.any_eq_true.2 ⟨_, getD_memL s2.q i hil, h5⟩)
theorem sml_small {tss : Bool → List (List TV)} {s : DS} (h : QS tss s) (hs : Sml tss) : s.q.any greatB = false ∧ s.l.any greatB = false := by
  have key : ∀ (b : Bool) (i : Nat), greatB ((if b then s.q else s.l).getD i []) = false := fun b i => by
    rw [← qs_at h b i]
    rw [great_small (fun x hx => by
      obtain ⟨t, ht, rfl⟩ := List.mem_map.1 hx
      exact (hs b i).2 t ht)]
    have := (hs b i).1
    simp only [List.length_map, decide_eq_false_iff_not]; omega
  constructor
  · rw [List.any_eq_false]
    intro f hf
    obtain ⟨i, hi, rfl⟩ := List.getElem_of_mem hf
    have := key true i
    simpa [List.getD_eq_getElem?_getD, hi] using this
  · rw [List.any_eq_false]
    intro f hf
    obtain ⟨i, hi, rfl⟩ := List.getElem_of_mem hf
    have := key false i
    simpa [List.getD_eq_getElem?_getD, hi] using this

end Go.Proofs.YtkmjmmnnnbjghaaGreat

/- divideBegun. -/
namespace Go.Proofs.YtkmjmmnnnbjghaaGreat
set_option linter.unusedSimpArgs false
set_option linter.unusedVariables false
open Go.RowKit

abbrev lB : List (List (List Tm)) := [[[(1, [1, 0])]]]
abbrev uB : List (List Tm) := [[(3, [1, 1]), (1, [0, 1])]]
abbrev qB : List (List Tm) := [[(3, [0, 1])]]
abbrev xB : List (List Tm) := [[(1, [0, 1])]]
theorem vl_oneB {w : World} {f : List Tm} {x : Value} {b c : Nat} (hf : Pl w x f) (hlt : b < w.heap.size) (c0 : w.cell? ⟨b, 0, none⟩ = some x) : Vl w (.slice (some ⟨b, 0, none⟩) 1 c) [f] := by
  refine ⟨_, c, rfl, fun _ => ⟨b, 0, rfl, hlt, fun i hi => ?_⟩⟩
  have e : i = 0 := by simp at hi; omega
  subst e
  exact ⟨x, c0, hf⟩
set_option maxRecDepth 100000 in
set_option maxHeartbeats 2000000 in
theorem one_any (w : World) : Calls Tryz.prog 43 #[] w fun e w' => ∃ a c, e = .returned (.slice a 1 c) ∧ Wl w' (.slice a 1 c) lB ∧ Below w.heap.size w w' := by
  go_enter Tryz.func43, Tryz.ntmps43
  go_wp2_with fail
  refine (term_any _ _ _ _ _).mono ?_
  rintro e w1 ⟨rfl, hb1⟩
  have HS1 := hid ((Sl.new2 w 1 0 _).below hb1)
  have HB1 := hid (show Below w.heap.size w w1 from below_one.trans (hb1.mono (by simp)))
  clear hb1
  have HV : Hid (∀ T T' T'', Wl (((w1.alloc (.cells #[.int .i64 1, .slice (some ⟨w.heap.size, 0, none⟩) 2 2] T)).alloc (.cells #[.slice (some ⟨w1.heap.size, 0, none⟩) 1 1] T')).alloc (.cells #[.slice (some ⟨w1.heap.size + 1, 0, none⟩) 1 1] T'')) (.slice (some ⟨w1.heap.size + 1 + 1, 0, none⟩) 1 1) lB) := fun T T' T'' => by
    have v1 : Vl ((w1.alloc (.cells #[.int .i64 1, .slice (some ⟨w.heap.size, 0, none⟩) 2 2] T)).alloc (.cells #[.slice (some ⟨w1.heap.size, 0, none⟩) 1 1] T')) (.slice (some ⟨w1.heap.size + 1, 0, none⟩) 1 1) [[(1, [1, 0])]] := vl_oneB ((pl_new1 HS1.out).below belowNew) (by simp) (by simp [go_sem])
    exact wl_one (v1.below belowNew) (by simp) (by simp [go_sem])
  go_wp2
  go_ret
  exact ⟨_, _, rfl, HV.out _ _ _, HB1.out.trans ((below_three).mono HB1.out.size)⟩
theorem dB1 : dstep 7 1 1 lB ⟨uB, [[]], [[]]⟩ = some ⟨[[(1, [0, 1])]], [[(3, [0, 1])]], [[]]⟩ := by kernel_rfl
theorem dB2 : dstep 7 1 1 lB ⟨[[(1, [0, 1])]], [[(3, [0, 1])]], [[]]⟩ = some ⟨[[]], qB, xB⟩ := by kernel_rfl
theorem dBv : Dv 7 1 1 lB ⟨uB, [[]], [[]]⟩ ⟨[[]], qB, xB⟩ := ((Dv.refl _).step dB1).step dB2
theorem dBe : leadF 1 1 [[]] 1 = none ∧ (qB.any greatB || xB.any greatB) = false ∧ errDiv 7 2 1 1 1 uB lB = 0 ∧ errDiv 7 2 1 1 1 xB lB = 0 ∧ nrmB 1 1 lB xB = true := by
  refine ⟨by decide +kernel, by decide +kernel, by decide +kernel, by decide +kernel, by decide +kernel⟩
theorem divB (x lv : Value) (w : World) (hx : Vl w x uB) (hl : Wl w lv lB) : Calls Tryz.prog 5 #[ringV 7 2 1 1, .int .i64 1, x, lv] w fun e w' => ∃ qa qc xa xc, e = .returned (.tuple #[.slice qa 1 qc, .slice xa 1 xc, .int .i64 0]) ∧ Vl w' (.slice qa 1 qc) qB ∧ Vl w' (.slice xa 1 xc) xB ∧ Below w.heap.size w w' := by
  refine (divide_ok 7 1 1 1 2 x lv uB lB w hx hl dBe.2.2.1).mono ?_
  rintro e w' ⟨hb, s, tss, hqs, hdv, h⟩
  have hdv2 : Dv 7 1 1 lB ⟨uB, [[]], [[]]⟩ s := hdv
  have hend : dstep 7 1 1 lB ⟨[[]], qB, xB⟩ = none := dstep_end dBe.1
  rcases h with ⟨qv, xv, rfl, hq, hxv, hld, _⟩ | ⟨rfl, hg⟩
  · have es := Dv.uniq hdv2 dBv (dstep_end hld) hend
    subst es
    obtain ⟨qa, qc, rfl, _⟩ := id hq
    obtain ⟨xa, xc, rfl, _⟩ := id hxv
    exact ⟨qa, qc, xa, xc, rfl, hq, hxv, hb⟩
  · have h1 := grt_great hqs hg (Dv.linear hdv2 dBv hend)
    rw [dBe.2.1] at h1
    cases h1

set_option maxRecDepth 100000 in
set_option maxHeartbeats 4000000 in
theorem divideBegun_any (w : World) : Calls Tryz.prog 11 #[] w fun e w' => e = .returned (.bool true) ∧ Below w.heap.size w w' := by
  go_enter Tryz.func11, Tryz.ntmps11
  go_wp2_with fail
  refine (xy_any _).mono ?_
  rintro e w1 ⟨rfl, hb1⟩
  have HB1 := hid hb1
  clear hb1
  go_wp2_with fail
  refine (term_any _ _ _ _ _).mono ?_
  rintro e w2 ⟨rfl, hb2⟩
  have HS2 := hid ((Sl.new2 w1 1 1 _).below hb2)
  have HB2 := hid (show Below w.heap.size w w2 from HB1.out.trans ((below_one.trans (hb2.mono (by simp))).mono HB1.out.size))
  clear hb2
  go_wp2_with fail
  refine (term_any _ _ _ _ _).mono ?_
  rintro e w3 ⟨rfl, hb3⟩
  have HS3 := hid ((HS2.out.below below_one).below hb3)
  have HT3 := hid ((Sl.new2 w2 0 1 _).below hb3)
  have HB3 := hid (show Below w.heap.size w w3 from HB2.out.trans ((below_one.trans (hb3.mono (by simp))).mono HB2.out.size))
  clear hb3
  have HV : Hid (∀ T T', Vl ((w3.alloc (.cells #[.int .i64 3, .slice (some ⟨w1.heap.size, 0, none⟩) 2 2, .int .i64 1, .slice (some ⟨w2.heap.size, 0, none⟩) 2 2] T)).alloc (.cells #[.slice (some ⟨w3.heap.size, 0, none⟩) 2 2] T')) (.slice (some ⟨w3.heap.size + 1, 0, none⟩) 1 1) uB) := fun T T' =>
    vl_oneB ((pl_new2 HS3.out HT3.out).below belowNew) (by simp) (by simp [go_sem])
  go_wp2_with fail
  refine (one_any _).mono ?_
  rintro e w4 ⟨la, lc, rfl, hl4, hb4⟩
  have HL4 := hid hl4
  have HV4 := hid ((HV.out _ _).below hb4)
  have HB4 := hid (show Below w.heap.size w w4 from HB3.out.trans ((below_two.trans (hb4.mono below_two.size)).mono HB3.out.size))
  clear hl4 hb4
  go_wp2_with fail
  refine (divB _ _ _ HV4.out HL4.out).mono ?_
  rintro e w5 ⟨qa, qc, xa, xc, rfl, hq5, hx5, hb5⟩
  have HQ5 := hid hq5
  have HX5 := hid hx5
  have HB5 := hid (HB4.out.trans (hb5.mono HB4.out.size))
  clear hq5 hx5 hb5
  go_wp2_with fail
  refine (xy_any _).mono ?_
  rintro e w6 ⟨rfl, hb6⟩
  have HQ6 := hid (HQ5.out.below hb6)
  have HX6 := hid (HX5.out.below hb6)
  have HB6 := hid (HB5.out.trans (hb6.mono HB5.out.size))
  clear hb6
  go_wp2_with fail
  refine (one_any _).mono ?_
  rintro e w7 ⟨ma, mc, rfl, hl7, hb7⟩
  have HL7 := hid hl7
  have HQ7 := hid (HQ6.out.below hb7)
  have HX7 := hid (HX6.out.below hb7)
  have HB7 := hid (HB6.out.trans (hb7.mono HB6.out.size))
  clear hl7 hb7
  have HN7 : Hid (Calls Tryz.prog 6 #[ringV 7 2 1 1, .int .i64 1, .slice xa 1 xc, .slice ma 1 mc] w7 fun e w' => e = .returned (.tuple #[.bool true, .int .i64 0]) ∧ Below w7.heap.size w7 w') := by
    have h := normal_ok 7 1 1 1 2 (.slice xa 1 xc) (.slice ma 1 mc) xB lB w7 HX7.out HL7.out dBe.2.2.2.1
    rw [dBe.2.2.2.2] at h
    exact h
  go_wp2_with fail
  refine HN7.out.mono ?_
  rintro e w8 ⟨rfl, hb8⟩
  have HQ8 := hid (HQ7.out.below hb8)
  have HX8 := hid (HX7.out.below hb8)
  have HB8 := hid (HB7.out.trans (hb8.mono HB7.out.size))
  clear hb8 HN7
  obtain ⟨b, off, fa, fc, hqa, hlt, c1, hpl⟩ := vl_at (fss := qB) HQ8.out 0 (by simp)
  subst hqa
  have c1' : w8.cell? ⟨b, off, none⟩ = some (.slice fa 1 fc) := c1
  obtain ⟨b2, off2, ea, ec, hfa, hlt2, e0, _, _⟩ := pl_first (t := (3, [0, 1])) (ts := []) hpl
  subst hfa
  simp only at e0
  obtain ⟨b3, off3, ga, gc, hxa, hlt3, c3, _⟩ := vl_at (fss := xB) HX8.out 0 (by simp)
  subst hxa
  have c3' : w8.cell? ⟨b3, off3, none⟩ = some (.slice ga 1 gc) := c3
  clear c1 c3 hpl
  go_wp2
  go_ret
  exact ⟨rfl, HB8.out⟩

end Go.Proofs.YtkmjmmnnnbjghaaGreat

/- DivideDivides, walked. -/
namespace Go.Proofs.YtkmjmmnnnbjghaaGreat
set_option linter.unusedSimpArgs false
set_option linter.unusedVariables false
open Go.RowKit

theorem dstep_lead {p o ov : Int} {lss : List (List (List Tm))} {s : DS} (h : dstep p o ov lss s = none) : leadF o ov s.v s.v.length = none := by
  unfold dstep at h
  split at h
  · assumption
  · split at h <;> simp at h
/-- Each division ends. -/
theorem dv_end {p o ov : Int} {N R : Nat} (hx : RCx p o ov N R) {lss : List (List (List Tm))} (hl : LOk p o N R lss) : ∀ (n : Nat) (s : DS), DInv p o ov N R lss s → dms o ov s.v ≤ n → ∃ f, Dv p o ov lss s f ∧ DInv p o ov N R lss f ∧ dstep p o ov lss f = none
  | 0, s, hi, hn => by
    cases hd : dstep p o ov lss s with
    | none => exact ⟨s, Dv.refl _, hi, hd⟩
    | some s2 => have := dms_lt hx hl hi hd; omega
  | n + 1, s, hi, hn => by
    cases hd : dstep p o ov lss s with
    | none => exact ⟨s, Dv.refl _, hi, hd⟩
    | some s2 =>
      have := dms_lt hx hl hi hd
      obtain ⟨f, h1, h2, h3⟩ := dv_end hx hl n s2 (dinv_step hx hl hi hd).1 (by omega)
      exact ⟨f, ((Dv.refl _).step hd).trans h1, h2, h3⟩
theorem okp_inv {p o ov : Int} {N R : Nat} (hx : RCx p o ov N R) {lss : List (List (List Tm))} {s : DS} (h : DInv p o ov N R lss s) : (∀ f ∈ s.q, OkP f) ∧ ∀ f ∈ s.l, OkP f := by
  have h0 := hx.n0
  have h3 := hx.n3
  constructor
  · intro f hf
    obtain ⟨i, hi, rfl⟩ := List.getElem_of_mem hf
    have e : s.q.getD i [] = s.q[i] := by simp [List.getD_eq_getElem?_getD, hi]
    rw [← e]
    obtain ⟨c1, c2, c3⟩ := h.qok i
    have hb : ∀ t ∈ s.q.getD i [], ∀ x ∈ t.2, 0 ≤ x ∧ x ≤ 8000 := fun t ht x hx2 => by
      have h1 := le_sumI (c2 t ht) x hx2
      have h2 := c3 t ht
      exact ⟨c2 t ht x hx2, by omega⟩
    have hlen := canon_short hx.n3 c1 hb
    exact ⟨by omega, fun t ht => ⟨by rw [c1.len t ht]; omega, by rw [c1.len t ht]; omega, fun x hx2 => by have := hb t ht x hx2; omega⟩⟩
  · intro f hf
    obtain ⟨c1, hb, hlen⟩ := vok_bd hx h.lok h.ll f hf
    exact ⟨by omega, fun t ht => ⟨by rw [c1.len t ht]; omega, by rw [c1.len t ht]; omega, fun x hx2 => by have := hb t ht x hx2; omega⟩⟩
theorem vl_nil (w : World) : Vl w (.slice none 0 0) [] := ⟨none, 0, rfl, fun h => by simp at h⟩
/-- What the three answer, by where the division ends. -/
structure FinD (p o v rank : Int) (N R : Nat) (x lv : Value) (u : List (List Tm)) (vss : List (List (List Tm))) (w1 : World) (f : DS) : Prop where
  ok : (∀ g ∈ f.q, OkP g) ∧ ∀ g ∈ f.l, OkP g
  ql : f.q.length ≤ 1000
  ll : f.l.length ≤ 1000
  small : f.q.any greatB = false → f.l.any greatB = false → ∀ W, Below w1.heap.size w1 W → Calls Tryz.prog 5 #[ringV p N o v, .int .i64 rank, x, lv] W fun e w' => ∃ qa qc xa xc, e = .returned (.tuple #[.slice qa f.q.length qc, .slice xa f.l.length xc, .int .i64 0]) ∧ Vl w' (.slice qa f.q.length qc) f.q ∧ Vl w' (.slice xa f.l.length xc) f.l ∧ Below W.heap.size W w'
  great : (f.q.any greatB || f.l.any greatB) = true → ∀ W, Below w1.heap.size w1 W → Calls Tryz.prog 5 #[ringV p N o v, .int .i64 rank, x, lv] W fun e w' => e = .returned (.tuple #[.slice none 0 0, .slice none 0 0, .int .i64 2]) ∧ Below W.heap.size W w'
  ref : ∀ W, Below w1.heap.size w1 W → Calls Tryz.prog 8 #[ringV p N o v, x, lv] W fun e w' => ∃ qa qc xa xc, e = .returned (.tuple #[.slice qa f.q.length qc, .slice xa f.l.length xc]) ∧ Vl w' (.slice qa f.q.length qc) f.q ∧ Vl w' (.slice xa f.l.length xc) f.l ∧ Below W.heap.size W w'
  nrm : ∀ W, Below w1.heap.size w1 W → Calls Tryz.prog 9 #[ringV p N o v, x, lv] W fun e w' => e = .returned (.bool (nrmB o v vss u)) ∧ Below W.heap.size W w'
theorem fin_all {p o v rank : Int} {N : Nat} {x lv : Value} {u : List (List Tm)} {vss : List (List (List Tm))} {w1 : World} (hu : Vl w1 x u) (hl : Wl w1 lv vss) (he : errDiv p N o v rank u vss = 0) : ∃ (R : Nat) (f : DS), rank = (R : Int) ∧ RCx p o v N R ∧ LOk p o N R vss ∧ (∀ g ∈ vss, ∀ f ∈ g, Right p o N f) ∧ u.length = R ∧ (∀ f ∈ u, Right p o N f) ∧ 1 ≤ R ∧ Dv p o v vss ⟨u, List.replicate vss.length [], List.replicate R []⟩ f ∧ DInv p o v N R vss f ∧ dstep p o v vss f = none ∧ vss.length ≤ 60 ∧ FinD p o v rank N R x lv u vss w1 f := by
  obtain ⟨R, hR, hx, hlo, hrl, hll, hul, hur, hR1⟩ := errDiv_ok he
  have hi := dinv_start (lss := vss) hx.ov hul hur
  obtain ⟨f, h1, h2, h3⟩ := dv_end hx hlo _ _ hi (Nat.le_refl _)
  have hR40 := hx.r
  refine ⟨R, f, hR, hx, hlo, hrl, hul, hur, hR1, h1, h2, h3, hll, okp_inv hx h2, by rw [h2.ql]; omega, by rw [h2.ll]; omega, fun g1 g2 W hb => ?_, fun g W hb => ?_, fun W hb => ?_, fun W hb => ?_⟩
  · refine (divide_ok p o v rank N x lv u vss W (hu.below hb) (hl.below hb) he).mono ?_
    rintro e w' ⟨hb2, s, tss, hqs, hdv, h⟩
    rw [hul] at hdv
    rcases h with ⟨qv, xv, rfl, hq, hxv, hld, _⟩ | ⟨rfl, hg⟩
    · have es := Dv.uniq hdv h1 (dstep_end hld) h3
      subst es
      obtain ⟨qa, qc, rfl, _⟩ := id hq
      obtain ⟨xa, xc, rfl, _⟩ := id hxv
      exact ⟨qa, qc, xa, xc, rfl, hq, hxv, hb2⟩
    · have h9 := grt_great hqs hg (Dv.linear hdv h1 h3)
      rw [g1, g2] at h9
      cases h9
  · refine (divide_ok p o v rank N x lv u vss W (hu.below hb) (hl.below hb) he).mono ?_
    rintro e w' ⟨hb2, s, tss, hqs, hdv, h⟩
    rw [hul] at hdv
    rcases h with ⟨qv, xv, rfl, hq, hxv, hld, hsm⟩ | ⟨rfl, hg⟩
    · have es := Dv.uniq hdv h1 (dstep_end hld) h3
      subst es
      obtain ⟨k1, k2⟩ := sml_small hqs hsm
      rw [k1, k2] at g
      cases g
    · exact ⟨rfl, hb2⟩
  · refine (divideOf_any p o v N R x lv u vss W hx hlo hll hrl hul hR1 hur (hu.below hb) (hl.below hb)).mono ?_
    rintro e w' ⟨qv, xv, s, rfl, hq, hxv, hdv, _, hld, hb2⟩
    have es := Dv.uniq hdv h1 (dstep_end hld) h3
    subst es
    obtain ⟨qa, qc, rfl, _⟩ := id hq
    obtain ⟨xa, xc, rfl, _⟩ := id hxv
    exact ⟨qa, qc, xa, xc, rfl, hq, hxv, hb2⟩
  · exact normalOf_any p o v N R x lv u vss W hx hlo hll hrl hul hur (hu.below hb) (hl.below hb)
theorem fin_of {p o v rank : Int} {N : Nat} {x lv : Value} {u : List (List Tm)} {vss : List (List (List Tm))} {w1 : World} (hu : Vl w1 x u) (hl : Wl w1 lv vss) (he : errDiv p N o v rank u vss = 0) : ∃ R f, FinD p o v rank N R x lv u vss w1 f := by
  obtain ⟨R, f, _, _, _, _, _, _, _, _, _, _, _, h⟩ := fin_all hu hl he
  exact ⟨R, f, h⟩

end Go.Proofs.YtkmjmmnnnbjghaaGreat

/- CheckCombine of the reference where all is right. Printed by genWU.py. -/
namespace Go.Proofs.YtkmjmmnnnbjghaaGreat
set_option linter.unusedSimpArgs false
set_option linter.unusedVariables false
open Go.RowKit

theorem topF_range {c : List Tm} (hl : ∀ t ∈ c, 0 < t.2.length ∧ t.2.length ≤ 3 ∧ ∀ x ∈ t.2, 0 ≤ x ∧ x ≤ 40000) : -1 ≤ topF (-1) c ∧ topF (-1) c ≤ 120000 :=
  topF_bd c (-1) (fun t ht => by
    have h1 := hl t ht
    have h2 := sumI_bd t.2 h1.2.2
    have h3 : (t.2.length : Int) ≤ 3 := by omega
    omega) (by omega)
/-- Take number i first; where it writes is said by number. -/
theorem takeD {P : Program} {ops : Array Oper} {Q : Exit → Act → World → Prop} {md : Region.Mode} {S : World → Prop} {i : Nat} {oi : Oper} {d : Option Tmp} {v : Value} {fuel : Nat} {listed : Array Bool} {a : Act} {w : World} (hi : ops[i]? = some oi) (hd : oi.dst = d)
    (hs : Region.noSelect ops = true) (hf : Region.free md ops listed i = true) (hr : (Region.ready md ops listed).contains i = true)
    (hQ : ∀ c a w, Q (.panic c) (a.put d v) w → Q (.panic c) a w) (hy : YieldsIf P ops S oi v a) (hS : S w)
    (h : wpAnyH P md ops Q S fuel (listed.setIfInBounds i true) (a.put d v) w) : wpAnyH P md ops Q S (fuel + 1) listed a w := by
  subst hd
  exact wpAnyH_take hi hs hf hr hQ hy hS h

end Go.Proofs.YtkmjmmnnnbjghaaGreat

/- Combine of the program: the mathematics, vector.each with its closure, combinePlace. Printed by genWV.py. -/
namespace Go.Proofs.YtkmjmmnnnbjghaaGreat
set_option linter.unusedSimpArgs false
set_option linter.unusedVariables false
open Go.RowKit

/-- That the degrees' sum is too great is told by the product. -/
theorem many_great {p o : Int} {N : Nat} (he : errP p = 0) {c f : List Tm} (hc : Right p o N c) (hf : Right p o N f) : manyC p o c f = greatB (colL p o (prodL p c f)) := by
  unfold manyC
  cases c with
  | nil => simp
  | cons t c =>
    cases f with
    | nil => simp
    | cons u f =>
      cases hg : greatB (colL p o (prodL p (t :: c) (u :: f)))
      · rw [great_prod he hc.canon hf.canon] at hg
        have h2 := of_decide_eq_false (Bool.or_eq_false_iff.1 hg).1
        have b1 := sumI_bd t.2 (fun x hx => by have := hc.bd t (by simp) x hx; omega)
        have b2 := sumI_bd u.2 (fun x hx => by have := hf.bd u (by simp) x hx; omega)
        have a1 : topF (-1) (t :: c) ≤ sumI t.2 := topF_le _ _ (right_head hc.canon) (by omega)
        have a2 : topF (-1) (u :: f) ≤ sumI u.2 := topF_le _ _ (right_head hf.canon) (by omega)
        have h3 : ¬ 200 < topF (-1) (t :: c) + topF (-1) (u :: f) := by omega
        rw [decide_eq_false h3, Bool.and_false, Bool.false_or]
      · rw [Bool.or_true]
/-- The product of number i, at place k. -/
def prK (p o : Int) (cs : List (List Tm)) (vss : List (List (List Tm))) (k i : Nat) : List Tm := colL p o (prodL p (cs.getD i []) ((vss.getD i []).getD k []))
def prKs (p o : Int) (cs : List (List Tm)) (vss : List (List (List Tm))) (k m : Nat) : List (List Tm) := (List.range m).map (prK p o cs vss k)
/-- All polynomials are right. -/
structure AllR (p o : Int) (N R : Nat) (cs : List (List Tm)) (vss : List (List (List Tm))) : Prop where
  c : ∀ c ∈ cs, Right p o N c
  v : ∀ u ∈ vss, u.length = R ∧ ∀ f ∈ u, Right p o N f
  l : cs.length = vss.length
theorem AllR.at {p o : Int} {N R : Nat} {cs : List (List Tm)} {vss : List (List (List Tm))} (h : AllR p o N R cs vss) {k i : Nat} (hi : i < vss.length) (hk : k < R) : Right p o N (cs.getD i []) ∧ Right p o N ((vss.getD i []).getD k []) := by
  have h1 := h.v _ (getD_memV vss i hi)
  exact ⟨h.c _ (getD_memL cs i (by rw [h.l]; exact hi)), h1.2 _ (getD_memL _ k (by rw [h1.1]; exact hk))⟩
theorem AllR.pr {p o : Int} {N R : Nat} {cs : List (List Tm)} {vss : List (List (List Tm))} (hp : 2 ≤ p) (h : AllR p o N R cs vss) {k i : Nat} (hi : i < vss.length) (hk : k < R) : Canon p o N (prK p o cs vss k i) ∧ Bd (prK p o cs vss k i) := by
  obtain ⟨h1, h2⟩ := h.at hi hk
  refine ⟨Okl.col hp (Okl.prod hp h1.canon.okl h2.canon.okl), fun t ht x hx => ?_⟩
  obtain ⟨y, hy, ey⟩ := col_mem ht
  rw [ey] at hx
  exact (prodL_tok hp h1.canon.len h2.canon.len h1.bd h2.bd y hy).2.1 x hx
theorem okl_flat {p : Int} {n : Nat} : ∀ {fss : List (List Tm)}, (∀ f ∈ fss, Okl p n f) → Okl p n fss.flatten
  | [], _ => ⟨fun t ht => by simp at ht, fun t ht => by simp at ht⟩
  | f :: r, h => by rw [List.flatten_cons]; exact (h f (by simp)).append (okl_flat (fun g hg => h g (by simp [hg])))
theorem prKs_succ (p o : Int) (cs : List (List Tm)) (vss : List (List (List Tm))) (k m : Nat) : prKs p o cs vss k (m + 1) = prKs p o cs vss k m ++ [prK p o cs vss k m] := range_snoc _ _
theorem prKs_mem {p o : Int} {cs : List (List Tm)} {vss : List (List (List Tm))} {k m : Nat} {f : List Tm} (h : f ∈ prKs p o cs vss k m) : ∃ i, i < m ∧ f = prK p o cs vss k i := by
  obtain ⟨i, hi, e⟩ := List.mem_map.1 h
  exact ⟨i, List.mem_range.1 hi, e.symm⟩
theorem AllR.okl {p o : Int} {N R : Nat} {cs : List (List Tm)} {vss : List (List (List Tm))} (hp : 2 ≤ p) (h : AllR p o N R cs vss) {k m : Nat} (hm : m ≤ vss.length) (hk : k < R) : Okl p N (prKs p o cs vss k m).flatten :=
  okl_flat (fun f hf => by obtain ⟨i, hi, rfl⟩ := prKs_mem hf; exact (h.pr hp (by omega) hk).1.okl)
/-- Added up one by one, or all at once. -/
theorem combO_at {p o : Int} {N R : Nat} {cs : List (List Tm)} {vss : List (List (List Tm))} (hp : 2 ≤ p) (h : AllR p o N R cs vss) {k : Nat} (hk : k < R) : ∀ m, m ≤ vss.length → (combO p o R cs vss m).length = R ∧ (combO p o R cs vss m).getD k [] = colL p o (prKs p o cs vss k m).flatten
  | 0, _ => ⟨by simp [combO], by simp [combO, prKs, List.getD_eq_getElem?_getD, hk]; rfl⟩
  | m + 1, hm => by
    obtain ⟨h1, h2⟩ := combO_at hp h hk m (by omega)
    have hv := h.v _ (getD_memV vss m (by omega))
    have hpl : (prods p o (cs.getD m []) (vss.getD m [])).length = R := by unfold prods; rw [List.length_map]; exact hv.1
    refine ⟨by simp only [combO]; rw [sums_len (by rw [h1, hpl])]; exact h1, ?_⟩
    simp only [combO]
    rw [sums_at (by rw [h1, hpl]) (by rw [h1]; exact hk), h2]
    have e : (prods p o (cs.getD m []) (vss.getD m [])).getD k [] = prK p o cs vss k m := by
      unfold prods prK
      exact getD_mapL _ _ k (by rw [hv.1]; exact hk)
    rw [e, prKs_succ, List.flatten_append]
    have e2 : [prK p o cs vss k m].flatten = prK p o cs vss k m := by simp
    rw [e2]
    have o1 := h.okl hp (k := k) (m := m) (by omega) hk
    have o2 := (h.pr hp (i := m) (by omega) hk).1.okl
    exact Same.col hp ((Okl.col (o := o) hp o1).okl.append o2) (o1.append o2) (Same.append (same_col p o _) (Same.refl p _))
/-- What is told of a place, and what is made there. -/
def cmE (p o : Int) (cs : List (List Tm)) (vss : List (List (List Tm))) (m k : Nat) : Int := if (prKs p o cs vss k m).any greatB = true ∨ 2000 < (colL p o (prKs p o cs vss k m).flatten).length then 2 else 0
def cmR (p o : Int) (cs : List (List Tm)) (vss : List (List (List Tm))) (m k : Nat) : List Tm := if cmE p o cs vss m k = 0 then colL p o (prKs p o cs vss k m).flatten else []
theorem cm_great {p o : Int} {cs : List (List Tm)} {vss : List (List (List Tm))} {m k i : Nat} (hi : i < m) (h : greatB (prK p o cs vss k i) = true) : cmE p o cs vss m k = 2 ∧ cmR p o cs vss m k = [] := by
  have e : cmE p o cs vss m k = 2 := by
    have hany : (prKs p o cs vss k m).any greatB = true := List.any_eq_true.2 ⟨prK p o cs vss k i, List.mem_map.2 ⟨i, List.mem_range.2 hi, rfl⟩, h⟩
    unfold cmE
    rw [if_pos (Or.inl hany)]
  exact ⟨e, by unfold cmR; rw [e]; rfl⟩
theorem cm_none {p o : Int} {cs : List (List Tm)} {vss : List (List (List Tm))} {m k : Nat} (h : ∀ i, i < m → greatB (prK p o cs vss k i) = false) : (prKs p o cs vss k m).any greatB = false := by
  rw [List.any_eq_false]
  intro f hf
  obtain ⟨i, hi, rfl⟩ := prKs_mem hf
  rw [h i hi]; simp
theorem cm_long {p o : Int} {cs : List (List Tm)} {vss : List (List (List Tm))} {m k : Nat} (h : 2000 < (colL p o (prKs p o cs vss k m).flatten).length) : cmE p o cs vss m k = 2 ∧ cmR p o cs vss m k = [] := by
  have e : cmE p o cs vss m k = 2 := by unfold cmE; rw [if_pos (Or.inr h)]
  exact ⟨e, by unfold cmR; rw [e]; rfl⟩
theorem cm_ok {p o : Int} {cs : List (List Tm)} {vss : List (List (List Tm))} {m k : Nat} (h : ∀ i, i < m → greatB (prK p o cs vss k i) = false) (h2 : ¬ 2000 < (colL p o (prKs p o cs vss k m).flatten).length) : cmE p o cs vss m k = 0 ∧ cmR p o cs vss m k = colL p o (prKs p o cs vss k m).flatten := by
  have e : cmE p o cs vss m k = 0 := by unfold cmE; rw [if_neg (by rw [cm_none h]; rintro (h | h); cases h; exact h2 h)]
  exact ⟨e, by unfold cmR; rw [e]; rfl⟩
theorem great_deg {ts : List Tm} (h : greatB ts = false) : ∀ x ∈ ts, sumI x.2 ≤ 200 := fun x hx => by
  by_cases h2 : 200 < sumI x.2
  · rw [great_large hx h2] at h; cases h
  · omega
/-- Where no product is too great, the sum is so just if it has too many terms. -/
theorem cm_sum {p o : Int} {cs : List (List Tm)} {vss : List (List (List Tm))} {m k : Nat} (h : ∀ i, i < m → greatB (prK p o cs vss k i) = false) : greatB (colL p o (prKs p o cs vss k m).flatten) = decide (2000 < (colL p o (prKs p o cs vss k m).flatten).length) := by
  refine great_small (fun x hx => ?_)
  obtain ⟨y, hy, ey⟩ := col_mem hx
  obtain ⟨f, hf, hyf⟩ := List.mem_flatten.1 hy
  obtain ⟨i, hi, rfl⟩ := prKs_mem hf
  rw [ey]
  exact great_deg (h i hi) y hyf
theorem firstN_two {E : Nat → Int} {m : Nat} (h : ∀ k, k < m → E k = 0 ∨ E k = 2) : (firstN E m 0 = 0 ∧ ∀ k, k < m → E k = 0) ∨ (firstN E m 0 = 2 ∧ ∃ k, k < m ∧ E k = 2) := by
  by_cases hz : ∀ k, k < m → E k = 0
  · exact Or.inl ⟨firstN_all hz, hz⟩
  · refine Or.inr ?_
    have hex : ∀ d, d ≤ m → (∀ k, k < d → E k = 0) ∨ ∃ k, k < d ∧ E k ≠ 0 ∧ ∀ j, j < k → E j = 0 := by
      intro d
      induction d with
      | zero => intro _; exact Or.inl (fun k hk => by omega)
      | succ d ih =>
        intro hd
        rcases ih (by omega) with h1 | ⟨k, h1, h2, h3⟩
        · by_cases h4 : E d = 0
          · exact Or.inl (fun k hk => by
              by_cases h5 : k < d
              · exact h1 k h5
              · rw [show k = d by omega]; exact h4)
          · exact Or.inr ⟨d, by omega, h4, h1⟩
        · exact Or.inr ⟨k, by omega, h2, h3⟩
    rcases hex m (Nat.le_refl _) with h1 | ⟨k, h1, h2, h3⟩
    · exact absurd h1 hz
    · have h4 : E k = 2 := (h k h1).resolve_left h2
      exact ⟨by rw [firstN_hit h1 h3 h2, h4], k, h1, h4⟩
theorem cm_two (p o : Int) (cs : List (List Tm)) (vss : List (List (List Tm))) (m k : Nat) : cmE p o cs vss m k = 0 ∨ cmE p o cs vss m k = 2 := by
  unfold cmE; split
  · exact Or.inr rfl
  · exact Or.inl rfl
open Classical in
/-- All of it: what the places tell is what CheckCombine tells. -/
theorem comb_all {p n o v : Int} {N R : Nat} {cs : List (List Tm)} {vss : List (List (List Tm))} (he : errP p = 0) (hp : 2 ≤ p) (h : AllR p o N R cs vss) (hv0 : errVecs p n o v (R : Int) vss = 0) (hp0 : errPolys p n o v cs = 0) :
    firstN (cmE p o cs vss vss.length) R 0 = errComb p n o v (R : Int) cs vss ∧ eachR (cmE p o cs vss vss.length) (cmR p o cs vss vss.length) R = if errComb p n o v (R : Int) cs vss = 0 then combO p o R cs vss vss.length else [] := by
  have hmany : ∀ i, i < vss.length → ∀ k, k < R → manyC p o (cs.getD i []) ((vss.getD i []).getD k []) = greatB (prK p o cs vss k i) := fun i hi k hk => many_great he (h.at hi hk).1 (h.at hi hk).2
  have hdef : errComb p n o v (R : Int) cs vss = if (∃ i, i < vss.length ∧ ∃ k : Nat, (k : Int) < (R : Int) ∧ manyC p o (cs.getD i []) ((vss.getD i []).getD k []) = true) ∨ (combO p o R cs vss vss.length).any greatB = true then 2 else 0 := by
    unfold errComb
    rw [if_neg (by rw [hv0]; simp), if_neg (by rw [h.l]; simp), if_neg (by rw [hp0]; simp), Int.toNat_natCast]
  rcases firstN_two (E := cmE p o cs vss vss.length) (m := R) (fun k _ => cm_two p o cs vss vss.length k) with ⟨h1, h2⟩ | ⟨h1, k, hk, h2⟩
  · have hg : ∀ k, k < R → ∀ i, i < vss.length → greatB (prK p o cs vss k i) = false := fun k hk i hi => by
      cases hgk : greatB (prK p o cs vss k i)
      · rfl
      · have := (cm_great hi hgk).1
        rw [h2 k hk] at this
        exact absurd this (by decide)
    have hn : ∀ k, k < R → ¬ 2000 < (colL p o (prKs p o cs vss k vss.length).flatten).length := fun k hk h3 => by
      have := (cm_long h3).1
      rw [h2 k hk] at this
      exact absurd this (by decide)
    have hz : errComb p n o v (R : Int) cs vss = 0 := by
      rw [hdef, if_neg]
      rintro (⟨i, hi, k, hk, h3⟩ | h3)
      · rw [hmany i hi k (by omega), hg k (by omega) i hi] at h3
        cases h3
      · obtain ⟨f, hf, hgf⟩ := List.any_eq_true.1 h3
        obtain ⟨k, hk, rfl⟩ := List.getElem_of_mem hf
        have hkR : k < R := by
          by_cases hR : 0 < R
          · rw [(combO_at hp h hR vss.length (Nat.le_refl _)).1] at hk; exact hk
          · have hR0 : R = 0 := by omega
            subst hR0
            exfalso
            have : (combO p o 0 cs vss vss.length) = [] := by
              have hh : ∀ m, combO p o 0 cs vss m = [] := by
                intro m
                induction m with
                | zero => rfl
                | succ m ih => simp only [combO]; rw [ih]; rfl
              exact hh _
            rw [this] at hk
            simp at hk
        have e := (combO_at hp h hkR vss.length (Nat.le_refl _)).2
        rw [List.getD_eq_getElem?_getD, List.getElem?_eq_getElem hk, Option.getD_some] at e
        rw [e, cm_sum (hg k hkR), decide_eq_false (hn k hkR)] at hgf
        cases hgf
    refine ⟨by rw [h1, hz], ?_⟩
    rw [if_pos hz, eachR_ok h1]
    by_cases hR : 0 < R
    · have hlen := (combO_at hp h hR vss.length (Nat.le_refl _)).1
      refine List.ext_getElem (by rw [List.length_map, List.length_range, hlen]) (fun k hk1 hk2 => ?_)
      rw [List.getElem_map, List.getElem_range]
      have hkR : k < R := by rw [hlen] at hk2; exact hk2
      have e := (combO_at hp h hkR vss.length (Nat.le_refl _)).2
      rw [List.getD_eq_getElem?_getD, List.getElem?_eq_getElem hk2, Option.getD_some] at e
      rw [e, (cm_ok (hg k hkR) (hn k hkR)).2]
    · have hR0 : R = 0 := by omega
      subst hR0
      have hh : ∀ m, combO p o 0 cs vss m = [] := by
        intro m
        induction m with
        | zero => rfl
        | succ m ih => simp only [combO]; rw [ih]; rfl
      rw [hh]; rfl
  · have hz : errComb p n o v (R : Int) cs vss = 2 := by
      rw [hdef, if_pos]
      by_cases hg : ∀ i, i < vss.length → greatB (prK p o cs vss k i) = false
      · refine Or.inr ?_
        have e := (combO_at hp h hk vss.length (Nat.le_refl _))
        refine List.any_eq_true.2 ⟨_, getD_memL _ k (by rw [e.1]; exact hk), ?_⟩
        rw [e.2, cm_sum hg]
        by_cases h3 : 2000 < (colL p o (prKs p o cs vss k vss.length).flatten).length
        · exact decide_eq_true h3
        · rw [(cm_ok hg h3).1] at h2
          exact absurd h2 (by decide)
      · refine Or.inl ?_
        obtain ⟨i, h3⟩ := Classical.not_forall.1 hg
        obtain ⟨hi, h4⟩ := Classical.not_imp.1 h3
        refine ⟨i, hi, k, by omega, ?_⟩
        rw [hmany i hi k hk]
        simpa using h4
    refine ⟨by rw [h1, hz], ?_⟩
    rw [hz, if_neg (by decide), eachR_bad (by rw [h1]; decide)]

set_option maxRecDepth 100000 in
set_option maxHeartbeats 2000000 in
theorem eachC_any (rb cb lb : Nat) (x : Value) (fss : List (List Tm)) (E : Nat → Int) (R : Nat → List Tm) (w : World) (hm : fss.length ≤ 1000) (pf : Vl w x fss)
    (H : ∀ i w' fa fc, i < fss.length → Below w.heap.size w w' → Pl w' (.slice fa (fss.getD i []).length fc) (fss.getD i []) → Calls Tryz.prog 50 #[.int .i64 i, .slice fa (fss.getD i []).length fc, .pointer (some ⟨rb, 0, none⟩), .pointer (some ⟨cb, 0, none⟩), .pointer (some ⟨lb, 0, none⟩)] w' fun e w'' => ∃ u, e = .returned (.tuple #[u, .int .i64 (E i)]) ∧ Pl w'' u (R i) ∧ Below w'.heap.size w' w'') :
    Calls Tryz.prog 49 #[x, .func (.func 50) #[] #[.pointer (some ⟨rb, 0, none⟩), .pointer (some ⟨cb, 0, none⟩), .pointer (some ⟨lb, 0, none⟩)]] w fun e w' => ∃ u, e = .returned (.tuple #[u, .int .i64 (firstN E fss.length 0)]) ∧ Vl w' u (eachR E R fss.length) ∧ Below w.heap.size w w' := by
  have HX := hid pf
  have HH := hid H
  obtain ⟨ax, cx, rfl, _⟩ := pf
  obtain ⟨i0, hi, hz0, hz1, hz2⟩ := info_parts Tryz.infoPolyW
  clear H
  go_enter Tryz.func49, Tryz.ntmps49
  go_wp2_with (at_make; refine wpList_make_full _ rfl _ _ 25 rfl w.heap.size 54 i0 _ 1 Tryz.underlying25 hi hz0 hz1 .i64 .i64 _ _ fss.length rfl rfl rfl rfl (by rw [hz2]; omega) (by unfold maxLen; omega) (Nat.le_refl _) ?_; intro w1 hown hgrow; have HV0 := hid (VHalf.made hown hgrow); clear hown hgrow)
  clear hi hz0 hz1 hz2
  go_loopw [16] (fun i wr => ∃ (k : Nat) (us : List Value), k ≤ fss.length ∧ i = .int .i64 k ∧ us.length = k ∧ (∀ j, j < k → E j = 0) ∧ VHalf w wr w.heap.size fss.length us ((List.range k).map R)) (fun i _ => fss.length - (intOf i).toNat)
  case atStart => exact ⟨0, [], Nat.zero_le _, rfl, rfl, fun j hj => by omega, HV0.out⟩
  case round =>
    clear HV0
    obtain ⟨k, us, hk, rfl, hul, hz, hv⟩ := hrel
    have HZ := hid hz
    have HV := hid hv
    have HUL := hid hul
    clear hz hv hul
    by_cases hk2 : k < fss.length
    · obtain ⟨b, off, fa, fc, rfl, hlt, c0, hpf⟩ := vl_at HX.out k hk2
      have d0 := cell_keep c0 HV.out.below
      have HC := hid (HH.out k wr fa fc hk2 HV.out.below (hpf.below HV.out.below))
      have HHIT := hid (fun h => firstN_hit (E := E) hk2 HZ.out h)
      generalize fss.getD k [] = f at c0 d0 hpf HC
      clear c0 hpf
      cases he : (E k != 0)
      · have HE0 : Hid (E k = 0) := by simpa [Hid] using he
        go_wp2_with (go_at_call 50; refine HC.out.mono ?_; rintro e w2 ⟨u, rfl, hu, hb2⟩; have HV2 := hid (HV.out.next hb2); have HU := hid hu; obtain ⟨ua, uc, rfl, _, _⟩ := hu; obtain ⟨ov, x0, x1⟩ := HV2.out.cells (by have := HUL.out; omega); rw [HUL.out] at x0 x1; clear hb2)
        go_roundw
        case rel =>
          refine ⟨k + 1, us ++ [.slice ua (R k).length uc], by omega, by go_num, by rw [len_snoc, HUL.out], fun j hj => ?_, ?_⟩
          · rcases Nat.lt_or_ge j k with h | h
            · exact HZ.out j h
            · rw [show j = k by omega]; exact HE0.out
          · rw [range_snoc]
            have h := HV2.out.put (by have := HUL.out; omega) _ _ HU.out
            rw [HUL.out] at h
            exact h
        case measure => simp [intOf]; omega
      · have HF : Hid (firstN E fss.length 0 = E k) := HHIT.out (by simpa using he)
        have HNE : Hid (E k ≠ 0) := by simpa [Hid] using he
        go_wp2_with (go_at_call 50; refine HC.out.mono ?_; rintro e w2 ⟨u, rfl, hu, hb2⟩; have HV2 := hid (HV.out.next hb2); obtain ⟨ua, uc, rfl, _, _⟩ := hu; clear hb2)
        go_ret2
        refine ⟨.slice none 0 0, by rw [HF.out]; rfl, ?_, HV2.out.below⟩
        rw [eachR_bad (by rw [HF.out]; exact HNE.out)]
        exact ⟨none, 0, rfl, fun h => by simp at h⟩
    · have e : k = fss.length := by omega
      subst e
      have HF : Hid (firstN E fss.length 0 = 0) := firstN_all HZ.out
      have HD := hid (HV.out.done HUL.out)
      go_wp2
      go_ret2
      refine ⟨.slice (some ⟨w.heap.size, 0, none⟩) fss.length fss.length, by rw [HF.out]; rfl, ?_, HV.out.below⟩
      rw [eachR_ok HF.out]
      exact HD.out

end Go.Proofs.YtkmjmmnnnbjghaaGreat
