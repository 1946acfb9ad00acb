/- The closure that is told what is taken away. -/
import Derived.Test.YtilogbggilchaaaGreatQE
import Derived.Test.YtilogbggilchaaaGreatQI
namespace Go.Proofs.YtilogbggilchaaaGreat
set_option linter.unusedSimpArgs false
set_option linter.unusedVariables false
open Go.RowKit
set_option maxRecDepth 100000 in
set_option maxHeartbeats 1000000 in
theorem taken_any (n0 N rb qb lb fb gb dg dof : Nat) (p o ov : Int) (rv : Bool → Value) (us : Bool → List Value) (tss : Bool → List (List TV)) (f : Bool) (L t : Ft) (rvL : Value) (num : Nat) (inv : Int) (w : World) (h0 : 0 < N) (h3 : N ≤ 3) (hbd : ∀ x ∈ exs N t, 0 ≤ x ∧ x ≤ 40000) (hc : 0 ≤ t.c ∧ t.c ≤ 255) (hB : n0 ≤ w.heap.size) (hr : BoxAt w rb p N o ov)
    (he : EnW n0 N w rb qb lb fb gb rv us tss f) (hd : DivB w dg dof L rvL num inv) (hi : num < (tss true).length) (hn : ((tss true).getD num []).length ≤ 2000) :
    Calls Tryz.prog 27 #[.pointer (some ⟨dg, dof, none⟩), ftV t, .pointer (some ⟨gb, 0, none⟩), .pointer (some ⟨qb, 0, none⟩)] w fun e w' => e = .returned (.bool (okG ((tss true).getD num []).length (exs N t))) ∧ ∃ us2 ev, EnW n0 N w' rb qb lb fb gb rv us2 (gro tss true num t ev N) (okG ((tss true).getD num []).length (exs N t)) ∧ Frm (GS n0 w) w w' := by
  obtain ⟨w1, hw1⟩ : ∃ w1, w1 = w.alloc (.cells #[.int .i64 t.k, .int .u16 t.a, .int .u16 t.b, .int .u16 t.d, .int .u16 t.z, .int .u8 t.pl, .int .u8 t.c] 52) := ⟨_, rfl⟩
  have HB1 : Hid (Below w.heap.size w w1) := by rw [hw1]; exact belowNew
  have HX1 : Hid (Bx w.heap.size w1 w.heap.size t) := by rw [hw1]; exact box7 (Nat.le_refl _) t
  have HE := hid he
  have hown := he.qw.own true
  obtain ⟨b, rc, hv⟩ : ∃ b rc, rv true = .slice (some ⟨b, 0, none⟩) (tss true).length rc := by
    rcases hown.2 with ⟨_, h⟩ | ⟨g, cap, cur, e, _⟩
    · omega
    · exact ⟨g, cap, e⟩
  have HGC : Hid (∀ W, Below w1.heap.size w1 W → Calls Tryz.prog 19 #[.pointer (some ⟨b, num, none⟩), ftV t, .pointer (some ⟨rb, 0, none⟩), .pointer (some ⟨fb, 0, none⟩)] W fun e w' => e = .returned (.bool (okG ((tss true).getD num []).length (exs N t))) ∧ ∃ us2 ev, EnW n0 N w' rb qb lb fb gb rv us2 (gro tss true num t ev N) (okG ((tss true).getD num []).length (exs N t)) ∧ Frm (GS n0 W) W w') := fun W hb =>
    growCl_any n0 N rb qb lb fb gb b num _ rc p o ov rv us tss f true t W h0 h3 hbd hc (by have := HB1.out.size; have := hb.size; omega) ((hr.below HB1.out).below hb) ((he.next HB1.out).next hb) hv hi hn
  obtain ⟨y0, y1, y2, y3, y4, y5, y6⟩ := HX1.out.at
  simp only [Nat.zero_add] at y0 y1 y2 y3 y4 y5 y6
  have z1 : w1.cell? ⟨gb, 0, none⟩ = some (growV rb fb) := cell_keep (World.ownsRow.cellAt he.g 0 (by omega)) HB1.out
  have z2 : w1.cell? ⟨qb, 0, none⟩ = some (rv true) := cell_keep (World.ownsRow.cellAt he.q 0 (by omega)) HB1.out
  have z3 := cell_keep hd.c8 HB1.out
  rw [hv] at z2
  unfold growV at z1
  have HFR : Hid (∀ w', Frm (GS n0 w1) w1 w' → Frm (GS n0 w) w w') := fun w' hf => (Frm.of_below HB1.out).trans hf fun x hx hg => by
    have hbl := HB1.out.block x hx
    have hk : ∀ {T : TypeId}, NTy w1 T x → NTy w T x := fun {T} h cur e => h cur (by rw [hbl]; exact e)
    exact ⟨hg.1, KdB.below hg.2.1 hbl.symm, hk hg.2.2.1, hk hg.2.2.2.1, hk hg.2.2.2.2⟩
  have hiI : (num : Int) < ((tss true).length : Int) := by omega
  unfold ftV at HGC ⊢
  clear he hr hd hown
  generalize okG ((tss true).getD num []).length (exs N t) = okk at HGC ⊢
  go_enter Tryz.func27, Tryz.ntmps27
  go_upto_region 1 with fail
  rw [← hw1]
  clear hw1
  go_region_law (first | (go_simp; refine (HGC.out _ (Below.refl _ _).drew).mono ?_; rintro e w8 ⟨rfl, us8, ev8, q1, q2⟩; have HE8 := hid q1; have HF8 := hid q2; clear q1 q2; dsimp only))
  all_goals
    go_wp2
    go_ret
    exact ⟨rfl, us8, ev8, HE8.out, HFR.out w8 ⟨HF8.out.os, HF8.out.tape, HF8.out.output, HF8.out.size, HF8.out.block⟩⟩
set_option maxRecDepth 100000 in
set_option maxHeartbeats 2000000 in
theorem left_any (n0 N rb qb lb fb gb : Nat) (p o ov : Int) (rv : Bool → Value) (us : Bool → List Value) (tss : Bool → List (List TV)) (f : Bool) (t : Ft) (num : Nat) (w : World) (h0 : 0 < N) (h3 : N ≤ 3) (hbd : ∀ x ∈ exs N t, 0 ≤ x ∧ x ≤ 40000) (hc : 0 ≤ t.c ∧ t.c ≤ 255) (hB : n0 ≤ w.heap.size) (hr : BoxAt w rb p N o ov)
    (he : EnW n0 N w rb qb lb fb gb rv us tss f) (hpl : t.pl = num) (hi : num < (tss false).length) (hn : ((tss false).getD num []).length ≤ 2000) :
    Calls Tryz.prog 28 #[ftV t, .pointer (some ⟨gb, 0, none⟩), .pointer (some ⟨lb, 0, none⟩)] w fun e w' => e = .returned (.bool (okG ((tss false).getD num []).length (exs N t))) ∧ ∃ us2 ev, EnW n0 N w' rb qb lb fb gb rv us2 (gro tss false num t ev N) (okG ((tss false).getD num []).length (exs N t)) ∧ Frm (GS n0 w) w w' := by
  obtain ⟨w1, hw1⟩ : ∃ w1, w1 = w.alloc (.cells #[.int .i64 t.k, .int .u16 t.a, .int .u16 t.b, .int .u16 t.d, .int .u16 t.z, .int .u8 t.pl, .int .u8 t.c] 52) := ⟨_, rfl⟩
  have HB1 : Hid (Below w.heap.size w w1) := by rw [hw1]; exact belowNew
  have HX1 : Hid (Bx w.heap.size w1 w.heap.size t) := by rw [hw1]; exact box7 (Nat.le_refl _) t
  have HE := hid he
  have hown := he.qw.own false
  obtain ⟨b, rc, hv⟩ : ∃ b rc, rv false = .slice (some ⟨b, 0, none⟩) (tss false).length rc := by
    rcases hown.2 with ⟨_, h⟩ | ⟨g, cap, cur, e, _⟩
    · omega
    · exact ⟨g, cap, e⟩
  have HGC : Hid (∀ W, Below w1.heap.size w1 W → Calls Tryz.prog 19 #[.pointer (some ⟨b, num, none⟩), ftV t, .pointer (some ⟨rb, 0, none⟩), .pointer (some ⟨fb, 0, none⟩)] W fun e w' => e = .returned (.bool (okG ((tss false).getD num []).length (exs N t))) ∧ ∃ us2 ev, EnW n0 N w' rb qb lb fb gb rv us2 (gro tss false num t ev N) (okG ((tss false).getD num []).length (exs N t)) ∧ Frm (GS n0 W) W w') := fun W hb =>
    growCl_any n0 N rb qb lb fb gb b num _ rc p o ov rv us tss f false t W h0 h3 hbd hc (by have := HB1.out.size; have := hb.size; omega) ((hr.below HB1.out).below hb) ((he.next HB1.out).next hb) hv hi hn
  obtain ⟨y0, y1, y2, y3, y4, y5, y6⟩ := HX1.out.at
  simp only [Nat.zero_add] at y0 y1 y2 y3 y4 y5 y6
  have z1 : w1.cell? ⟨gb, 0, none⟩ = some (growV rb fb) := cell_keep (World.ownsRow.cellAt he.g 0 (by omega)) HB1.out
  have z2 : w1.cell? ⟨lb, 0, none⟩ = some (rv false) := cell_keep (World.ownsRow.cellAt he.l 0 (by omega)) HB1.out
  have HPL := hid hpl
  rw [hv] at z2
  have HV := hid hv
  unfold growV at z1
  have HFR : Hid (∀ w', Frm (GS n0 w1) w1 w' → Frm (GS n0 w) w w') := fun w' hf => (Frm.of_below HB1.out).trans hf fun x hx hg => by
    have hbl := HB1.out.block x hx
    have hk : ∀ {T : TypeId}, NTy w1 T x → NTy w T x := fun {T} h cur e => h cur (by rw [hbl]; exact e)
    exact ⟨hg.1, KdB.below hg.2.1 hbl.symm, hk hg.2.2.1, hk hg.2.2.2.1, hk hg.2.2.2.2⟩
  have hiI : (num : Int) < ((tss false).length : Int) := by omega
  unfold ftV at HGC ⊢
  clear he hr hown hpl
  generalize okG ((tss false).getD num []).length (exs N t) = okk at HGC ⊢
  go_enter Tryz.func28, Tryz.ntmps28
  go_upto_region 1 with fail
  rw [← hw1]
  clear hw1
  rw [HPL.out] at y5 HGC
  have HB0 : Hid (Below w1.heap.size w1 w1.drew) := (Below.refl _ _).drew
  have K0 : Hid (w1.drew.cell? ⟨gb, 0, none⟩ = some (.func (.func 19) #[] #[.pointer (some ⟨rb, 0, none⟩), .pointer (some ⟨fb, 0, none⟩)]) ∧ w1.drew.cell? ⟨lb, 0, none⟩ = some (.slice (some ⟨b, 0, none⟩) (tss false).length rc) ∧ w1.drew.cell? ⟨w.heap.size, 0, none⟩ = some (.int .i64 t.k) ∧ w1.drew.cell? ⟨w.heap.size, 1, none⟩ = some (.int .u16 t.a) ∧ w1.drew.cell? ⟨w.heap.size, 2, none⟩ = some (.int .u16 t.b) ∧ w1.drew.cell? ⟨w.heap.size, 3, none⟩ = some (.int .u16 t.d) ∧ w1.drew.cell? ⟨w.heap.size, 4, none⟩ = some (.int .u16 t.z) ∧ w1.drew.cell? ⟨w.heap.size, 5, none⟩ = some (.int .u8 num) ∧ w1.drew.cell? ⟨w.heap.size, 6, none⟩ = some (.int .u8 t.c)) := ⟨z1, z2, y0, y1, y2, y3, y4, y5, y6⟩
  have KE : Hid (∀ w8 us8 tss8 f8, EnW n0 N w8 rb qb lb fb gb rv us8 tss8 f8 → Frm (GS n0 w1.drew) w1.drew w8 → (w8.cell? ⟨gb, 0, none⟩ = some (.func (.func 19) #[] #[.pointer (some ⟨rb, 0, none⟩), .pointer (some ⟨fb, 0, none⟩)]) ∧ w8.cell? ⟨lb, 0, none⟩ = some (.slice (some ⟨b, 0, none⟩) (tss false).length rc) ∧ w8.cell? ⟨w.heap.size, 0, none⟩ = some (.int .i64 t.k) ∧ w8.cell? ⟨w.heap.size, 1, none⟩ = some (.int .u16 t.a) ∧ w8.cell? ⟨w.heap.size, 2, none⟩ = some (.int .u16 t.b) ∧ w8.cell? ⟨w.heap.size, 3, none⟩ = some (.int .u16 t.d) ∧ w8.cell? ⟨w.heap.size, 4, none⟩ = some (.int .u16 t.z) ∧ w8.cell? ⟨w.heap.size, 5, none⟩ = some (.int .u8 num) ∧ w8.cell? ⟨w.heap.size, 6, none⟩ = some (.int .u8 t.c))) := fun w8 us8 tss8 f8 h1 h2 => by
    have hbx : Bx w.heap.size w8 w.heap.size t := own_frmT h2 (show w1.drew.ownsRow _ _ _ _ _ _ from HX1.out) fun k hk => hk.2.2.2.2
    obtain ⟨x0, x1, x2, x3, x4, x5, x6⟩ := hbx.at
    simp only [Nat.zero_add] at x0 x1 x2 x3 x4 x5 x6
    rw [HPL.out] at x5
    have hl := World.ownsRow.cellAt h1.l 0 (by omega)
    rw [HV.out] at hl
    exact ⟨World.ownsRow.cellAt h1.g 0 (by omega), hl, x0, x1, x2, x3, x4, x5, x6⟩
  go_region_held (fun W => W.cell? ⟨gb, 0, none⟩ = some (.func (.func 19) #[] #[.pointer (some ⟨rb, 0, none⟩), .pointer (some ⟨fb, 0, none⟩)]) ∧ W.cell? ⟨lb, 0, none⟩ = some (.slice (some ⟨b, 0, none⟩) (tss false).length rc) ∧ W.cell? ⟨w.heap.size, 0, none⟩ = some (.int .i64 t.k) ∧ W.cell? ⟨w.heap.size, 1, none⟩ = some (.int .u16 t.a) ∧ W.cell? ⟨w.heap.size, 2, none⟩ = some (.int .u16 t.b) ∧ W.cell? ⟨w.heap.size, 3, none⟩ = some (.int .u16 t.d) ∧ W.cell? ⟨w.heap.size, 4, none⟩ = some (.int .u16 t.z) ∧ W.cell? ⟨w.heap.size, 5, none⟩ = some (.int .u8 num) ∧ W.cell? ⟨w.heap.size, 6, none⟩ = some (.int .u8 t.c))
    (first | with_reducible exact K0.out | with_reducible exact K8.out)
    (first | (go_at_call 19; refine (HGC.out _ HB0.out).mono ?_; rintro e w8 ⟨rfl, us8, ev8, q1, q2⟩; have HE8 := hid q1; have HF8 := hid q2; have K8 := hid (KE.out _ _ _ _ q1 q2); clear q1 q2))
  all_goals
    go_wp2
    go_ret
    exact ⟨rfl, us8, ev8, HE8.out, HFR.out w8 ⟨HF8.out.os, HF8.out.tape, HF8.out.output, HF8.out.size, HF8.out.block⟩⟩
structure HdW (p o ov : Int) (N R : Nat) (lss : List (List (List Tm))) (n0 : Nat) (w0 wr : World) (rb qb lb fb gb sb ob : Nat) (rv : Bool → Value) (s0 : DS) (tb : Nat) (r : Option Ft) (s : DS) (rows : List (List Ft)) (tss : Bool → List (List TV)) : Prop where
  di : DiW p o ov N R lss n0 w0 wr rb qb lb fb gb sb ob rv s0 s rows tss true
  box : Bx n0 wr tb (grF r)
  pv : PV p o ov N R r rows s
  inv : DInv p o ov N R lss s
  sml : Sml tss
  lq : (tss true).length = lss.length
  ll : (tss false).length = R
  n0 : n0 ≤ wr.heap.size
theorem HdW.next {p o ov : Int} {N R : Nat} {lss : List (List (List Tm))} {n0 : Nat} {w0 wr w' : World} {rb qb lb fb gb sb ob : Nat} {rv : Bool → Value} {s0 : DS} {tb : Nat} {r : Option Ft} {s : DS} {rows : List (List Ft)} {tss : Bool → List (List TV)} (h : HdW p o ov N R lss n0 w0 wr rb qb lb fb gb sb ob rv s0 tb r s rows tss) (hb : Below wr.heap.size wr w') : HdW p o ov N R lss n0 w0 w' rb qb lb fb gb sb ob rv s0 tb r s rows tss :=
  ⟨h.di.next h.n0 hb, h.box.below hb, h.pv, h.inv, h.sml, h.lq, h.ll, Nat.le_trans h.n0 hb.size⟩

set_option maxRecDepth 100000 in
set_option maxHeartbeats 8000000 in
theorem sumDivide_any (p o ov : Int) (N R : Nat) (lss : List (List (List Tm))) (n0 : Nat) (w0 : World) (ob rb db qb lb fb gb sb : Nat) (sv dv : Value) (ds : List De) (fls : List (List Ft)) (rv : Bool → Value) (s0 : DS) (rows : List (List Ft)) (tss : Bool → List (List TV)) (w : World)
    (hcx : DCx p o ov N R lss n0 w0 ob rb db sv dv ds fls) (hd : DiW p o ov N R lss n0 w0 w rb qb lb fb gb sb ob rv s0 s0 rows tss true) (hinv : DInv p o ov N R lss s0) (hrok : Rok p (Gd o ov N R 400) rows) (hrep : Rep p o ov R rows s0.v) (hsml : Sml tss) (hlq : (tss true).length = lss.length) (hll : (tss false).length = R) (hn : n0 ≤ w.heap.size) :
    Calls Tryz.prog 24 #[.pointer (some ⟨sb, 0, none⟩), .func (.func 25) #[] #[.pointer (some ⟨db, 0, none⟩)], .func (.func 27) #[] #[.pointer (some ⟨gb, 0, none⟩), .pointer (some ⟨qb, 0, none⟩)], .func (.func 28) #[] #[.pointer (some ⟨gb, 0, none⟩), .pointer (some ⟨lb, 0, none⟩)]] w fun e w' => e = .returned (.tuple #[]) ∧ ∃ s tss2 f2, Below n0 w0 w' ∧ (∃ us, EnW n0 N w' rb qb lb fb gb rv us tss2 f2) ∧ QS tss2 s ∧ Dv p o ov lss s0 s ∧ (f2 = true → leadF o ov s.v s.v.length = none ∧ Sml tss2) ∧ (f2 = false → Grt tss2) := by
  have HCX := hid hcx
  have hp := errP_bd hcx.rc.pr
  have HOB : Hid (∀ W, Below n0 w0 W → OrC W ob p o ov N R sv) := fun W hb => hcx.oc.below (by rw [hcx.size]; exact hb)
  have HNX : Hid (∀ W s rows tss, n0 ≤ W.heap.size → DiW p o ov N R lss n0 w0 W rb qb lb fb gb sb ob rv s0 s rows tss true → DInv p o ov N R lss s → Rok p (Gd o ov N R 400) rows → Rep p o ov R rows s.v → Calls Tryz.prog 61 #[.pointer (some ⟨sb, 0, none⟩)] W fun e w' => ∃ r, e = .returned (.tuple #[ftV (grF r), .bool r.isSome]) ∧ ∃ rows2, PV p o ov N R r rows2 s ∧ DiW p o ov N R lss n0 w0 w' rb qb lb fb gb sb ob rv s0 s rows2 tss true ∧ n0 ≤ w'.heap.size ∧ ∃ rw us, SumW n0 W sb ob rw us rows ∧ Frm (SFp sb rw) W w') := fun W s rows tss hnW hdi hin hro hre => by
    obtain ⟨rw, us, hs⟩ := hdi.sum
    refine (next_any n0 sb ob p _ _ _ sv rw us rows W hs (HOB.out W hdi.below).ord hp (by have := hdi.len; omega) hro.co hro.dn).mono ?_
    rintro e w' ⟨r, rfl, rows2, q1, q2⟩
    obtain ⟨a1, a2⟩ := nx_pv HCX.out.rc hin hro hre q1
    exact ⟨r, rfl, rows2, a1, hdi.nx hnW hs q2 a2, Nat.le_trans hnW q2.frm.size, rw, us, hs, q2.frm.wide fun x _ e => Or.inr e⟩
  have HN0 := hid (HNX.out w s0 rows tss hn hd hinv hrok hrep)
  have HIN0 := hid hinv
  have HSM0 := hid hsml
  unfold ftV at HN0
  clear hcx hd hinv hrok hrep hsml
  go_enter Tryz.func24, Tryz.ntmps24
  go_wp2_with (go_at_call 61; refine HN0.out.mono ?_; rintro e w1 ⟨r1, rfl, rows1, q1, q2, q3, q4⟩; have HPV1 := hid q1; have HDI1 := hid q2; have HSZ1 := hid q3; clear q1 q2 q3 q4)
  obtain ⟨w2, hw2⟩ : ∃ w2, w2 = w1.alloc (.cells #[.int .i64 (grF r1).k, .int .u16 (grF r1).a, .int .u16 (grF r1).b, .int .u16 (grF r1).d, .int .u16 (grF r1).z, .int .u8 (grF r1).pl, .int .u8 (grF r1).c] 52) := ⟨_, rfl⟩
  have HH0 : Hid (HdW p o ov N R lss n0 w0 w2 rb qb lb fb gb sb ob rv s0 w1.heap.size r1 s0 rows1 tss) := by
    show HdW _ _ _ _ _ _ _ _ _ _ _ _ _ _ _ _ _ _ _ _ _ _ _
    rw [hw2]
    exact ⟨HDI1.out.next HSZ1.out belowNew, box7 HSZ1.out _, HPV1.out, HIN0.out, HSM0.out, hlq, hll, by simp; have := HSZ1.out; omega⟩
  rw [← hw2]
  clear hw2
  go_loopw [8, 9] (fun b m wr => ∃ (tb : Nat) (r : Option Ft) (s : DS) (rows : List (List Ft)) (tss : Bool → List (List TV)), b = .pointer (some ⟨tb, 0, none⟩) ∧ m = .bool r.isSome ∧ HdW p o ov N R lss n0 w0 wr rb qb lb fb gb sb ob rv s0 tb r s rows tss) (fun b m wr => msD b m wr)
  case atStart => exact ⟨_, r1, s0, rows1, tss, rfl, rfl, HH0.out⟩
  case round =>
    clear HH0 HN0 HPV1 HDI1 HSZ1
    obtain ⟨tb, r, s, rows2, tss2, rfl, rfl, hh⟩ := hrel
    have HH := hid hh
    clear hh
    cases r with
    | none =>
      simp only [Option.isSome_none]
      go_wp2
      go_end0
      refine ⟨rfl, s, tss2, true, HH.out.di.below, HH.out.di.en, HH.out.di.qs, HH.out.di.dv, fun _ => ⟨HH.out.pv.none rfl, HH.out.sml⟩, fun h => by simp at h⟩
    | some t =>
      simp only [Option.isSome_some]
      have hbx := HH.out.box
      simp only [grF, Option.getD_some] at hbx
      have HBX := hid hbx
      obtain ⟨y0, y1, y2, y3, y4, y5, y6⟩ := HBX.out.at
      simp only [Nat.zero_add] at y0 y1 y2 y3 y4 y5 y6
      have HB0 := hid HH.out.di.below
      have HDV : Hid (∀ W, Below n0 w0 W → DvsW p 0 W dv ds ∧ W.cell? ⟨db, 0, none⟩ = some dv ∧ BoxAt W rb p N o ov) := fun W hb => by
        have hb2 : Below w0.heap.size w0 W := by rw [HCX.out.size]; exact hb
        exact ⟨HCX.out.dvs.next hb2, cell_keep HCX.out.db hb2, HCX.out.ring.below hb2⟩
      have hdl : ds.length ≤ 60 := by
        have h1 := congrArg List.length HCX.out.made
        have h2 := mkD_len fls 0
        rw [List.length_map] at h1
        have := HCX.out.len; have := HCX.out.ll; omega
      have HFD := hid (find_any p 0 db dv ds t wr (HDV.out wr HB0.out).2.1 (HDV.out wr HB0.out).1 (by omega))
      unfold ftV at HFD
      clear hbx
      go_upto_region 4 with (go_at_call 25; refine HFD.out.mono ?_; rintro e w3 ⟨rfl, q1⟩; have HB3 := hid q1; clear q1)
      have HH3 := hid (HH.out.next HB3.out)
      obtain ⟨hld, hgd, htc0, htc1, hcn⟩ := HH.out.pv.some t rfl
      have HLD := hid hld
      have HGD := hid hgd
      have HCN := hid hcn
      have HTC := hid (And.intro htc0 htc1)
      have HEQ := hid (hgd.exq HCX.out.rc.n0 HCX.out.rc.n3 (by omega))
      have hxb : ∀ x ∈ exs N t, 0 ≤ x ∧ x ≤ 40000 := by
        intro x hx
        have ha := hgd.a
        have hb := hgd.b
        have hd := hgd.d
        have hq := hgd.deg
        have hm := List.mem_of_mem_take hx
        simp only [List.mem_cons, List.not_mem_nil, or_false] at hm
        rcases hm with rfl | rfl | rfl <;> omega
      have HXB := hid hxb
      have hpl0 := hgd.pl0
      have hplR := hgd.pl
      clear hld hgd hcn htc0 htc1 hxb y0 y1 y2 y3 y4 y5 y6
      cases hfi : fI t ds with
      | none =>
        have HDN : Hid (dvI o ov lss t.pl.toNat (exs N t) = none) := by
          show _ = _
          have h := fD_dvI (p := p) (o := o) (ov := ov) (R := R) HCX.out.rc.n0 HCX.out.rc.n3 HGD.out lss fls 0 HCX.out.len.symm HCX.out.flr
          rw [← HCX.out.made, fI_none hfi] at h
          exact h
        obtain ⟨us3, he3⟩ := HH3.out.di.en
        have HLF := hid (left_any n0 N rb qb lb fb gb p o ov rv us3 tss2 true t t.pl.toNat w3 HCX.out.rc.n0 HCX.out.rc.n3 HXB.out (by have := HTC.out; omega) HH3.out.n0 (HDV.out w3 HH3.out.di.below).2.2 he3 (by omega) (by rw [HH3.out.ll]; omega) (HH3.out.sml false _).1)
        have hpt : ptrD dv (fI t ds) = .pointer none := by rw [hfi]; rfl
        rw [hfi] at hpt
        simp only [ptrD, Option.map_none]
        have hb3 := HH3.out.box
        simp only [grF, Option.getD_some] at hb3
        have HBX3 := hid hb3
        obtain ⟨y0, y1, y2, y3, y4, y5, y6⟩ := HBX3.out.at
        simp only [Nat.zero_add] at y0 y1 y2 y3 y4 y5 y6
        obtain ⟨s2, hst, hrp, hsq, hsl⟩ := rep_left HCX.out.rc HH3.out.inv (by have := HGD.out.k; rw [← Int.toNat_of_nonneg hpl0] at this; exact this) HLD.out HDN.out HCN.out
        have HST := hid hst
        have HRP := hid hrp
        have HQL := hid (And.intro hsq hsl)
        have HOKG : Hid (∀ b, okG ((tss2 false).getD t.pl.toNat []).length (exs N t) = b → okG ((tss2 false).getD t.pl.toNat []).length (exs N t) = b) := fun b h => h
        unfold ftV at HLF
        clear hpt hst hrp hsq hsl hb3
        generalize hok : okG ((tss2 false).getD t.pl.toNat []).length (exs N t) = okk at HLF
        have HOK := hid hok
        clear hok hfi HOKG
        cases okk with
        | false =>
          go_wp2_with (go_at_call 28; refine HLF.out.mono ?_; rintro e w4 ⟨rfl, us4, ev4, q1, q2⟩; have HE4 := hid q1; have HF4 := hid q2; clear q1 q2)
          refine bodyPost_ret (results_none rfl _ _ _) rfl ?_
          refine ⟨rfl, s2, _, false, HH3.out.di.below.trans (gs_below HF4.out HH3.out.n0), ⟨us4, HE4.out⟩, qs_left HH3.out.di.qs HQL.out.1 HQL.out.2, HH3.out.di.dv.step HST.out, fun h => by simp at h, fun _ => grt_gro (by rw [HH3.out.ll]; omega) HOK.out⟩
        | true =>
          go_upto_region 9 with (go_at_call 28; refine HLF.out.mono ?_; rintro e w4 ⟨rfl, us4, ev4, q1, q2⟩; have HE4 := hid q1; have HF4 := hid q2; clear q1 q2)
          have HQS := hid (qs_left (ev := ev4) HH3.out.di.qs HQL.out.1 HQL.out.2)
          have HD4 := hid (HH3.out.di.gs HH3.out.n0 HE4.out HF4.out HST.out HQS.out)
          have HN4 : Hid (n0 ≤ w4.heap.size) := Nat.le_trans HH3.out.n0 HF4.out.size
          have HBX4 := hid (bx_gs HBX3.out HF4.out)
          have HIN2 := hid (dinv_step HCX.out.rc HCX.out.lok HH3.out.inv HST.out).1
          have hpv0 : 0 ≤ t.k := by
            have h1 := HGD.out.k
            have h2 := addK_bd HCX.out.rc.o HCX.out.rc.n0 HCX.out.rc.n3 HEQ.out.1
            have hR := HCX.out.rc.r
            rw [h1]
            unfold keyL stK; split <;> omega
          have HT0 := hid hpv0
          obtain ⟨rw4, us4s, hs4⟩ := HD4.out.sum
          obtain ⟨y0, y1, y2, y3, y4, y5, y6⟩ := HBX4.out.at
          simp only [Nat.zero_add] at y0 y1 y2 y3 y4 y5 y6
          have HS4 := hid hs4
          clear hs4 hpv0
          go_upto_region 2 with fail
          obtain ⟨w5, hw5⟩ : ∃ w5, w5 = w4.alloc (.cells #[.int .i64 t.k, .int .u16 t.a, .int .u16 t.b, .int .u16 t.d, .int .u16 t.z, .int .u8 t.pl, .int .u8 t.c] 52) := ⟨_, rfl⟩
          have H5 : Hid (Below w4.heap.size w4 w5 ∧ Bx n0 w5 w4.heap.size t) := by
            show _ ∧ _
            rw [hw5]; exact ⟨belowNew, box7 HN4.out t⟩
          rw [← hw5]
          clear hw5 y0 y1 y2 y3 y4 y5 y6
          have HD5 := hid (HD4.out.next HN4.out H5.out.1)
          have HS5 := hid (HS4.out.next H5.out.1)
          have HN5 : Hid (n0 ≤ w5.heap.size) := Nat.le_trans HN4.out H5.out.1.size
          have HNX5 := hid (nextR_any p o ov N R lss n0 w4.heap.size w0 ob rb qb lb fb gb sb sv rv s0 s2 rows2 _ rw4 us4s w5 HCX.out.rc (HOB.out w5 HD5.out.below) HN5.out H5.out.1.size HS5.out HS4.out.loc HD5.out HIN2.out HH3.out.pv.ok HRP.out)
          unfold ftV at HNX5
          go_wp2_with (go_at_call 61; refine HNX5.out.mono ?_; rintro e w6 ⟨r6, rfl, rows6, us6, q1, q2, q3, q4, q5, q6⟩; have HPV6 := hid q1; have HD6 := hid q2; have HN6 := hid q3; have HS6 := hid (And.intro q5 q6); have HB6 := hid (bx_sfp H5.out.2 HS5.out q4); clear q1 q2 q3 q4 q5 q6; obtain ⟨y0, y1, y2, y3, y4, y5, y6⟩ := HB6.out.at; have z0 := World.ownsRow.frozenAt HB6.out 0; have z1 := World.ownsRow.frozenAt HB6.out 1; have z2 := World.ownsRow.frozenAt HB6.out 2; have z3 := World.ownsRow.frozenAt HB6.out 3; have z4 := World.ownsRow.frozenAt HB6.out 4; have z5 := World.ownsRow.frozenAt HB6.out 5; have z6 := World.ownsRow.frozenAt HB6.out 6; simp only [Nat.zero_add] at y0 y1 y2 y3 y4 y5 y6)
          have HPT := hid (HB6.out.put (grF r6))
          have HFIN := hid (HD6.out.put HN6.out HS6.out.1 HS6.out.2 (Nat.le_refl _) HB6.out HPT.out.2)
          have HC6 := hid HPT.out.1.at.1
          unfold lay7 at HPT HFIN HC6
          go_roundw
          case rel =>
            refine ⟨w4.heap.size, r6, s2, rows6, _, rfl, rfl, HFIN.out, HPT.out.1, HPV6.out, HIN2.out, sml_gro HH3.out.sml HOK.out, ?_, ?_, ?_⟩
            · rw [gro_len]; exact HH3.out.lq
            · rw [gro_len]; exact HH3.out.ll
            · have := HN6.out; have := HPT.out.2.size; omega
          case measure =>
            have hold : msD (.pointer (some ⟨tb, 0, none⟩)) (.bool true) wr = (t.k + 1).toNat := by
              have := HBX.out.at.1
              simp only [msD]
              rw [this]; rfl
            have ht0 := HT0.out
            cases r6 with
            | none => rw [hold]; simp only [msD, Option.isSome_none]; omega
            | some t6 =>
              have hlt := pv_lt HCX.out.rc HCX.out.lok HH3.out.inv HST.out HH3.out.pv HPV6.out
              rw [hold]
              simp only [msD, Option.isSome_some]
              have h6 := HC6.out
              rw [h6]
              simp only [kyOf, grF, Option.getD_some]
              omega
      | some k =>
        obtain ⟨hk, hfd⟩ := fI_some hfi
        have hdd := fD_dvI (p := p) (o := o) (ov := ov) (R := R) HCX.out.rc.n0 HCX.out.rc.n3 HGD.out lss fls 0 HCX.out.len.symm HCX.out.flr
        rw [← HCX.out.made, hfd] at hdd
        obtain ⟨i, hi1, hdv, hfl⟩ := hdd
        obtain ⟨g, cdv, hdvv, hglt, hdb⟩ := (HDV.out w3 HH3.out.di.below).1.at k hk
        have hint : intoF ds[k].2.1 t = true := by
          unfold fI at hfi
          rw [List.findIdx?_eq_some_iff_getElem] at hfi
          exact hfi.2.1
        have HMEM := hid (List.getElem_mem hk)
        have HGN : Hid (g < n0) := by
          obtain ⟨gq, cq, eq, hlq2, _⟩ := HCX.out.dvs.at k hk
          rw [hdvv] at eq
          simp only [Value.slice.injEq, Option.some.injEq, Addr.mk.injEq] at eq
          have : g < n0 := by rw [← HCX.out.size, eq.1.1]; exact hlq2
          exact this
        generalize ds[k] = d at hfd hi1 hfl hdb hint HMEM
        obtain ⟨num, L, rst, rvL⟩ := d
        simp only [dvr, Nat.zero_add] at hi1 hfl
        subst hi1
        have HDVI := hid hdv
        obtain ⟨hnl, hgm, _⟩ := dvI_some hdv
        have hflr := HCX.out.flr num hnl
        rw [hfl] at hflr
        have HFLR := hid hflr
        have HGL := hid (hflr.gd L (by simp))
        have HLC := hid (hflr.co L (by simp))
        obtain ⟨hpp, hii⟩ : L.pl = t.pl ∧ (L.a ≤ t.a ∧ L.b ≤ t.b ∧ L.d ≤ t.d ∧ L.z ≤ t.z) := by
          simp only [intoF, intoE, Bool.and_eq_true, decide_eq_true_eq] at hint
          obtain ⟨h1, ⟨⟨h2, h3⟩, h4⟩, h5⟩ := hint
          exact ⟨h1, h2, h3, h4, h5⟩
        obtain ⟨inv, hinv⟩ : ∃ inv, invI p L.c = inv := ⟨_, rfl⟩
        have hio := invI_ok HCX.out.rc.pr HLC.out
        rw [hinv] at hio
        simp only [hinv] at hdb
        have hmb := mod_bd (a := t.c * inv) hp
        obtain ⟨bt, hbt⟩ : ∃ bt : Ft, bt = ⟨0, t.a - L.a, t.b - L.b, t.d - L.d, t.z - L.z, 0, t.c * inv % p⟩ := ⟨_, rfl⟩
        have HDB := hid hdb
        have HPT : Hid (ptrD dv (some k) = .pointer (some ⟨g, k * 10, none⟩)) := by
          show _ = _
          rw [hdvv]; rfl
        have HHII := hid (And.intro hpp hii)
        have HIV := hid (And.intro hinv hio)
        rw [HPT.out]
        clear hfd hdv hflr hfl hdb hint hdvv hpp hii hinv hio
        have hb3 := HH3.out.box
        simp only [grF, Option.getD_some] at hb3
        have HBX3 := hid hb3
        have HB30 : Hid (Below w3.heap.size w3 w3.drew) := (Below.refl _ _).drew
        obtain ⟨rw3, us3s, hs3⟩ := HH3.out.di.sum
        have HS3 := hid hs3
        have KEEP : Hid (∀ W, Below w3.heap.size w3 W → (Hid (Below w3.heap.size w3 W) ∧ W.cell? ⟨tb, 1, none⟩ = some (.int .u16 t.a) ∧ W.cell? ⟨tb, 2, none⟩ = some (.int .u16 t.b) ∧ W.cell? ⟨tb, 3, none⟩ = some (.int .u16 t.d) ∧ W.cell? ⟨tb, 4, none⟩ = some (.int .u16 t.z) ∧ W.cell? ⟨tb, 6, none⟩ = some (.int .u8 t.c) ∧ W.cell? ⟨g, k * 10 + 1, none⟩ = some (.int .u16 L.a) ∧ W.cell? ⟨g, k * 10 + 2, none⟩ = some (.int .u16 L.b) ∧ W.cell? ⟨g, k * 10 + 3, none⟩ = some (.int .u16 L.d) ∧ W.cell? ⟨g, k * 10 + 4, none⟩ = some (.int .u16 L.z) ∧ W.cell? ⟨g, k * 10 + 9, none⟩ = some (.int .u8 inv) ∧ W.cell? ⟨sb, 0, none⟩ = some (.pointer (some ⟨ob, 0, none⟩)))) := fun W hb => by
          obtain ⟨y0, y1, y2, y3, y4, y5, y6⟩ := HBX3.out.at.keep hb
          simp only [Nat.zero_add] at y0 y1 y2 y3 y4 y5 y6
          obtain ⟨c0, c1, c2, c3, c4, c5, c6⟩ := (HDB.out.below hb).cells
          exact ⟨hb, y1, y2, y3, y4, y6, c1, c2, c3, c4, (HDB.out.below hb).c9, cell_keep HS3.out.cells.1 hb⟩
        have HOV2 : Hid (∀ W, Calls Tryz.prog 62 #[exV t.a t.b t.d t.z, exV L.a L.b L.d L.z] W fun e w' => e = .returned (exV (t.a - L.a) (t.b - L.b) (t.d - L.d) (t.z - L.z)) ∧ Below W.heap.size W w') := fun W => by
          have h1 := HHII.out.2
          have h2 := HGL.out
          have h3 := HGD.out
          refine exOver_any t.a t.b t.d t.z L.a L.b L.d L.z W ⟨h2.a, h1.1, by have := h3.deg; have := h3.a; have := h3.b; have := h3.d; omega⟩ ⟨h2.b, h1.2.1, by have := h3.deg; have := h3.a; have := h3.b; have := h3.d; omega⟩ ⟨h2.d, h1.2.2.1, by have := h3.deg; have := h3.a; have := h3.b; have := h3.d; omega⟩ ⟨by rw [h2.z]; omega, h1.2.2.2, by rw [h3.z]; omega⟩
        have HTI : Hid (∀ W, Below w3.heap.size w3 W → Calls Tryz.prog 63 #[.pointer (some ⟨ob, 0, none⟩), .int .u8 t.c, .int .u8 inv] W fun e w' => e = .returned (.int .u8 (t.c * inv % p)) ∧ w' = W) := fun W hb =>
          flatTimes_any ob p _ _ _ sv t.c inv W (HOB.out W (HH3.out.di.below.trans (hb.mono HH3.out.n0))).ord hp (by have := HTC.out; omega) (by have := HIV.out.2; omega)
        unfold exV at HOV2
        generalize hcc : t.c * inv % p = cc at HTI hbt hmb
        clear hs3 hb3
        go_upto_region 6 with fail
        go_cut [11] from 32 to 51 (fun s11 wx => ∃ g11 : Nat, s11 = .pointer (some ⟨g11, 0, none⟩) ∧ Below w3.heap.size w3 wx ∧ Bx n0 wx g11 bt)
        case first =>
          have HB3A : Hid (Below w3.heap.size w3 (w3.drew.alloc (.cells #[.int .i64 0, .int .u16 0, .int .u16 0, .int .u16 0, .int .u16 0, .int .u8 0, .int .u8 0] 52))) := HB30.out.trans (belowNew (w := w3.drew))
          have HB3B : Hid (Below w3.heap.size w3 (w3.alloc (.cells #[.int .i64 0, .int .u16 0, .int .u16 0, .int .u16 0, .int .u16 0, .int .u8 0, .int .u8 0] 52)).drew) := belowNew.drew
          have LAYB : Hid (∀ w8 (v0 v1 v2 v3 v4 v5 v6 : Value), Below w3.heap.size w3 w8 → Below w3.heap.size w3 (((((((w8.setCell ⟨w3.heap.size, 0, none⟩ v0).setCell ⟨w3.heap.size, 1, none⟩ v1).setCell ⟨w3.heap.size, 2, none⟩ v2).setCell ⟨w3.heap.size, 3, none⟩ v3).setCell ⟨w3.heap.size, 4, none⟩ v4).setCell ⟨w3.heap.size, 5, none⟩ v5).setCell ⟨w3.heap.size, 6, none⟩ v6)) := fun w8 v0 v1 v2 v3 v4 v5 v6 h => ((((((h.setCell (Nat.le_refl _) _).setCell (Nat.le_refl _) _).setCell (Nat.le_refl _) _).setCell (Nat.le_refl _) _).setCell (Nat.le_refl _) _).setCell (Nat.le_refl _) _).setCell (Nat.le_refl _) _
          have HZ3 : Hid (Bx n0 (w3.drew.alloc (.cells #[.int .i64 0, .int .u16 0, .int .u16 0, .int .u16 0, .int .u16 0, .int .u8 0, .int .u8 0] 52)) w3.heap.size ⟨0, 0, 0, 0, 0, 0, 0⟩) := Bx.new w3.drew n0 HH3.out.n0
          have HBXB : Hid (∀ W, Below w3.heap.size w3 W → Bx n0 (W.alloc (.cells #[.int .i64 0, .int .u16 (t.a - L.a), .int .u16 (t.b - L.b), .int .u16 (t.d - L.d), .int .u16 (t.z - L.z), .int .u8 0, .int .u8 cc] 52)) W.heap.size ⟨0, t.a - L.a, t.b - L.b, t.d - L.d, t.z - L.z, 0, cc⟩) := fun W hb => box7 (Nat.le_trans HH3.out.n0 hb.size) ⟨0, t.a - L.a, t.b - L.b, t.d - L.d, t.z - L.z, 0, cc⟩
          have HBXA : Hid (∀ W, Bx n0 W w3.heap.size ⟨0, 0, 0, 0, 0, 0, 0⟩ → Bx n0 (((((((W.setCell ⟨w3.heap.size, 0, none⟩ (.int .i64 0)).setCell ⟨w3.heap.size, 1, none⟩ (.int .u16 (t.a - L.a))).setCell ⟨w3.heap.size, 2, none⟩ (.int .u16 (t.b - L.b))).setCell ⟨w3.heap.size, 3, none⟩ (.int .u16 (t.d - L.d))).setCell ⟨w3.heap.size, 4, none⟩ (.int .u16 (t.z - L.z))).setCell ⟨w3.heap.size, 5, none⟩ (.int .u8 0)).setCell ⟨w3.heap.size, 6, none⟩ (.int .u8 cc)) w3.heap.size ⟨0, t.a - L.a, t.b - L.b, t.d - L.d, t.z - L.z, 0, cc⟩) := fun W hb => (hb.put ⟨0, t.a - L.a, t.b - L.b, t.d - L.d, t.z - L.z, 0, cc⟩).1
          have HZ3B : Hid (Bx n0 (w3.alloc (.cells #[.int .i64 0, .int .u16 0, .int .u16 0, .int .u16 0, .int .u16 0, .int .u8 0, .int .u8 0] 52)).drew w3.heap.size ⟨0, 0, 0, 0, 0, 0, 0⟩) := Bx.new w3 n0 HH3.out.n0
          go_region_held (fun W => Hid (Below w3.heap.size w3 W) ∧ W.cell? ⟨tb, 1, none⟩ = some (.int .u16 t.a) ∧ W.cell? ⟨tb, 2, none⟩ = some (.int .u16 t.b) ∧ W.cell? ⟨tb, 3, none⟩ = some (.int .u16 t.d) ∧ W.cell? ⟨tb, 4, none⟩ = some (.int .u16 t.z) ∧ W.cell? ⟨tb, 6, none⟩ = some (.int .u8 t.c) ∧ W.cell? ⟨g, k * 10 + 1, none⟩ = some (.int .u16 L.a) ∧ W.cell? ⟨g, k * 10 + 2, none⟩ = some (.int .u16 L.b) ∧ W.cell? ⟨g, k * 10 + 3, none⟩ = some (.int .u16 L.d) ∧ W.cell? ⟨g, k * 10 + 4, none⟩ = some (.int .u16 L.z) ∧ W.cell? ⟨g, k * 10 + 9, none⟩ = some (.int .u8 inv) ∧ W.cell? ⟨sb, 0, none⟩ = some (.pointer (some ⟨ob, 0, none⟩)))
            (first | with_reducible exact KEEP.out _ HB30.out | with_reducible exact KEEP.out _ HB3A.out | with_reducible exact KEEP.out _ HB3B.out | with_reducible exact KEEP.out _ HB8.out | with_reducible exact KEEP.out _ (HB8.out.trans (belowNew.mono HB8.out.size)) | with_reducible exact KEEP.out _ (LAYB.out _ _ _ _ _ _ _ _ HB8.out))
            (first
              | (go_at_call 62; refine (HOV2.out _).mono ?_; rintro e w8 ⟨rfl, hb8⟩; have HB8 := hid (HB30.out.trans (hb8.mono HB30.out.size)); clear hb8)
              | (go_at_call 62; refine (HOV2.out _).mono ?_; rintro e w8 ⟨rfl, hb8⟩; have HB8 := hid (HB3A.out.trans (hb8.mono HB3A.out.size)); have HZ8 := hid (HZ3.out.below hb8); clear hb8; obtain ⟨y0, y1, y2, y3, y4, y5, y6⟩ := HZ8.out.at; have z0 := World.ownsRow.frozenAt HZ8.out 0; have z1 := World.ownsRow.frozenAt HZ8.out 1; have z2 := World.ownsRow.frozenAt HZ8.out 2; have z3 := World.ownsRow.frozenAt HZ8.out 3; have z4 := World.ownsRow.frozenAt HZ8.out 4; have z5 := World.ownsRow.frozenAt HZ8.out 5; have z6 := World.ownsRow.frozenAt HZ8.out 6; simp only [Nat.zero_add] at y0 y1 y2 y3 y4 y5 y6)
              | (go_at_call 62; refine (HOV2.out _).mono ?_; rintro e w8 ⟨rfl, hb8⟩; have HB8 := hid (HB3B.out.trans (hb8.mono HB3B.out.size)); have HZ8 := hid (HZ3B.out.below hb8); clear hb8; obtain ⟨y0, y1, y2, y3, y4, y5, y6⟩ := HZ8.out.at; have z0 := World.ownsRow.frozenAt HZ8.out 0; have z1 := World.ownsRow.frozenAt HZ8.out 1; have z2 := World.ownsRow.frozenAt HZ8.out 2; have z3 := World.ownsRow.frozenAt HZ8.out 3; have z4 := World.ownsRow.frozenAt HZ8.out 4; have z5 := World.ownsRow.frozenAt HZ8.out 5; have z6 := World.ownsRow.frozenAt HZ8.out 6; simp only [Nat.zero_add] at y0 y1 y2 y3 y4 y5 y6)
              | (go_at_call 63; refine (HTI.out _ HB8.out).mono ?_; rintro e w9 ⟨rfl, rfl⟩)
              | (go_at_call 63; refine (HTI.out _ HB30.out).mono ?_; rintro e w9 ⟨rfl, rfl⟩)
              | (go_at_call 63; refine (HTI.out _ HB3A.out).mono ?_; rintro e w9 ⟨rfl, rfl⟩)
              | (go_at_call 63; refine (HTI.out _ HB3B.out).mono ?_; rintro e w9 ⟨rfl, rfl⟩)
              | (go_at_call 63; refine (HTI.out _ (HB8.out.trans (belowNew.mono HB8.out.size))).mono ?_; rintro e w9 ⟨rfl, rfl⟩))
          all_goals
            go_wp2_with fail
            go_meet
            refine ⟨_, rfl, ?_, ?_⟩
            · first | with_reducible exact HB8.out.trans (belowNew.mono HB8.out.size) | with_reducible exact LAYB.out _ _ _ _ _ _ _ _ HB8.out
            · rw [hbt]
              first | with_reducible exact HBXB.out _ HB8.out | with_reducible exact HBXA.out _ HZ8.out
        case rest =>
          obtain ⟨g11, rfl, hb4, hbx4⟩ := hcut
          have HB4 := hid hb4
          have HBT := hid hbx4
          clear hb4 hbx4
          have HH4 := hid (HH3.out.next HB4.out)
          obtain ⟨us4, he4⟩ := HH4.out.di.en
          have hbta : bt.a = t.a - L.a := by rw [hbt]
          have hbtb : bt.b = t.b - L.b := by rw [hbt]
          have hbtd : bt.d = t.d - L.d := by rw [hbt]
          have hbtz : bt.z = t.z - L.z := by rw [hbt]
          have hbtc : bt.c = cc := by rw [hbt]
          have HES := hid (exs_sub (N := N) HCX.out.rc.n0 HCX.out.rc.n3 hbta hbtb hbtd)
          have HNN : Hid ((0 ≤ bt.a ∧ 0 ≤ bt.b ∧ 0 ≤ bt.d ∧ bt.z = 0) ∧ bt.a + bt.b + bt.d ≤ 400 ∧ (N ≤ 1 → bt.b = 0) ∧ (N ≤ 2 → bt.d = 0)) := by
            have h1 := HHII.out.2
            have h2 := HGL.out
            have h3 := HGD.out
            refine ⟨⟨by omega, by omega, by omega, by rw [hbtz, h3.z, h2.z]; omega⟩, by have := h3.deg; have := h2.a; have := h2.b; have := h2.d; omega, fun h => by rw [hbtb, h3.n1 h, h2.n1 h]; omega, fun h => by rw [hbtd, h3.n2 h, h2.n2 h]; omega⟩
          have hxb2 : ∀ x ∈ exs N bt, 0 ≤ x ∧ x ≤ 40000 := by
            intro x hx
            have h1 := HNN.out
            have hm := List.mem_of_mem_take hx
            simp only [List.mem_cons, List.not_mem_nil, or_false] at hm
            rcases hm with rfl | rfl | rfl <;> omega
          have hccp : 1 ≤ cc ∧ cc < p := by
            have h1 := prime_mulI HCX.out.rc.pr (show 1 ≤ t.c by have := HTC.out; omega) HTC.out.2 HIV.out.2.1 HIV.out.2.2.1
            rw [hcc] at h1; exact h1
          have HTK := hid (taken_any n0 N rb qb lb fb gb g (k * 10) p o ov rv us4 tss2 true L bt rvL num inv wc HCX.out.rc.n0 HCX.out.rc.n3 hxb2 (by rw [hbtc]; omega) HH4.out.n0 (HDV.out wc HH4.out.di.below).2.2 he4 (HDB.out.below HB4.out) (by rw [HH4.out.lq]; exact hnl) (HH4.out.sml true num).1)
          obtain ⟨y0, y1, y2, y3, y4, y5, y6⟩ := HBT.out.at
          simp only [Nat.zero_add] at y0 y1 y2 y3 y4 y5 y6
          have HCCP := hid hccp
          have HBTC := hid hbtc
          have HBTT := hid hbt
          have HCCE := hid hcc
          have REP : Hid (∀ rows3 : List (List Ft), ∀ b2 : Ft, b2.c = p - cc → (∀ kk, p ∣ cnt kk rows3.flatten - (cnt kk rows2.flatten + cnt kk (rst.map (mulF p (addK o (exs N bt)) b2)))) → ∃ s2, dstep p o ov lss s = some s2 ∧ Rep p o ov R rows3 s2.v ∧ s2.q = s.q.set num (s.q.getD num [] ++ [(bt.c, exs N bt)]) ∧ s2.l = s.l) := fun rows3 b2 hb2 hadd => by
            have h := rep_taken HCX.out.rc HCX.out.lok HH3.out.inv (rows2 := rows2) (rows3 := rows3) (t := t) (L := L) (r := rst) (i := num) (more := addK o (exs N bt)) (c2 := p - cc) (by have := HGD.out.k; rw [← Int.toNat_of_nonneg hpl0] at this; exact this) HLD.out HTC.out HDVI.out HFLR.out (by rw [HES.out]) (by rw [HIV.out.1, HCCE.out]) b2 hb2 HCN.out hadd
            obtain ⟨s2, h1, h2, h3, h4⟩ := h
            refine ⟨s2, h1, h2, ?_, h4⟩
            rw [h3, HBTC.out, HIV.out.1, HCCE.out, HES.out]
          unfold ftV at HTK
          clear hbta hbtb hbtd hbtz hbtc hxb2 hbt hcc
          generalize hok : okG ((tss2 true).getD num []).length (exs N bt) = okk at HTK
          have HOK := hid hok
          clear hok
          cases okk with
          | false =>
            go_wp2_with (go_at_call 27; refine HTK.out.mono ?_; rintro e w5 ⟨rfl, us5, ev5, q1, q2⟩; have HE5 := hid q1; have HF5 := hid q2; clear q1 q2)
            refine bodyPost_ret (results_none rfl _ _ _) rfl ?_
            obtain ⟨s2, r1, r2, r3, r4⟩ := REP.out ((rst.map (mulF p (addK o (exs N bt)) ⟨0, 0, 0, 0, 0, 0, p - cc⟩)) :: rows2) ⟨0, 0, 0, 0, 0, 0, p - cc⟩ rfl (fun kk => ⟨0, by rw [List.flatten_cons, cnt_append]; omega⟩)
            exact ⟨rfl, s2, _, false, HH4.out.di.below.trans (gs_below HF5.out HH4.out.n0), ⟨us5, HE5.out⟩, qs_taken HH4.out.di.qs r4 r3, HH4.out.di.dv.step r1, fun h => by simp at h, fun _ => grt_gro (by rw [HH4.out.lq]; exact hnl) HOK.out⟩
          | true =>
            go_upto_region 8 with (go_at_call 27; refine HTK.out.mono ?_; rintro e w5 ⟨rfl, us5, ev5, q1, q2⟩; have HE5 := hid q1; have HF5 := hid q2; clear q1 q2)
            obtain ⟨ra, rcc, hrvL, _, _⟩ := (HDV.out wc HH4.out.di.below).1.fvs _ HMEM.out
            simp only at hrvL
            subst hrvL
            have HBE5 : Hid (Below n0 w0 w5) := HH4.out.di.below.trans (gs_below HF5.out HH4.out.n0)
            have HN5 : Hid (n0 ≤ w5.heap.size) := Nat.le_trans HH4.out.n0 HF5.out.size
            have hb4 := HH4.out.box
            simp only [grF, Option.getD_some] at hb4
            have HBX5 := hid (bx_gs hb4 HF5.out)
            have HBT5 := hid (bx_gs HBT.out HF5.out)
            obtain ⟨rw5, us5s, hs4⟩ := HH4.out.di.sum
            have HS5 := hid (hs4.gs HF5.out)
            have HDB5 : Hid (DivB w5 g (k * 10) L (.slice ra rst.length rcc) num inv) := (HDB.out.below HB4.out).belowN (gs_below HF5.out HH4.out.n0) HGN.out
            have HFR5 : Hid (∀ W, Below w5.heap.size w5 W → Fv W (.slice ra rst.length rcc) rst) := fun W hb => (HDV.out W (HBE5.out.trans (hb.mono HN5.out))).1.fvs _ HMEM.out
            have HOR5 : Hid (∀ W, Below w5.heap.size w5 W → OrdB W ob p (WtN o N N 0) (WtN o N N 1) (WtN o N N 2) sv) := fun W hb => (HOB.out W (HBE5.out.trans (hb.mono HN5.out))).ord
            obtain ⟨b2, hb2⟩ : ∃ b2 : Ft, b2 = ⟨0, bt.a, bt.b, bt.d, bt.z, 0, p - bt.c⟩ := ⟨_, rfl⟩
            have hsm : sumI (exs N bt) ≤ 200 := by
              have h := HOK.out
              simp only [okG, Bool.and_eq_true, decide_eq_true_eq] at h
              exact h.2
            have hsu : sumI (exs N bt) = bt.a + bt.b + bt.d := by
              have h1 := HNN.out
              have hN : N = 1 ∨ N = 2 ∨ N = 3 := by have := HCX.out.rc.n0; have := HCX.out.rc.n3; omega
              rcases hN with rfl | rfl | rfl
              · have := h1.2.2.1 (by omega); have := h1.2.2.2 (by omega); simp [exs, sumI]; omega
              · have := h1.2.2.2 (by omega); simp [exs, sumI]; omega
              · simp [exs, sumI]; omega
            have HB2F : Hid (Fok p b2) := by
              have h1 := HNN.out
              have h2 := HCCP.out
              have h3 := HBTC.out
              rw [hb2]
              exact ⟨by simp, by simp only; omega, by simp only; omega, by simp only; omega, by simp only; omega, by simp, by simp only; omega⟩
            have HRSF : Hid (∀ x ∈ rst, Fok p x) := fun x hx => by
              have h1 := HFLR.out.gd x (by simp [hx])
              have h2 := HFLR.out.co x (by simp [hx])
              have h3 := addK_bd HCX.out.rc.o HCX.out.rc.n0 HCX.out.rc.n3 (h1.exq HCX.out.rc.n0 HCX.out.rc.n3 (by omega)).1
              have hR := HCX.out.rc.r
              have h4 := h1.pl0
              have h5 := h1.pl
              have h6 := h1.deg
              have h7 := h1.a
              have h8 := h1.b
              have h9 := h1.d
              have h10 := h1.z
              have hk : 0 ≤ x.k ∧ x.k ≤ 1000000000000000000 := by
                rw [h1.k]
                unfold keyL stK; split <;> omega
              exact ⟨by omega, by omega, by omega, by omega, by omega, by omega, by omega⟩
            have HRL : Hid (rst.length ≤ 100000000000) := gd_len (o := o) (ov := ov) (N := N) HCX.out.rc.r rst (HFLR.out.dn.tail) (fun x hx => by
              have h1 := HFLR.out.gd x (by simp [hx])
              exact ⟨h1.k, h1.a, h1.b, h1.d, by have := h1.deg; omega, h1.z, h1.pl0, h1.pl, h1.n1, h1.n2⟩)
            have HMR : Hid (b2.a * WtN o N N 0 + b2.b * WtN o N N 1 + b2.d * WtN o N N 2 = addK o (exs N bt)) := by
              show _ = _
              rw [more_add HCX.out.rc.n0 HCX.out.rc.n3, hb2]; rfl
            have HRK : Hid (Rok p (Gd o ov N R 400) [rst.map (mulF p (addK o (exs N bt)) b2)]) := by
              have h1 := HNN.out
              have h2 := HCCP.out
              have h3 := HBTC.out
              refine rok_mul HCX.out.rc HFLR.out.dn.tail (fun x hx => HFLR.out.co x (by simp [hx])) (fun x hx => HFLR.out.gd x (by simp [hx])) ?_ ?_ ?_ ?_ ?_ ?_ ?_ ?_ ?_ <;> rw [hb2]
              · exact h1.1.1
              · exact h1.1.2.1
              · exact h1.1.2.2.1
              · exact h1.1.2.2.2
              · simp only; omega
              · exact h1.2.2.1
              · exact h1.2.2.2
              · simp only; omega
              · rfl
            have HNG : Hid (∀ W, Below w5.heap.size w5 W → Calls Tryz.prog 65 #[.pointer (some ⟨ob, 0, none⟩), .int .u8 bt.c] W fun e w' => e = .returned (.int .u8 (p - bt.c)) ∧ w' = W) := fun W hb => flatNeg_any ob p _ _ _ sv bt.c W (HOR5.out W hb) hp (by have := HCCP.out; have := HBTC.out; omega)
            have HSC : Hid (∀ W, Below w5.heap.size w5 W → Calls Tryz.prog 64 #[.pointer (some ⟨ob, 0, none⟩), .agg #[.int .i64 0, .int .u16 bt.a, .int .u16 bt.b, .int .u16 bt.d, .int .u16 bt.z, .int .u8 0, .int .u8 (p - bt.c)], (.slice ra rst.length rcc)] W fun e w' => ∃ u, e = .returned u ∧ Fv w' u (rst.map (mulF p (addK o (exs N bt)) b2)) ∧ Below W.heap.size W w') := fun W hb => by
              have h := flatScale_any ob p _ _ _ sv (.slice ra rst.length rcc) b2 rst W (HOR5.out W hb) hp (wtN_bd o N 0) (wtN_bd o N 1) (wtN_bd o N 2) HB2F.out HRSF.out (by have := HRL.out; omega) (HFR5.out W hb)
              rw [HMR.out] at h
              have e : ftV b2 = .agg #[.int .i64 0, .int .u16 bt.a, .int .u16 bt.b, .int .u16 bt.d, .int .u16 bt.z, .int .u8 0, .int .u8 (p - bt.c)] := by rw [hb2]; rfl
              rw [e] at h
              exact h
            have HOSB : Hid (ob ≠ sb) := fun e => by
              have h1 := HCX.out.oc.ord.lt
              rw [HCX.out.size, e] at h1
              have := HS5.out.lt.1
              omega
            have HAD : Hid (∀ W u, Below w5.heap.size w5 W → Fv W u (rst.map (mulF p (addK o (exs N bt)) b2)) → Calls Tryz.prog 58 #[.pointer (some ⟨sb, 0, none⟩), u] W fun e w' => e = .returned (.tuple #[]) ∧ ∃ rv' us' rows', SumW n0 w' sb ob rv' us' rows' ∧ Rok p (Gd o ov N R 400) rows' ∧ rows'.length ≤ 65 ∧ (∀ k, p ∣ cnt k rows'.flatten - (cnt k rows2.flatten + cnt k (rst.map (mulF p (addK o (exs N bt)) b2)))) ∧ Frm (SFp sb rw5) W w' ∧ (∀ k, rv'.ownBlock = some k → k < W.heap.size → rw5.ownBlock = some k)) := fun W u hb hu =>
              add_any n0 sb ob p _ _ _ (Gd o ov N R 400) sv rw5 u us5s rows2 _ W (HS5.out.next hb) (Nat.le_trans HN5.out hb.size) (HOR5.out W hb) HOSB.out hp HH4.out.di.len hu HH4.out.pv.ok HRK.out (fun x t => Gd.alk x t) (gd_len HCX.out.rc.r)
            have KEEP8 : Hid (∀ W, Below w5.heap.size w5 W → (W.cell? ⟨sb, 0, none⟩ = some (.pointer (some ⟨ob, 0, none⟩)) ∧ W.cell? ⟨g11, 1, none⟩ = some (.int .u16 bt.a) ∧ W.cell? ⟨g11, 2, none⟩ = some (.int .u16 bt.b) ∧ W.cell? ⟨g11, 3, none⟩ = some (.int .u16 bt.d) ∧ W.cell? ⟨g11, 4, none⟩ = some (.int .u16 bt.z) ∧ W.cell? ⟨g11, 6, none⟩ = some (.int .u8 bt.c) ∧ W.cell? ⟨g, k * 10 + 7, none⟩ = some (.slice ra rst.length rcc))) := fun W hb => by
              obtain ⟨x0, x1, x2, x3, x4, x5, x6⟩ := HBT5.out.at.keep hb
              simp only [Nat.zero_add] at x0 x1 x2 x3 x4 x5 x6
              exact ⟨cell_keep HS5.out.cells.1 hb, x1, x2, x3, x4, x6, (HDB5.out.below hb).c7⟩
            have HB50 : Hid (Below w5.heap.size w5 w5.drew) := (Below.refl _ _).drew
            have KEEP9 : Hid (∀ w8 w9 rw9 us9 rows9, Below w5.heap.size w5 w8 → SumW n0 w9 sb ob rw9 us9 rows9 → Frm (SFp sb rw5) w8 w9 → (w9.cell? ⟨sb, 0, none⟩ = some (.pointer (some ⟨ob, 0, none⟩)) ∧ w9.cell? ⟨g11, 1, none⟩ = some (.int .u16 bt.a) ∧ w9.cell? ⟨g11, 2, none⟩ = some (.int .u16 bt.b) ∧ w9.cell? ⟨g11, 3, none⟩ = some (.int .u16 bt.d) ∧ w9.cell? ⟨g11, 4, none⟩ = some (.int .u16 bt.z) ∧ w9.cell? ⟨g11, 6, none⟩ = some (.int .u8 bt.c) ∧ w9.cell? ⟨g, k * 10 + 7, none⟩ = some (.slice ra rst.length rcc))) := fun w8 w9 rw9 us9 rows9 h1 h2 h3 => by
              have hbt := bx_sfp (HBT5.out.below h1) (HS5.out.next h1) h3
              obtain ⟨x0, x1, x2, x3, x4, x5, x6⟩ := hbt.at
              simp only [Nat.zero_add] at x0 x1 x2 x3 x4 x5 x6
              have hbn : Below n0 w8 w9 := h3.to_below (Nat.le_trans HN5.out h1.size) fun x hx => by
                rcases hx with rfl | e
                · exact HS5.out.lt.1
                · exact (World.ownsRow.lt HS5.out.rws.own x e).1
              exact ⟨h2.cells.1, x1, x2, x3, x4, x6, ((HDB5.out.below h1).belowN hbn HGN.out).c7⟩
            have HB2E := hid hb2
            clear hb2 hs4 hb4 hsm
            go_region_held (fun W => W.cell? ⟨sb, 0, none⟩ = some (.pointer (some ⟨ob, 0, none⟩)) ∧ W.cell? ⟨g11, 1, none⟩ = some (.int .u16 bt.a) ∧ W.cell? ⟨g11, 2, none⟩ = some (.int .u16 bt.b) ∧ W.cell? ⟨g11, 3, none⟩ = some (.int .u16 bt.d) ∧ W.cell? ⟨g11, 4, none⟩ = some (.int .u16 bt.z) ∧ W.cell? ⟨g11, 6, none⟩ = some (.int .u8 bt.c) ∧ W.cell? ⟨g, k * 10 + 7, none⟩ = some (.slice ra rst.length rcc))
              (first | with_reducible exact KEEP8.out _ HB50.out | with_reducible exact KEEP8.out _ HB8.out | with_reducible exact K9.out)
              (first
                | (go_at_call 65; refine (HNG.out _ HB50.out).mono ?_; rintro e w7 ⟨rfl, rfl⟩)
                | (go_at_call 64; refine (HSC.out _ HB50.out).mono ?_; rintro e w8 ⟨u8, rfl, hf8, hb8⟩; have HF8 := hid hf8; have HB8 := hid (HB50.out.trans (hb8.mono HB50.out.size)); clear hf8 hb8)
                | (go_at_call 58; refine (HAD.out _ _ HB8.out HF8.out).mono ?_; rintro e w9 ⟨rfl, rw9, us9, rows9, q1, q2, q3, q4, q5, q6⟩; have K9 := hid (KEEP9.out _ _ _ _ _ HB8.out q1 q5); have HS9 := hid q1; have HR9 := hid (And.intro q2 (And.intro q3 q4)); have HF9 := hid q5; clear q1 q2 q3 q4 q5 q6))
            all_goals
              obtain ⟨s2, hst, hrp, hsq, hsl⟩ := REP.out rows9 b2 (by have h1 := HB2E.out; rw [h1]; simp only; rw [HBTC.out]) HR9.out.2.2
              have HST := hid hst
              have HRP := hid hrp
              have HD5s := hid (HH4.out.di.gs HH4.out.n0 HE5.out HF5.out hst (qs_taken (ev := ev5) HH4.out.di.qs hsl hsq))
              have HD4 := hid (HD5s.out.added HN5.out HS5.out HB8.out HF9.out HS9.out HR9.out.2.1)
              have HN4 : Hid (n0 ≤ w9.heap.size) := Nat.le_trans (Nat.le_trans HN5.out HB8.out.size) HF9.out.size
              have HBX4 := hid (bx_sfp (HBX5.out.below HB8.out) (HS5.out.next HB8.out) HF9.out)
              clear hst hrp hsq hsl
              have HIN2 := hid (dinv_step HCX.out.rc HCX.out.lok HH3.out.inv HST.out).1
              have hpv0 : 0 ≤ t.k := by
                have h1 := HGD.out.k
                have h2 := addK_bd HCX.out.rc.o HCX.out.rc.n0 HCX.out.rc.n3 HEQ.out.1
                have hR := HCX.out.rc.r
                rw [h1]
                unfold keyL stK; split <;> omega
              have HT0 := hid hpv0
              obtain ⟨rw4, us4s, hs4⟩ := HD4.out.sum
              obtain ⟨y0, y1, y2, y3, y4, y5, y6⟩ := HBX4.out.at
              simp only [Nat.zero_add] at y0 y1 y2 y3 y4 y5 y6
              have HS4 := hid hs4
              clear hs4 hpv0
              go_upto_region 2 with fail
              obtain ⟨w5, hw5⟩ : ∃ w5, w5 = w9.alloc (.cells #[.int .i64 t.k, .int .u16 t.a, .int .u16 t.b, .int .u16 t.d, .int .u16 t.z, .int .u8 t.pl, .int .u8 t.c] 52) := ⟨_, rfl⟩
              have H5 : Hid (Below w9.heap.size w9 w5 ∧ Bx n0 w5 w9.heap.size t) := by
                show _ ∧ _
                rw [hw5]; exact ⟨belowNew, box7 HN4.out t⟩
              rw [← hw5]
              clear hw5 y0 y1 y2 y3 y4 y5 y6
              have HD5 := hid (HD4.out.next HN4.out H5.out.1)
              have HS5 := hid (HS4.out.next H5.out.1)
              have HN5 : Hid (n0 ≤ w5.heap.size) := Nat.le_trans HN4.out H5.out.1.size
              have HNX5 := hid (nextR_any p o ov N R lss n0 w9.heap.size w0 ob rb qb lb fb gb sb sv rv s0 s2 rows9 _ rw4 us4s w5 HCX.out.rc (HOB.out w5 HD5.out.below) HN5.out H5.out.1.size HS5.out HS4.out.loc HD5.out HIN2.out HR9.out.1 HRP.out)
              unfold ftV at HNX5
              go_wp2_with (go_at_call 61; refine HNX5.out.mono ?_; rintro e w6 ⟨r6, rfl, rows6, us6, q1, q2, q3, q4, q5, q6⟩; have HPV6 := hid q1; have HD6 := hid q2; have HN6 := hid q3; have HS6 := hid (And.intro q5 q6); have HB6 := hid (bx_sfp H5.out.2 HS5.out q4); clear q1 q2 q3 q4 q5 q6; obtain ⟨y0, y1, y2, y3, y4, y5, y6⟩ := HB6.out.at; have z0 := World.ownsRow.frozenAt HB6.out 0; have z1 := World.ownsRow.frozenAt HB6.out 1; have z2 := World.ownsRow.frozenAt HB6.out 2; have z3 := World.ownsRow.frozenAt HB6.out 3; have z4 := World.ownsRow.frozenAt HB6.out 4; have z5 := World.ownsRow.frozenAt HB6.out 5; have z6 := World.ownsRow.frozenAt HB6.out 6; simp only [Nat.zero_add] at y0 y1 y2 y3 y4 y5 y6)
              have HPT := hid (HB6.out.put (grF r6))
              have HFIN := hid (HD6.out.put HN6.out HS6.out.1 HS6.out.2 (Nat.le_refl _) HB6.out HPT.out.2)
              have HC6 := hid HPT.out.1.at.1
              unfold lay7 at HPT HFIN HC6
              go_roundw
              case rel =>
                refine ⟨w9.heap.size, r6, s2, rows6, _, rfl, rfl, HFIN.out, HPT.out.1, HPV6.out, HIN2.out, sml_gro HH4.out.sml HOK.out, ?_, ?_, ?_⟩
                · rw [gro_len]; exact HH3.out.lq
                · rw [gro_len]; exact HH3.out.ll
                · have := HN6.out; have := HPT.out.2.size; omega
              case measure =>
                have hold : msD (.pointer (some ⟨tb, 0, none⟩)) (.bool true) wr = (t.k + 1).toNat := by
                  have := HBX.out.at.1
                  simp only [msD]
                  rw [this]; rfl
                have ht0 := HT0.out
                cases r6 with
                | none => rw [hold]; simp only [msD, Option.isSome_none]; omega
                | some t6 =>
                  have hlt := pv_lt HCX.out.rc HCX.out.lok HH3.out.inv HST.out HH3.out.pv HPV6.out
                  rw [hold]
                  simp only [msD, Option.isSome_some]
                  have h6 := HC6.out
                  rw [h6]
                  simp only [kyOf, grF, Option.getD_some]
                  omega
end Go.Proofs.YtilogbggilchaaaGreat
