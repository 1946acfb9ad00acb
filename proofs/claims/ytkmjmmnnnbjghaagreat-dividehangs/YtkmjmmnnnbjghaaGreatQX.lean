/- Divide, walked as far as its rows are made. -/
import Derived.Test.YtkmjmmnnnbjghaaGreatQS
import Derived.Test.YtkmjmmnnnbjghaaGreatQB
namespace Go.Proofs.YtkmjmmnnnbjghaaGreat
set_option linter.unusedSimpArgs false
set_option linter.unusedVariables false
open Go.RowKit

theorem four0 (w : World) (A B C D : Obj) : ((((w.alloc A).alloc B).alloc C).alloc D).drew.heap[w.heap.size]? = some A := by
  show ((((w.alloc A).alloc B).alloc C).alloc D).heap[w.heap.size]? = some A
  rw [Below.heap_alloc _ _ _ (by simp; omega), Below.heap_alloc _ _ _ (by simp; omega), Below.heap_alloc _ _ _ (by simp), heap_alloc_new]
theorem four1 (w : World) (A B C D : Obj) : ((((w.alloc A).alloc B).alloc C).alloc D).drew.heap[w.heap.size + 1]? = some B := by
  show ((((w.alloc A).alloc B).alloc C).alloc D).heap[w.heap.size + 1]? = some B
  rw [Below.heap_alloc _ _ _ (by simp), Below.heap_alloc _ _ _ (by simp)]
  have h := heap_alloc_new (w.alloc A) B
  simpa using h
theorem four2 (w : World) (A B C D : Obj) : ((((w.alloc A).alloc B).alloc C).alloc D).drew.heap[w.heap.size + 1 + 1]? = some C := by
  show ((((w.alloc A).alloc B).alloc C).alloc D).heap[w.heap.size + 1 + 1]? = some C
  rw [Below.heap_alloc _ _ _ (by simp)]
  have h := heap_alloc_new ((w.alloc A).alloc B) C
  simpa using h
theorem four3 (w : World) (A B C D : Obj) : ((((w.alloc A).alloc B).alloc C).alloc D).drew.heap[w.heap.size + 1 + 1 + 1]? = some D := by
  show ((((w.alloc A).alloc B).alloc C).alloc D).heap[w.heap.size + 1 + 1 + 1]? = some D
  have h := heap_alloc_new (((w.alloc A).alloc B).alloc C) D
  simpa using h
theorem fourB (w : World) (A B C D : Obj) : Below w.heap.size w ((((w.alloc A).alloc B).alloc C).alloc D).drew := (below_three.alloc (by simp; omega) _).drew
/-- The rows of quotients and of what is left, and their boxes, as they are made. -/
structure MkW (w wx : World) (MQ ML : Array Value) (L R qa la qb lb : Nat) : Prop where
  q : wx.heap[qb]? = some (.cells #[.slice (some ⟨qa, 0, none⟩) L L] 24)
  l : wx.heap[lb]? = some (.cells #[.slice (some ⟨la, 0, none⟩) R R] 25)
  mq : wx.heap[qa]? = some (.cells MQ 54)
  ml : wx.heap[la]? = some (.cells ML 54)
  below : Below w.heap.size w wx
  ge : w.heap.size ≤ qa ∧ w.heap.size ≤ la ∧ w.heap.size ≤ qb ∧ w.heap.size ≤ lb ∧ qa ≠ la
theorem mk_of {w wx : World} {MQ ML : Array Value} {L R qa la qb lb : Nat} {s14 s15 : Value} (h1 : s14 = .pointer (some ⟨qb, 0, none⟩)) (h2 : s15 = .pointer (some ⟨lb, 0, none⟩)) (hq : wx.heap[qb]? = some (.cells #[.slice (some ⟨qa, 0, none⟩) L L] 24)) (hl : wx.heap[lb]? = some (.cells #[.slice (some ⟨la, 0, none⟩) R R] 25)) (hmq : wx.heap[qa]? = some (.cells MQ 54)) (hml : wx.heap[la]? = some (.cells ML 54)) (hb : Below w.heap.size w wx) (hge : w.heap.size ≤ qa ∧ w.heap.size ≤ la ∧ w.heap.size ≤ qb ∧ w.heap.size ≤ lb ∧ qa ≠ la) :
    ∃ qa la qb lb : Nat, s14 = .pointer (some ⟨qb, 0, none⟩) ∧ s15 = .pointer (some ⟨lb, 0, none⟩) ∧ MkW w wx MQ ML L R qa la qb lb := ⟨qa, la, qb, lb, h1, h2, hq, hl, hmq, hml, hb, hge⟩
/-- At a make, in a region that draws its order. -/
theorem step_makeE {P : Program} {ops : Array Oper} {o : Oper} {a : Act} {w : World} {K : Act → World → Prop} {Q : Exit → Act → World → Prop} {E : Prop} (hgd : o.guard = none) (l c : Operand) (t : TypeId) (hop : o.op = Op.makeSlice t l c)
    (e : TypeId) (i : TypeInfo) (z : Value) (h1 : P.underlying t = some (.slice e)) (h2 : P.info? e = some i) (h3 : i.zero = some z) (kl kc : IntKind) (n : Nat) (hl : a.eval l = .int kl (n : Int)) (hc : a.eval c = .int kc (n : Int)) (b2 : (i.bytes : Int) * (n : Int) ≤ 281474976710656) (b3 : (n : Int) ≤ 9223372036854775807)
    (hK : K (a.put o.dst (.slice (some ⟨w.heap.size, 0, none⟩) n n)) (w.alloc (.cells (madeCells z.cells (n * i.size)) e))) :
    if Region.wanted o (yielded ops a.tmps) = true then Oper.wp P o a w K Q else E := by
  have hw : Region.wanted o (yielded ops a.tmps) = true := by simp [Region.wanted, hgd]
  rw [if_pos hw]
  have hr := run_make (P := P) w t e i z h1 h2 h3 kl kc n n (by omega) (Int.le_refl _) b2 b3
  simp only [Int.toNat_natCast] at hr
  unfold Oper.wp
  simp only [execOp, hop, hl, hc, hr, Sem.run_bind, Result.andThen_ok, Sem.run_pure]
  exact hK

end Go.Proofs.YtkmjmmnnnbjghaaGreat

/- The closure that is told what is taken away. -/
namespace Go.Proofs.YtkmjmmnnnbjghaaGreat
set_option linter.unusedSimpArgs false
set_option linter.unusedVariables false
open Go.RowKit

set_option maxRecDepth 100000 in
set_option maxHeartbeats 1000000 in
theorem taken_any (n0 N rb qb lb fb gb dg dof : Nat) (p o ov : Int) (rv : Bool → Value) (us : Bool → List Value) (tss : Bool → List (List TV)) (f : Bool) (L t : Ft) (rvL : Value) (num : Nat) (inv : Int) (w : World) (h0 : 0 < N) (h3 : N ≤ 3) (hbd : ∀ x ∈ exs N t, 0 ≤ x ∧ x ≤ 40000) (hc : 0 ≤ t.c ∧ t.c ≤ 255) (hB : n0 ≤ w.heap.size) (hr : BoxAt w rb p N o ov)
    (he : EnW n0 N w rb qb lb fb gb rv us tss f) (hd : DivB w dg dof L rvL num inv) (hi : num < (tss true).length) (hn : ((tss true).getD num []).length ≤ 2000) :
    Calls Tryz.prog 27 #[.pointer (some ⟨dg, dof, none⟩), ftV t, .pointer (some ⟨gb, 0, none⟩), .pointer (some ⟨qb, 0, none⟩)] w fun e w' => e = .returned (.bool (okG ((tss true).getD num []).length (exs N t))) ∧ ∃ us2 ev, EnW n0 N w' rb qb lb fb gb rv us2 (gro tss true num t ev N) (okG ((tss true).getD num []).length (exs N t)) ∧ Frm (GS n0 w) w w' := by
  obtain ⟨w1, hw1⟩ : ∃ w1, w1 = w.alloc (.cells #[.int .i64 t.k, .int .u16 t.a, .int .u16 t.b, .int .u16 t.d, .int .u16 t.z, .int .u8 t.pl, .int .u8 t.c] 52) := ⟨_, rfl⟩
  have HB1 : Hid (Below w.heap.size w w1) := by rw [hw1]; exact belowNew
  have HX1 : Hid (Bx w.heap.size w1 w.heap.size t) := by rw [hw1]; exact box7 (Nat.le_refl _) t
  have HE := hid he
  have hown := he.qw.own true
  obtain ⟨b, rc, hv⟩ : ∃ b rc, rv true = .slice (some ⟨b, 0, none⟩) (tss true).length rc := by
    rcases hown.2 with ⟨_, h⟩ | ⟨g, cap, cur, e, _⟩
    · omega
    · exact ⟨g, cap, e⟩
  have HGC : Hid (∀ W, Below w1.heap.size w1 W → Calls Tryz.prog 19 #[.pointer (some ⟨b, num, none⟩), ftV t, .pointer (some ⟨rb, 0, none⟩), .pointer (some ⟨fb, 0, none⟩)] W fun e w' => e = .returned (.bool (okG ((tss true).getD num []).length (exs N t))) ∧ ∃ us2 ev, EnW n0 N w' rb qb lb fb gb rv us2 (gro tss true num t ev N) (okG ((tss true).getD num []).length (exs N t)) ∧ Frm (GS n0 W) W w') := fun W hb =>
    growCl_any n0 N rb qb lb fb gb b num _ rc p o ov rv us tss f true t W h0 h3 hbd hc (by have := HB1.out.size; have := hb.size; omega) ((hr.below HB1.out).below hb) ((he.next HB1.out).next hb) hv hi hn
  obtain ⟨y0, y1, y2, y3, y4, y5, y6⟩ := HX1.out.at
  simp only [Nat.zero_add] at y0 y1 y2 y3 y4 y5 y6
  have z1 : w1.cell? ⟨gb, 0, none⟩ = some (growV rb fb) := cell_keep (World.ownsRow.cellAt he.g 0 (by omega)) HB1.out
  have z2 : w1.cell? ⟨qb, 0, none⟩ = some (rv true) := cell_keep (World.ownsRow.cellAt he.q 0 (by omega)) HB1.out
  have z3 := cell_keep hd.c8 HB1.out
  rw [hv] at z2
  unfold growV at z1
  have HFR : Hid (∀ w', Frm (GS n0 w1) w1 w' → Frm (GS n0 w) w w') := fun w' hf => (Frm.of_below HB1.out).trans hf fun x hx hg => by
    have hbl := HB1.out.block x hx
    have hk : ∀ {T : TypeId}, NTy w1 T x → NTy w T x := fun {T} h cur e => h cur (by rw [hbl]; exact e)
    exact ⟨hg.1, KdB.below hg.2.1 hbl.symm, hk hg.2.2.1, hk hg.2.2.2.1, hk hg.2.2.2.2⟩
  have hiI : (num : Int) < ((tss true).length : Int) := by omega
  unfold ftV at HGC ⊢
  clear he hr hd hown
  generalize okG ((tss true).getD num []).length (exs N t) = okk at HGC ⊢
  go_enter Tryz.func27, Tryz.ntmps27
  go_upto_region 1 with fail
  rw [← hw1]
  clear hw1
  go_region_law (first | (go_simp; refine (HGC.out _ (Below.refl _ _).drew).mono ?_; rintro e w8 ⟨rfl, us8, ev8, q1, q2⟩; have HE8 := hid q1; have HF8 := hid q2; clear q1 q2; dsimp only))
  all_goals
    go_wp2
    go_ret
    exact ⟨rfl, us8, ev8, HE8.out, HFR.out w8 ⟨HF8.out.os, HF8.out.tape, HF8.out.output, HF8.out.size, HF8.out.block⟩⟩

end Go.Proofs.YtkmjmmnnnbjghaaGreat

/- The closure that is told what is left. -/
namespace Go.Proofs.YtkmjmmnnnbjghaaGreat
set_option linter.unusedSimpArgs false
set_option linter.unusedVariables false
open Go.RowKit

set_option maxRecDepth 100000 in
set_option maxHeartbeats 2000000 in
theorem left_any (n0 N rb qb lb fb gb : Nat) (p o ov : Int) (rv : Bool → Value) (us : Bool → List Value) (tss : Bool → List (List TV)) (f : Bool) (t : Ft) (num : Nat) (w : World) (h0 : 0 < N) (h3 : N ≤ 3) (hbd : ∀ x ∈ exs N t, 0 ≤ x ∧ x ≤ 40000) (hc : 0 ≤ t.c ∧ t.c ≤ 255) (hB : n0 ≤ w.heap.size) (hr : BoxAt w rb p N o ov)
    (he : EnW n0 N w rb qb lb fb gb rv us tss f) (hpl : t.pl = num) (hi : num < (tss false).length) (hn : ((tss false).getD num []).length ≤ 2000) :
    Calls Tryz.prog 28 #[ftV t, .pointer (some ⟨gb, 0, none⟩), .pointer (some ⟨lb, 0, none⟩)] w fun e w' => e = .returned (.bool (okG ((tss false).getD num []).length (exs N t))) ∧ ∃ us2 ev, EnW n0 N w' rb qb lb fb gb rv us2 (gro tss false num t ev N) (okG ((tss false).getD num []).length (exs N t)) ∧ Frm (GS n0 w) w w' := by
  obtain ⟨w1, hw1⟩ : ∃ w1, w1 = w.alloc (.cells #[.int .i64 t.k, .int .u16 t.a, .int .u16 t.b, .int .u16 t.d, .int .u16 t.z, .int .u8 t.pl, .int .u8 t.c] 52) := ⟨_, rfl⟩
  have HB1 : Hid (Below w.heap.size w w1) := by rw [hw1]; exact belowNew
  have HX1 : Hid (Bx w.heap.size w1 w.heap.size t) := by rw [hw1]; exact box7 (Nat.le_refl _) t
  have HE := hid he
  have hown := he.qw.own false
  obtain ⟨b, rc, hv⟩ : ∃ b rc, rv false = .slice (some ⟨b, 0, none⟩) (tss false).length rc := by
    rcases hown.2 with ⟨_, h⟩ | ⟨g, cap, cur, e, _⟩
    · omega
    · exact ⟨g, cap, e⟩
  have HGC : Hid (∀ W, Below w1.heap.size w1 W → Calls Tryz.prog 19 #[.pointer (some ⟨b, num, none⟩), ftV t, .pointer (some ⟨rb, 0, none⟩), .pointer (some ⟨fb, 0, none⟩)] W fun e w' => e = .returned (.bool (okG ((tss false).getD num []).length (exs N t))) ∧ ∃ us2 ev, EnW n0 N w' rb qb lb fb gb rv us2 (gro tss false num t ev N) (okG ((tss false).getD num []).length (exs N t)) ∧ Frm (GS n0 W) W w') := fun W hb =>
    growCl_any n0 N rb qb lb fb gb b num _ rc p o ov rv us tss f false t W h0 h3 hbd hc (by have := HB1.out.size; have := hb.size; omega) ((hr.below HB1.out).below hb) ((he.next HB1.out).next hb) hv hi hn
  obtain ⟨y0, y1, y2, y3, y4, y5, y6⟩ := HX1.out.at
  simp only [Nat.zero_add] at y0 y1 y2 y3 y4 y5 y6
  have z1 : w1.cell? ⟨gb, 0, none⟩ = some (growV rb fb) := cell_keep (World.ownsRow.cellAt he.g 0 (by omega)) HB1.out
  have z2 : w1.cell? ⟨lb, 0, none⟩ = some (rv false) := cell_keep (World.ownsRow.cellAt he.l 0 (by omega)) HB1.out
  have HPL := hid hpl
  rw [hv] at z2
  have HV := hid hv
  unfold growV at z1
  have HFR : Hid (∀ w', Frm (GS n0 w1) w1 w' → Frm (GS n0 w) w w') := fun w' hf => (Frm.of_below HB1.out).trans hf fun x hx hg => by
    have hbl := HB1.out.block x hx
    have hk : ∀ {T : TypeId}, NTy w1 T x → NTy w T x := fun {T} h cur e => h cur (by rw [hbl]; exact e)
    exact ⟨hg.1, KdB.below hg.2.1 hbl.symm, hk hg.2.2.1, hk hg.2.2.2.1, hk hg.2.2.2.2⟩
  have hiI : (num : Int) < ((tss false).length : Int) := by omega
  unfold ftV at HGC ⊢
  clear he hr hown hpl
  generalize okG ((tss false).getD num []).length (exs N t) = okk at HGC ⊢
  go_enter Tryz.func28, Tryz.ntmps28
  go_upto_region 1 with fail
  rw [← hw1]
  clear hw1
  rw [HPL.out] at y5 HGC
  have HB0 : Hid (Below w1.heap.size w1 w1.drew) := (Below.refl _ _).drew
  have K0 : Hid (w1.drew.cell? ⟨gb, 0, none⟩ = some (.func (.func 19) #[] #[.pointer (some ⟨rb, 0, none⟩), .pointer (some ⟨fb, 0, none⟩)]) ∧ w1.drew.cell? ⟨lb, 0, none⟩ = some (.slice (some ⟨b, 0, none⟩) (tss false).length rc) ∧ w1.drew.cell? ⟨w.heap.size, 0, none⟩ = some (.int .i64 t.k) ∧ w1.drew.cell? ⟨w.heap.size, 1, none⟩ = some (.int .u16 t.a) ∧ w1.drew.cell? ⟨w.heap.size, 2, none⟩ = some (.int .u16 t.b) ∧ w1.drew.cell? ⟨w.heap.size, 3, none⟩ = some (.int .u16 t.d) ∧ w1.drew.cell? ⟨w.heap.size, 4, none⟩ = some (.int .u16 t.z) ∧ w1.drew.cell? ⟨w.heap.size, 5, none⟩ = some (.int .u8 num) ∧ w1.drew.cell? ⟨w.heap.size, 6, none⟩ = some (.int .u8 t.c)) := ⟨z1, z2, y0, y1, y2, y3, y4, y5, y6⟩
  have KE : Hid (∀ w8 us8 tss8 f8, EnW n0 N w8 rb qb lb fb gb rv us8 tss8 f8 → Frm (GS n0 w1.drew) w1.drew w8 → (w8.cell? ⟨gb, 0, none⟩ = some (.func (.func 19) #[] #[.pointer (some ⟨rb, 0, none⟩), .pointer (some ⟨fb, 0, none⟩)]) ∧ w8.cell? ⟨lb, 0, none⟩ = some (.slice (some ⟨b, 0, none⟩) (tss false).length rc) ∧ w8.cell? ⟨w.heap.size, 0, none⟩ = some (.int .i64 t.k) ∧ w8.cell? ⟨w.heap.size, 1, none⟩ = some (.int .u16 t.a) ∧ w8.cell? ⟨w.heap.size, 2, none⟩ = some (.int .u16 t.b) ∧ w8.cell? ⟨w.heap.size, 3, none⟩ = some (.int .u16 t.d) ∧ w8.cell? ⟨w.heap.size, 4, none⟩ = some (.int .u16 t.z) ∧ w8.cell? ⟨w.heap.size, 5, none⟩ = some (.int .u8 num) ∧ w8.cell? ⟨w.heap.size, 6, none⟩ = some (.int .u8 t.c))) := fun w8 us8 tss8 f8 h1 h2 => by
    have hbx : Bx w.heap.size w8 w.heap.size t := own_frmT h2 (show w1.drew.ownsRow _ _ _ _ _ _ from HX1.out) fun k hk => hk.2.2.2.2
    obtain ⟨x0, x1, x2, x3, x4, x5, x6⟩ := hbx.at
    simp only [Nat.zero_add] at x0 x1 x2 x3 x4 x5 x6
    rw [HPL.out] at x5
    have hl := World.ownsRow.cellAt h1.l 0 (by omega)
    rw [HV.out] at hl
    exact ⟨World.ownsRow.cellAt h1.g 0 (by omega), hl, x0, x1, x2, x3, x4, x5, x6⟩
  go_region_held (fun W => W.cell? ⟨gb, 0, none⟩ = some (.func (.func 19) #[] #[.pointer (some ⟨rb, 0, none⟩), .pointer (some ⟨fb, 0, none⟩)]) ∧ W.cell? ⟨lb, 0, none⟩ = some (.slice (some ⟨b, 0, none⟩) (tss false).length rc) ∧ W.cell? ⟨w.heap.size, 0, none⟩ = some (.int .i64 t.k) ∧ W.cell? ⟨w.heap.size, 1, none⟩ = some (.int .u16 t.a) ∧ W.cell? ⟨w.heap.size, 2, none⟩ = some (.int .u16 t.b) ∧ W.cell? ⟨w.heap.size, 3, none⟩ = some (.int .u16 t.d) ∧ W.cell? ⟨w.heap.size, 4, none⟩ = some (.int .u16 t.z) ∧ W.cell? ⟨w.heap.size, 5, none⟩ = some (.int .u8 num) ∧ W.cell? ⟨w.heap.size, 6, none⟩ = some (.int .u8 t.c))
    (first | with_reducible exact K0.out | with_reducible exact K8.out)
    (first | (go_at_call 19; refine (HGC.out _ HB0.out).mono ?_; rintro e w8 ⟨rfl, us8, ev8, q1, q2⟩; have HE8 := hid q1; have HF8 := hid q2; have K8 := hid (KE.out _ _ _ _ q1 q2); clear q1 q2))
  all_goals
    go_wp2
    go_ret
    exact ⟨rfl, us8, ev8, HE8.out, HFR.out w8 ⟨HF8.out.os, HF8.out.tape, HF8.out.output, HF8.out.size, HF8.out.block⟩⟩

end Go.Proofs.YtkmjmmnnnbjghaaGreat
