/- The program's small functions of flat terms. -/
import Derived.Test.YtilogbggilchaaaGreatZA
import Derived.Test.YtilogbggilchaaaGreatPI
import Derived.Test.YtilogbggilchaaaGreatFA
namespace Go.Proofs.YtilogbggilchaaaGreat
set_option linter.unusedSimpArgs false
set_option linter.unusedVariables false
open Go.RowKit
def WtK (o : Int) (i : Nat) : Int := if i = 0 then W0 o else if i = 1 then W1 o else W2 o
theorem weight_any (o : Int) (i : Nat) (w : World) (ho : o = 1 ∨ o = 2) (hi : i < 3) : Calls Tryz.prog 55 #[.int .i64 o, .int .i64 i] w fun e w' => e = .returned (.int .i64 (WtK o i)) ∧ w' = w := by
  have h : i = 0 ∨ i = 1 ∨ i = 2 := by omega
  rcases ho with rfl | rfl <;> rcases h with rfl | rfl | rfl <;>
  · go_enter Tryz.func55, Tryz.ntmps55
    go_wp2
    go_ret
    exact ⟨rfl, rfl⟩
theorem start_any (ov : Int) (i : Nat) (w : World) (ho : ov = 1 ∨ ov = 2) (hi : i < 255) : Calls Tryz.prog 56 #[.int .i64 ov, .int .i64 i] w fun e w' => e = .returned (.int .i64 (stK ov i)) ∧ w' = w := by
  rcases ho with rfl | rfl
  · go_enter Tryz.func56, Tryz.ntmps56
    go_wp2
    go_ret
    exact ⟨rfl, rfl⟩
  · go_enter Tryz.func56, Tryz.ntmps56
    go_wp2
    go_ret
    exact ⟨rfl, rfl⟩

structure OrdB (w : World) (ob : Nat) (p k0 k1 k2 : Int) (sv : Value) : Prop where
  lt : ob < w.heap.size
  c0 : w.cell? ⟨ob, 0, none⟩ = some (.int .u32 p)
  c1 : w.cell? ⟨ob, 1, none⟩ = some (.int .i64 k0)
  c2 : w.cell? ⟨ob, 2, none⟩ = some (.int .i64 k1)
  c3 : w.cell? ⟨ob, 3, none⟩ = some (.int .i64 k2)
  c4 : w.cell? ⟨ob, 4, none⟩ = some sv
theorem OrdB.below {w w' : World} {ob : Nat} {p k0 k1 k2 : Int} {sv : Value} (h : OrdB w ob p k0 k1 k2 sv) (hb : Below w.heap.size w w') : OrdB w' ob p k0 k1 k2 sv :=
  ⟨Nat.lt_of_lt_of_le h.lt hb.size, cell_keep h.c0 hb, cell_keep h.c1 hb, cell_keep h.c2 hb, cell_keep h.c3 hb, cell_keep h.c4 hb⟩
def exV (a b d z : Int) : Value := .agg #[.int .u16 a, .int .u16 b, .int .u16 d, .int .u16 z]
def partK (a b d k0 k1 k2 : Int) (k : Nat) : Int := if k = 0 then 0 else if k = 1 then a * k0 else if k = 2 then a * k0 + b * k1 else a * k0 + b * k1 + d * k2
theorem mulK {a k : Int} (ha : 0 ≤ a ∧ a ≤ 65535) (hk : 0 ≤ k ∧ k ≤ 137438953472) : 0 ≤ a * k ∧ a * k ≤ 9007061815787520 := by
  obtain ⟨h1, h2⟩ := ha
  obtain ⟨h3, h4⟩ := hk
  refine ⟨Int.mul_nonneg h1 h3, ?_⟩
  have : a * k ≤ 65535 * 137438953472 := Int.mul_le_mul h2 h4 h3 (by omega)
  omega

set_option maxRecDepth 100000 in
set_option maxHeartbeats 1000000 in
theorem added_any (ob : Nat) (p k0 k1 k2 : Int) (sv : Value) (a b d z : Int) (w : World) (ho : OrdB w ob p k0 k1 k2 sv) (ha : 0 ≤ a ∧ a ≤ 65535) (hb : 0 ≤ b ∧ b ≤ 65535) (hd : 0 ≤ d ∧ d ≤ 65535) (h0 : 0 ≤ k0 ∧ k0 ≤ 137438953472) (h1 : 0 ≤ k1 ∧ k1 ≤ 137438953472) (h2 : 0 ≤ k2 ∧ k2 ≤ 137438953472) :
    Calls Tryz.prog 97 #[.pointer (some ⟨ob, 0, none⟩), exV a b d z] w fun e w' => e = .returned (.int .i64 (a * k0 + b * k1 + d * k2)) ∧ Below w.heap.size w w' := by
  obtain ⟨m0, n0⟩ := mulK ha h0
  obtain ⟨m1, n1⟩ := mulK hb h1
  obtain ⟨m2, n2⟩ := mulK hd h2
  obtain ⟨hlt, c0, c1, c2, c3, c4⟩ := ho
  obtain ⟨w1, hw1⟩ : ∃ w1, w1 = w.alloc (.cells #[.int .u16 a, .int .u16 b, .int .u16 d, .int .u16 z] 50) := ⟨_, rfl⟩
  have HB : Hid (Below w.heap.size w w1) := by rw [hw1]; exact below_oneG
  have x0 : w1.cell? ⟨w.heap.size, 0, none⟩ = some (.int .u16 a) := by rw [hw1]; simp [go_sem]
  have x1 : w1.cell? ⟨w.heap.size, 1, none⟩ = some (.int .u16 b) := by rw [hw1]; simp [go_sem]
  have x2 : w1.cell? ⟨w.heap.size, 2, none⟩ = some (.int .u16 d) := by rw [hw1]; simp [go_sem]
  have i0 : ∀ w, (Instr.index 101 (.agg #[.int .i64 k0, .int .i64 k1, .int .i64 k2]) (.int .i64 0)).run Tryz.prog w = .ok (.int .i64 k0) w := fun _ => by kernel_rfl
  have i1 : ∀ w, (Instr.index 101 (.agg #[.int .i64 k0, .int .i64 k1, .int .i64 k2]) (.int .i64 1)).run Tryz.prog w = .ok (.int .i64 k1) w := fun _ => by kernel_rfl
  have i2 : ∀ w, (Instr.index 101 (.agg #[.int .i64 k0, .int .i64 k1, .int .i64 k2]) (.int .i64 2)).run Tryz.prog w = .ok (.int .i64 k2) w := fun _ => by kernel_rfl
  unfold exV
  go_enter Tryz.func97, Tryz.ntmps97
  go_wp2_with fail
  rw [← hw1]
  clear hw1
  go_loopw [5, 12] (fun s i wr => ∃ k : Nat, k ≤ 3 ∧ i = .int .i64 k ∧ s = .int .i64 (partK a b d k0 k1 k2 k) ∧ wr = w1) (fun _ i _ => 3 - (intOf i).toNat)
  case atStart => exact ⟨0, by omega, rfl, rfl, rfl⟩
  case round =>
    obtain ⟨k, hk, rfl, rfl, rfl⟩ := hrel
    have h : k = 0 ∨ k = 1 ∨ k = 2 ∨ k = 3 := by omega
    rcases h with rfl | rfl | rfl | rfl
    · simp only [partK, if_true]
      rw [show ((0 : Nat) : Int) = 0 from rfl]
      go_wp2
      go_roundw
      case rel => exact ⟨1, by omega, rfl, by simp [partK], by first | rfl | trivial⟩
      case measure => simp [intOf]
    · simp only [partK, if_true, show ¬ (1 = 0) from by decide, if_false]
      rw [show ((1 : Nat) : Int) = 1 from rfl]
      go_wp2
      go_roundw
      case rel => exact ⟨2, by omega, rfl, by simp [partK], by first | rfl | trivial⟩
      case measure => simp [intOf]
    · simp only [partK, if_true, show ¬ (2 = 0) from by decide, show ¬ (2 = 1) from by decide, if_false]
      rw [show ((2 : Nat) : Int) = 2 from rfl]
      go_wp2
      go_roundw
      case rel => exact ⟨3, by omega, rfl, by simp [partK], by first | rfl | trivial⟩
      case measure => simp [intOf]
    · simp only [partK, if_true, show ¬ (3 = 0) from by decide, show ¬ (3 = 1) from by decide, show ¬ (3 = 2) from by decide, if_false]
      rw [show ((3 : Nat) : Int) = 3 from rfl]
      go_wp2
      go_ret
      exact ⟨rfl, HB.out⟩
structure Ft where
  k : Int
  a : Int
  b : Int
  d : Int
  z : Int
  pl : Int
  c : Int
def encF (t : Ft) : List Value := [.int .i64 t.k, .int .u16 t.a, .int .u16 t.b, .int .u16 t.d, .int .u16 t.z, .int .u8 t.pl, .int .u8 t.c]
def ftV (t : Ft) : Value := .agg #[.int .i64 t.k, .int .u16 t.a, .int .u16 t.b, .int .u16 t.d, .int .u16 t.z, .int .u8 t.pl, .int .u8 t.c]

theorem mod_bd {a p : Int} (hp : 2 ≤ p ∧ p ≤ 101) : 0 ≤ a % p ∧ a % p < p := ⟨Int.emod_nonneg _ (by omega), Int.emod_lt_of_pos _ (by omega)⟩
theorem mulB {a b : Int} (ha : 0 ≤ a ∧ a ≤ 255) (hb : 0 ≤ b ∧ b ≤ 255) : 0 ≤ a * b ∧ a * b ≤ 65025 := by
  obtain ⟨h1, h2⟩ := ha
  obtain ⟨h3, h4⟩ := hb
  refine ⟨Int.mul_nonneg h1 h3, ?_⟩
  have : a * b ≤ 255 * 255 := Int.mul_le_mul h2 h4 h3 (by omega)
  omega
set_option maxRecDepth 100000 in
theorem flatTimes_any (ob : Nat) (p k0 k1 k2 : Int) (sv : Value) (a b : Int) (w : World) (ho : OrdB w ob p k0 k1 k2 sv) (hp : 2 ≤ p ∧ p ≤ 101) (ha : 0 ≤ a ∧ a ≤ 255) (hb : 0 ≤ b ∧ b ≤ 255) :
    Calls Tryz.prog 63 #[.pointer (some ⟨ob, 0, none⟩), .int .u8 a, .int .u8 b] w fun e w' => e = .returned (.int .u8 (a * b % p)) ∧ w' = w := by
  obtain ⟨m0, n0⟩ := mulB ha hb
  obtain ⟨q0, q1⟩ := mod_bd (a := a * b) hp
  obtain ⟨hp0, hp1⟩ := hp
  have hpz : ¬ p = 0 := by omega
  obtain ⟨hlt, c0, c1, c2, c3, c4⟩ := ho
  go_enter Tryz.func63, Tryz.ntmps63
  go_wp2
  go_ret
  exact ⟨rfl, rfl⟩
set_option maxRecDepth 100000 in
theorem flatNeg_any (ob : Nat) (p k0 k1 k2 : Int) (sv : Value) (a : Int) (w : World) (ho : OrdB w ob p k0 k1 k2 sv) (hp : 2 ≤ p ∧ p ≤ 101) (ha : 0 < a ∧ a < p) :
    Calls Tryz.prog 65 #[.pointer (some ⟨ob, 0, none⟩), .int .u8 a] w fun e w' => e = .returned (.int .u8 (p - a)) ∧ w' = w := by
  obtain ⟨hp0, hp1⟩ := hp
  obtain ⟨ha0, ha1⟩ := ha
  obtain ⟨hlt, c0, c1, c2, c3, c4⟩ := ho
  go_enter Tryz.func65, Tryz.ntmps65
  go_wp2
  go_ret
  exact ⟨rfl, rfl⟩
theorem below_three {w : World} {A B C : Obj} : Below w.heap.size w (((w.alloc A).alloc B).alloc C) := ((belowNew (w := w) (A := A)).alloc (by simp) _).alloc (by simp; omega) _
set_option maxRecDepth 100000 in
theorem exOver_any (a b d z a2 b2 d2 z2 : Int) (w : World) (ha : 0 ≤ a2 ∧ a2 ≤ a ∧ a ≤ 65535) (hb : 0 ≤ b2 ∧ b2 ≤ b ∧ b ≤ 65535) (hd : 0 ≤ d2 ∧ d2 ≤ d ∧ d ≤ 65535) (hz : 0 ≤ z2 ∧ z2 ≤ z ∧ z ≤ 65535) :
    Calls Tryz.prog 62 #[exV a b d z, exV a2 b2 d2 z2] w fun e w' => e = .returned (exV (a - a2) (b - b2) (d - d2) (z - z2)) ∧ Below w.heap.size w w' := by
  obtain ⟨ha0, ha1, ha2⟩ := ha
  obtain ⟨hb0, hb1, hb2⟩ := hb
  obtain ⟨hd0, hd1, hd2⟩ := hd
  obtain ⟨hz0, hz1, hz2⟩ := hz
  unfold exV
  go_enter Tryz.func62, Tryz.ntmps62
  go_wp2
  refine bodyPost_ret (v := .agg #[.int .u16 (a - a2), .int .u16 (b - b2), .int .u16 (d - d2), .int .u16 (z - z2)]) (by simp [results, Tryz.results62, go_sem]) rfl ⟨rfl, below_three⟩
set_option maxRecDepth 100000 in
theorem exTimes_any (a b d z a2 b2 d2 z2 : Int) (w : World) (ha : 0 ≤ a ∧ 0 ≤ a2 ∧ a + a2 ≤ 65535) (hb : 0 ≤ b ∧ 0 ≤ b2 ∧ b + b2 ≤ 65535) (hd : 0 ≤ d ∧ 0 ≤ d2 ∧ d + d2 ≤ 65535) (hz : 0 ≤ z ∧ 0 ≤ z2 ∧ z + z2 ≤ 65535) :
    Calls Tryz.prog 103 #[exV a b d z, exV a2 b2 d2 z2] w fun e w' => e = .returned (exV (a + a2) (b + b2) (d + d2) (z + z2)) ∧ Below w.heap.size w w' := by
  obtain ⟨ha0, ha1, ha2⟩ := ha
  obtain ⟨hb0, hb1, hb2⟩ := hb
  obtain ⟨hd0, hd1, hd2⟩ := hd
  obtain ⟨hz0, hz1, hz2⟩ := hz
  unfold exV
  go_enter Tryz.func103, Tryz.ntmps103
  go_wp2
  refine bodyPost_ret (v := .agg #[.int .u16 (a + a2), .int .u16 (b + b2), .int .u16 (d + d2), .int .u16 (z + z2)]) (by simp [results, Tryz.results103, go_sem]) rfl ⟨rfl, below_three⟩
def intoE (a b d z a2 b2 d2 z2 : Int) : Bool := decide (a ≤ a2) && decide (b ≤ b2) && decide (d ≤ d2) && decide (z ≤ z2)
set_option maxRecDepth 100000 in
theorem exInto_any (a b d z a2 b2 d2 z2 : Int) (w : World) :
    Calls Tryz.prog 104 #[exV a b d z, exV a2 b2 d2 z2] w fun e w' => e = .returned (.bool (intoE a b d z a2 b2 d2 z2)) ∧ Below w.heap.size w w' := by
  unfold exV intoE
  by_cases h1 : a ≤ a2
  rotate_left
  · have d1 := decide_eq_false h1
    rw [d1]
    go_enter Tryz.func104, Tryz.ntmps104
    go_wp2
    go_ret
    exact ⟨rfl, below_two⟩
  by_cases h2 : b ≤ b2
  rotate_left
  · have d1 := decide_eq_true h1
    have d2 := decide_eq_false h2
    rw [d1, d2]
    go_enter Tryz.func104, Tryz.ntmps104
    go_wp2
    go_ret
    exact ⟨rfl, below_two⟩
  by_cases h3 : d ≤ d2
  rotate_left
  · have d1 := decide_eq_true h1
    have d3 := decide_eq_true h2
    have d4 := decide_eq_false h3
    rw [d1, d3, d4]
    go_enter Tryz.func104, Tryz.ntmps104
    go_wp2
    go_ret
    exact ⟨rfl, below_two⟩
  have d1 := decide_eq_true h1
  have d3 := decide_eq_true h2
  have d4 := decide_eq_true h3
  rw [d1, d3, d4]
  go_enter Tryz.func104, Tryz.ntmps104
  go_wp2
  go_ret
  exact ⟨by simp, below_two⟩
theorem invI_ok {p a : Int} (hpr : errP p = 0) (ha : 0 < a ∧ a < p) : 1 ≤ invI p a ∧ invI p a < p ∧ a * invI p a % p = 1 := by
  obtain ⟨hp1, hp2, hd⟩ := errP_ok hpr
  obtain ⟨pn, rfl⟩ : ∃ n : Nat, p = n := ⟨p.toNat, by omega⟩
  obtain ⟨an, rfl⟩ : ∃ n : Nat, a = n := ⟨a.toNat, by omega⟩
  have h := invOk_of (p := pn) (a := an) (by omega) (by omega) (by simpa [primeB] using hd) (by omega) (by omega)
  simp only [invOk, Bool.and_eq_true, decide_eq_true_eq, beq_iff_eq] at h
  obtain ⟨⟨⟨h1, h2⟩, h3⟩, _⟩ := h
  have e : invI (pn : Int) (an : Int) = ((invN pn an : Nat) : Int) := rfl
  rw [e]
  refine ⟨by omega, by omega, ?_⟩
  have h4 : ((an * invN pn an % pn : Nat) : Int) = ((1 % pn : Nat) : Int) := congrArg _ h3
  rw [Nat.mod_eq_of_lt (show 1 < pn by omega)] at h4
  simpa [Int.natCast_emod, Int.natCast_mul] using h4
set_option maxRecDepth 100000 in
theorem flatInverse_any (ob : Nat) (p k0 k1 k2 : Int) (sv : Value) (a : Int) (w : World) (ho : OrdB w ob p k0 k1 k2 sv) (hpr : errP p = 0) (ha : 0 < a ∧ a < p) :
    Calls Tryz.prog 94 #[.pointer (some ⟨ob, 0, none⟩), .int .u8 a] w fun e w' => e = .returned (.int .u8 (invI p a)) ∧ Below w.heap.size w w' := by
  obtain ⟨hp1, hp2, _⟩ := errP_ok hpr
  obtain ⟨i0, i1, _⟩ := invI_ok hpr ha
  obtain ⟨ha0, ha1⟩ := ha
  have hn : numE p [a] = 0 := by
    unfold numE
    rw [if_pos hpr, if_neg]
    simp [outP]
    omega
  have e1 : ivE p a = 0 := by unfold ivE; rw [if_pos hn, if_neg (by omega)]
  have e2 : ivR p a = invI p a := by unfold ivR; rw [if_pos e1]
  have HI := hid (fieldInverse_any p a w)
  rw [e1, e2] at HI
  clear e1 e2 hn hpr
  obtain ⟨hlt, c0, c1, c2, c3, c4⟩ := ho
  generalize invI p a = q at *
  go_enter Tryz.func94, Tryz.ntmps94
  go_wp2_with (go_at_call 121; refine HI.out.mono ?_; rintro e w1 ⟨rfl, hb1⟩; have HB1 := hid hb1; clear hb1)
  go_ret
  exact ⟨rfl, HB1.out⟩
structure DivB (w : World) (b off : Nat) (t : Ft) (rv : Value) (num inv : Int) : Prop where
  lt : b < w.heap.size
  cs : ∀ j u, (encF t)[j]? = some u → w.cell? ⟨b, off + j, none⟩ = some u
  c7 : w.cell? ⟨b, off + 7, none⟩ = some rv
  c8 : w.cell? ⟨b, off + 8, none⟩ = some (.int .i64 num)
  c9 : w.cell? ⟨b, off + 9, none⟩ = some (.int .u8 inv)
theorem DivB.below {w w' : World} {b off : Nat} {t : Ft} {rv : Value} {num inv : Int} (h : DivB w b off t rv num inv) (hb : Below w.heap.size w w') : DivB w' b off t rv num inv :=
  ⟨Nat.lt_of_lt_of_le h.lt hb.size, fun j u hj => cell_keep (h.cs j u hj) hb, cell_keep h.c7 hb, cell_keep h.c8 hb, cell_keep h.c9 hb⟩
theorem DivB.cells {w : World} {b off : Nat} {t : Ft} {rv : Value} {num inv : Int} (h : DivB w b off t rv num inv) : w.cell? ⟨b, off, none⟩ = some (.int .i64 t.k) ∧ w.cell? ⟨b, off + 1, none⟩ = some (.int .u16 t.a) ∧ w.cell? ⟨b, off + 2, none⟩ = some (.int .u16 t.b) ∧ w.cell? ⟨b, off + 3, none⟩ = some (.int .u16 t.d) ∧ w.cell? ⟨b, off + 4, none⟩ = some (.int .u16 t.z) ∧ w.cell? ⟨b, off + 5, none⟩ = some (.int .u8 t.pl) ∧ w.cell? ⟨b, off + 6, none⟩ = some (.int .u8 t.c) :=
  ⟨h.cs 0 _ rfl, h.cs 1 _ rfl, h.cs 2 _ rfl, h.cs 3 _ rfl, h.cs 4 _ rfl, h.cs 5 _ rfl, h.cs 6 _ rfl⟩
def intoF (l t : Ft) : Bool := decide (l.pl = t.pl) && intoE l.a l.b l.d l.z t.a t.b t.d t.z

set_option maxRecDepth 100000 in
set_option maxHeartbeats 1000000 in
theorem divInto_any (b off : Nat) (l t : Ft) (rv : Value) (num inv : Int) (w : World) (hd : DivB w b off l rv num inv) :
    Calls Tryz.prog 66 #[.pointer (some ⟨b, off, none⟩), ftV t] w fun e w' => e = .returned (.bool (intoF l t)) ∧ Below w.heap.size w w' := by
  obtain ⟨c0, c1, c2, c3, c4, c5, c6⟩ := hd.cells
  obtain ⟨w1, hw1⟩ : ∃ w1, w1 = w.alloc (.cells #[.int .i64 t.k, .int .u16 t.a, .int .u16 t.b, .int .u16 t.d, .int .u16 t.z, .int .u8 t.pl, .int .u8 t.c] 52) := ⟨_, rfl⟩
  have HB : Hid (Below w.heap.size w w1) := by rw [hw1]; exact below_oneG
  have HX : Hid (w1.cell? ⟨w.heap.size, 1, none⟩ = some (.int .u16 t.a) ∧ w1.cell? ⟨w.heap.size, 2, none⟩ = some (.int .u16 t.b) ∧ w1.cell? ⟨w.heap.size, 3, none⟩ = some (.int .u16 t.d) ∧ w1.cell? ⟨w.heap.size, 4, none⟩ = some (.int .u16 t.z) ∧ w1.cell? ⟨w.heap.size, 5, none⟩ = some (.int .u8 t.pl)) := by
    rw [hw1]; exact hid ⟨by simp [go_sem], by simp [go_sem], by simp [go_sem], by simp [go_sem], by simp [go_sem]⟩
  have y1 := cell_keep c1 HB.out
  have y2 := cell_keep c2 HB.out
  have y3 := cell_keep c3 HB.out
  have y4 := cell_keep c4 HB.out
  have y5 := cell_keep c5 HB.out
  obtain ⟨x1, x2, x3, x4, x5⟩ := HX.out
  have KEEP : Hid (∀ W, Below w1.heap.size w1 W → (Hid (Below w1.heap.size w1 W) ∧ W.cell? ⟨b, off + 1, none⟩ = some (.int .u16 l.a) ∧ W.cell? ⟨b, off + 2, none⟩ = some (.int .u16 l.b) ∧ W.cell? ⟨b, off + 3, none⟩ = some (.int .u16 l.d) ∧ W.cell? ⟨b, off + 4, none⟩ = some (.int .u16 l.z) ∧ W.cell? ⟨b, off + 5, none⟩ = some (.int .u8 l.pl) ∧ W.cell? ⟨w.heap.size, 1, none⟩ = some (.int .u16 t.a) ∧ W.cell? ⟨w.heap.size, 2, none⟩ = some (.int .u16 t.b) ∧ W.cell? ⟨w.heap.size, 3, none⟩ = some (.int .u16 t.d) ∧ W.cell? ⟨w.heap.size, 4, none⟩ = some (.int .u16 t.z) ∧ W.cell? ⟨w.heap.size, 5, none⟩ = some (.int .u8 t.pl))) :=
    fun W h => ⟨h, cell_keep y1 h, cell_keep y2 h, cell_keep y3 h, cell_keep y4 h, cell_keep y5 h, cell_keep x1 h, cell_keep x2 h, cell_keep x3 h, cell_keep x4 h, cell_keep x5 h⟩
  have HB0 : Hid (Below w1.heap.size w1 w1.drew) := (Below.refl _ _).drew
  unfold ftV intoF
  clear c0 c1 c2 c3 c4 c5 c6 HX hd
  by_cases h : l.pl = t.pl
  · have hb : (l.pl == t.pl) = true := by simpa using h
    have HE := hid (exInto_any l.a l.b l.d l.z t.a t.b t.d t.z)
    rw [decide_eq_true h, Bool.true_and]
    clear h y1 y2 y3 y4 y5 x1 x2 x3 x4 x5
    unfold exV at HE
    go_enter Tryz.func66, Tryz.ntmps66
    go_wp2_with fail
    rw [← hw1]
    clear hw1
    go_region_held (fun W => Hid (Below w1.heap.size w1 W) ∧ W.cell? ⟨b, off + 1, none⟩ = some (.int .u16 l.a) ∧ W.cell? ⟨b, off + 2, none⟩ = some (.int .u16 l.b) ∧ W.cell? ⟨b, off + 3, none⟩ = some (.int .u16 l.d) ∧ W.cell? ⟨b, off + 4, none⟩ = some (.int .u16 l.z) ∧ W.cell? ⟨b, off + 5, none⟩ = some (.int .u8 l.pl) ∧ W.cell? ⟨w.heap.size, 1, none⟩ = some (.int .u16 t.a) ∧ W.cell? ⟨w.heap.size, 2, none⟩ = some (.int .u16 t.b) ∧ W.cell? ⟨w.heap.size, 3, none⟩ = some (.int .u16 t.d) ∧ W.cell? ⟨w.heap.size, 4, none⟩ = some (.int .u16 t.z) ∧ W.cell? ⟨w.heap.size, 5, none⟩ = some (.int .u8 t.pl))
      (first | exact KEEP.out _ HB0.out | exact KEEP.out _ HB2.out)
      (first | (go_at_call 104; refine (HE.out _).mono ?_; rintro e w2 ⟨rfl, hb2⟩; have HB2 := hid (HB0.out.trans (hb2.mono HB0.out.size)); clear hb2))
    go_wp2
    go_ret
    exact ⟨rfl, HB.out.trans (HB2.out.mono HB.out.size)⟩
  · have hb : (l.pl == t.pl) = false := by simpa using h
    rw [decide_eq_false h, Bool.false_and]
    clear h
    go_enter Tryz.func66, Tryz.ntmps66
    go_wp2_with fail
    rw [← hw1]
    clear hw1
    go_quiet (fail)
    go_wp2
    go_ret
    exact ⟨rfl, below_drewN HB.out _⟩
theorem Tryz.infoFt : (Tryz.prog.info? 52).map (fun i => (i.zero, i.size, i.bytes)) = some (some (.agg #[.int .i64 0, .int .u16 0, .int .u16 0, .int .u16 0, .int .u16 0, .int .u8 0, .int .u8 0]), 7, 24) := by kernel_rfl
def flatF (fs : List Ft) : List Value := fs.flatMap encF
theorem flatF_len (fs : List Ft) : (flatF fs).length = fs.length * 7 := by
  induction fs with
  | nil => rfl
  | cons t fs ih => simp only [flatF, List.flatMap_cons, List.length_append, List.length_cons] at ih ⊢; rw [ih]; simp [encF]; omega
theorem flatF_cons (t : Ft) (fs : List Ft) : flatF (t :: fs) = encF t ++ flatF fs := rfl
theorem flatF_append (fs gs : List Ft) : flatF (fs ++ gs) = flatF fs ++ flatF gs := by unfold flatF; rw [List.flatMap_append]
theorem flatF_snoc (fs : List Ft) (t : Ft) : flatF (fs ++ [t]) = flatF fs ++ encF t := by rw [flatF_append, flatF_cons]; simp [flatF]
theorem encF_one (t : Ft) : ∀ u ∈ encF t, u.oneCell' = true := by
  intro u hu
  simp only [encF, List.mem_cons, List.not_mem_nil, or_false] at hu
  rcases hu with rfl | rfl | rfl | rfl | rfl | rfl | rfl <;> rfl
theorem flatF_one (fs : List Ft) : ∀ u ∈ flatF fs, u.oneCell' = true := by
  intro u hu
  simp only [flatF, List.mem_flatMap] at hu
  obtain ⟨t, _, hu⟩ := hu
  exact encF_one t u hu
def Fv (w : World) (v : Value) (fs : List Ft) : Prop :=
  ∃ a cap, v = .slice a fs.length cap ∧ fs.length ≤ cap ∧ (0 < fs.length → ∃ b off, a = some ⟨b, off, none⟩ ∧ b < w.heap.size ∧ ∀ j u, (flatF fs)[j]? = some u → w.cell? ⟨b, off + j, none⟩ = some u)
theorem Fv.below {w w' : World} {v : Value} {fs : List Ft} (h : Fv w v fs) (hb : Below w.heap.size w w') : Fv w' v fs := by
  obtain ⟨a, cap, rfl, hc, h1⟩ := h
  refine ⟨a, cap, rfl, hc, fun hp => ?_⟩
  obtain ⟨b, off, rfl, hlt, hcs⟩ := h1 hp
  exact ⟨b, off, rfl, Nat.lt_of_lt_of_le hlt hb.size, fun j u hj => cell_keep (hcs j u hj) hb⟩
theorem fv_nil {w : World} (a : Option Addr) (c : Nat) : Fv w (.slice a 0 c) [] := ⟨a, c, rfl, Nat.zero_le _, fun h => absurd h (by simp)⟩
theorem own_fv {w : World} {B : Nat} {v : Value} {ts : List Ft} (h : w.ownsRow B 52 7 v ts.length (flatF ts)) : Fv w v ts := by
  rcases h.2 with ⟨h1, h2⟩ | ⟨b, cap, cur, rfl, hb, hh, hn, hm, hcs, ht⟩
  · exact ⟨none, 0, by rw [h1, h2], by omega, fun hp => by omega⟩
  · have hlt := World.ownsRow.lt h b rfl
    refine ⟨_, cap, rfl, hn, fun hp => ⟨b, 0, rfl, hlt.2, fun j u hj => ?_⟩⟩
    have hjl : j < ts.length * 7 := by
      rw [← flatF_len]
      apply Nat.lt_of_not_le; intro hle; rw [List.getElem?_eq_none hle] at hj; simp at hj
    rw [Nat.zero_add, h.cellAt j hjl]; exact hj
def FtAt (w : World) (b off : Nat) (t : Ft) : Prop := w.cell? ⟨b, off, none⟩ = some (.int .i64 t.k) ∧ w.cell? ⟨b, off + 1, none⟩ = some (.int .u16 t.a) ∧ w.cell? ⟨b, off + 2, none⟩ = some (.int .u16 t.b) ∧ w.cell? ⟨b, off + 3, none⟩ = some (.int .u16 t.d) ∧ w.cell? ⟨b, off + 4, none⟩ = some (.int .u16 t.z) ∧ w.cell? ⟨b, off + 5, none⟩ = some (.int .u8 t.pl) ∧ w.cell? ⟨b, off + 6, none⟩ = some (.int .u8 t.c)
theorem FtAt.keep {w w' : World} {b off : Nat} {t : Ft} (h : FtAt w b off t) (hb : Below w.heap.size w w') : FtAt w' b off t :=
  ⟨cell_keep h.1 hb, cell_keep h.2.1 hb, cell_keep h.2.2.1 hb, cell_keep h.2.2.2.1 hb, cell_keep h.2.2.2.2.1 hb, cell_keep h.2.2.2.2.2.1 hb, cell_keep h.2.2.2.2.2.2 hb⟩
theorem ft_at_of {w : World} {b off : Nat} {t : Ft} (h : ∀ j u, (encF t)[j]? = some u → w.cell? ⟨b, off + j, none⟩ = some u) : FtAt w b off t :=
  ⟨h 0 _ rfl, h 1 _ rfl, h 2 _ rfl, h 3 _ rfl, h 4 _ rfl, h 5 _ rfl, h 6 _ rfl⟩
theorem flatF_drop : ∀ (fs : List Ft) (k : Nat), flatF (fs.drop k) = (flatF fs).drop (k * 7)
  | fs, 0 => by simp
  | [], k + 1 => by simp [flatF]
  | t :: fs, k + 1 => by
    rw [List.drop_succ_cons, flatF_drop fs k, flatF_cons, show (k + 1) * 7 = 7 + k * 7 by omega, ← List.drop_drop]
    simp [encF]
def noF : Ft := ⟨0, 0, 0, 0, 0, 0, 0⟩
theorem Fv.at {w : World} {a : Option Addr} {n cap : Nat} {fs : List Ft} (h : Fv w (.slice a n cap) fs) (k : Nat) (hk : k < fs.length) : ∃ b off, a = some ⟨b, off, none⟩ ∧ b < w.heap.size ∧ n = fs.length ∧ FtAt w b (off + k * 7) (fs.getD k noF) := by
  obtain ⟨a2, c2, e, _, h1⟩ := h
  obtain ⟨b, off, rfl, hlt, hcs⟩ := h1 (by omega)
  simp only [Value.slice.injEq] at e
  obtain ⟨rfl, rfl, rfl⟩ := e
  refine ⟨b, off, rfl, hlt, rfl, ft_at_of fun j u hj => ?_⟩
  have hd : (flatF (fs.drop k))[j]? = some u := by
    rw [List.drop_eq_getElem_cons hk, flatF_cons, List.getElem?_append_left]
    · have e : fs.getD k noF = fs[k] := by simp [List.getD_eq_getElem?_getD, hk]
      rw [e] at hj; exact hj
    · apply Nat.lt_of_not_le; intro hle; rw [List.getElem?_eq_none (by simpa [encF] using hle)] at hj; simp at hj
  rw [flatF_drop, List.getElem?_drop] at hd
  rw [Nat.add_assoc]
  exact hcs _ _ hd
theorem Fv.head {w : World} {v : Value} {t : Ft} {ts : List Ft} (h : Fv w v (t :: ts)) : ∃ b off cap, v = .slice (some ⟨b, off, none⟩) (ts.length + 1) cap ∧ ts.length + 1 ≤ cap ∧ b < w.heap.size ∧ FtAt w b off t ∧ (cap = 1 → ts = []) ∧ Fv w (.slice (some ⟨b, off + 7, none⟩) ts.length (cap - 1)) ts := by
  obtain ⟨a, cap, rfl, hcap, h⟩ := h
  obtain ⟨b, off, rfl, hlt, hc⟩ := h (by simp)
  simp only [List.length_cons] at hcap
  refine ⟨b, off, cap, rfl, hcap, hlt, ft_at_of fun j u hj => hc j u ?_, fun e => List.length_eq_zero_iff.1 (by omega), _, _, rfl, by omega, fun hp => ⟨b, off + 7, rfl, hlt, fun j u hj => ?_⟩⟩
  · rw [flatF_cons, List.getElem?_append_left]
    · exact hj
    · apply Nat.lt_of_not_le; intro hle; rw [List.getElem?_eq_none hle] at hj; simp at hj
  · rw [Nat.add_assoc]
    refine hc (7 + j) u ?_
    rw [flatF_cons, List.getElem?_append_right (by simp [encF])]
    simpa [encF] using hj
theorem Fv.tail {w : World} {b off cap : Nat} {ts : List Ft} (h : (cap = 1 → ts = []) ∧ Fv w (.slice (some ⟨b, off + 7, none⟩) ts.length (cap - 1)) ts) :
    ∃ A, (if cap = 1 then (some ⟨b, off, none⟩ : Option Addr) else some ⟨b, off + 7, none⟩) = some A ∧ Fv w (.slice (some A) ts.length (cap - 1)) ts := by
  by_cases hc : cap = 1
  · have e := h.1 hc
    subst e
    exact ⟨⟨b, off, none⟩, if_pos hc, _, _, rfl, Nat.zero_le _, fun h => absurd h (by simp)⟩
  · exact ⟨⟨b, off + 7, none⟩, if_neg hc, h.2⟩

def mergeK (p : Int) : List Ft → List Ft → List Ft
  | [], g => g
  | t :: f, [] => t :: f
  | t :: f, u :: g =>
    if u.k < t.k then t :: mergeK p f (u :: g)
    else if t.k < u.k then u :: mergeK p (t :: f) g
    else if (t.c + u.c) % p ≠ 0 then { t with c := (t.c + u.c) % p } :: mergeK p f g
    else mergeK p f g

theorem mergeK_nilL (p : Int) (g : List Ft) : mergeK p [] g = g := by unfold mergeK; rfl
theorem mergeK_nilR (p : Int) (f : List Ft) : mergeK p f [] = f := by cases f <;> (unfold mergeK; rfl)
theorem mergeK_gt {p : Int} {t u : Ft} {f g : List Ft} (h : u.k < t.k) : mergeK p (t :: f) (u :: g) = t :: mergeK p f (u :: g) := by rw [mergeK, if_pos h]
theorem mergeK_lt {p : Int} {t u : Ft} {f g : List Ft} (h : t.k < u.k) : mergeK p (t :: f) (u :: g) = u :: mergeK p (t :: f) g := by rw [mergeK, if_neg (by omega), if_pos h]
theorem mergeK_eq {p : Int} {t u : Ft} {f g : List Ft} (h : t.k = u.k) (hc : (t.c + u.c) % p ≠ 0) : mergeK p (t :: f) (u :: g) = { t with c := (t.c + u.c) % p } :: mergeK p f g := by rw [mergeK, if_neg (by omega), if_neg (by omega), if_pos hc]
theorem mergeK_no {p : Int} {t u : Ft} {f g : List Ft} (h : t.k = u.k) (hc : (t.c + u.c) % p = 0) : mergeK p (t :: f) (u :: g) = mergeK p f g := by rw [mergeK, if_neg (by omega), if_neg (by omega), if_neg (by omega)]
end Go.Proofs.YtilogbggilchaaaGreat
