/- vector.Lead. -/
import Derived.Test.YtkmjmmnnnbjghaaGreatWI
import Derived.Test.YtkmjmmnnnbjghaaGreatA
namespace Go.Proofs.YtkmjmmnnnbjghaaGreat
set_option linter.unusedSimpArgs false
set_option linter.unusedVariables false
open Go.RowKit

def leadE (E : Int) (st : Ld) : Int := if E ≠ 0 then E else match st with
  | none => 5
  | some _ => 0
def leadS (E : Int) (st : Ld) : Ld := if E = 0 then st else none
def ldP : Ld → Int
  | none => 0
  | some (j, _) => j
/-- The worlds of Lead: the ring, the answer's cell. -/
structure ReW (w wr : World) (p n o v : Int) : Prop where
  below : Below w.heap.size w wr
  box : BoxAt wr w.heap.size p n o v
  res : wr.ownsRow w.heap.size 57 2 (.slice (some ⟨w.heap.size + 1, 0, none⟩) 1 1) 1 [.int .i64 0, .slice none 0 0]
theorem ReW.next {w wr w' : World} {p n o v : Int} (h : ReW w wr p n o v) (hb : Below wr.heap.size wr w') : ReW w w' p n o v :=
  ⟨h.below.trans (hb.mono h.below.size), h.box.below hb, ownBlock_lt h.res hb⟩
theorem ReW.first (w : World) (p n o v : Int) : ReW w ((w.alloc (.cells #[.int .i64 p, .int .i64 n, .int .i64 o, .int .i64 v] 23)).alloc (.cells #[.int .i64 0, .slice none 0 0] 57)) p n o v := by
  have h1 := made_term (w := w.alloc (.cells #[.int .i64 p, .int .i64 n, .int .i64 o, .int .i64 v] 23)) (B := w.heap.size) (by simp) 0 (.slice none 0 0)
  exact ⟨below_two, (BoxAt.new w p n o v _).below belowNew, by simpa using h1⟩
theorem ReW.cells {w wr : World} {p n o v : Int} (h : ReW w wr p n o v) : wr.cell? ⟨w.heap.size + 1, 0, none⟩ = some (.int .i64 0) ∧ wr.cell? ⟨w.heap.size + 1, 1, none⟩ = some (.slice none 0 0) ∧ wr.frozen? ⟨w.heap.size + 1, 0, none⟩ = false ∧ wr.frozen? ⟨w.heap.size + 1, 1, none⟩ = false :=
  ⟨h.res.cellAt 0 (by omega), h.res.cellAt 1 (by omega), h.res.frozenAt 0, h.res.frozenAt 1⟩
theorem ReW.put {w wr : World} {p n o v : Int} (h : ReW w wr p n o v) (c : Int) (u : Value) : Below w.heap.size w ((wr.setCell ⟨w.heap.size + 1, 0, none⟩ (.int .i64 c)).setCell ⟨w.heap.size + 1, 1, none⟩ u) ∧
    ((wr.setCell ⟨w.heap.size + 1, 0, none⟩ (.int .i64 c)).setCell ⟨w.heap.size + 1, 1, none⟩ u).cell? ⟨w.heap.size + 1, 0, none⟩ = some (.int .i64 c) ∧
    ((wr.setCell ⟨w.heap.size + 1, 0, none⟩ (.int .i64 c)).setCell ⟨w.heap.size + 1, 1, none⟩ u).cell? ⟨w.heap.size + 1, 1, none⟩ = some u := by
  have s1 := h.res.stored 0 (.int .i64 c)
  have s2 := s1.1.stored 1 u
  exact ⟨h.below.trans (grown_below (grown_trans s1.2 s2.2) (by omega) h.below.size), s2.1.cellAt 0 (by omega), s2.1.cellAt 1 (by omega)⟩

set_option maxRecDepth 100000 in
set_option maxHeartbeats 2000000 in
theorem vecLead_any (p n o v : Int) (x : Value) (fss : List (List Tm)) (w : World) (pf : Vl w x fss) :
    Calls Tryz.prog 45 #[ringV p n o v, x] w fun e w' => ∃ ea ec, e = .returned (.tuple #[.int .i64 (ldP (leadS (errAlike p n o v [fss]) (leadF o v fss fss.length))), .agg #[.int .i64 (ldC (leadS (errAlike p n o v [fss]) (leadF o v fss fss.length))), .slice ea (ldE (leadS (errAlike p n o v [fss]) (leadF o v fss fss.length))).length ec], .int .i64 (leadE (errAlike p n o v [fss]) (leadF o v fss fss.length))]) ∧
      Sl w' (.slice ea (ldE (leadS (errAlike p n o v [fss]) (leadF o v fss fss.length))).length ec) (ldE (leadS (errAlike p n o v [fss]) (leadF o v fss fss.length))) ∧ Below w.heap.size w w' := by
  have HX := hid pf
  obtain ⟨ax, cx, rfl, _⟩ := pf
  obtain ⟨w2, hw2⟩ : ∃ w2, w2 = (w.alloc (.cells #[.int .i64 p, .int .i64 n, .int .i64 o, .int .i64 v] 23)).alloc (.cells #[.int .i64 0, .slice none 0 0] 57) := ⟨_, rfl⟩
  have HR2 : Hid (ReW w w2 p n o v) := by rw [hw2]; exact ReW.first w p n o v
  have hs2 : w2.heap.size = w.heap.size + 1 + 1 := by rw [hw2]; simp
  have HW2 : Hid (∀ T, Wl (w2.alloc (.cells #[.slice ax fss.length cx] T)) (.slice (some ⟨w2.heap.size, 0, none⟩) 1 1) [fss]) := fun T => wl_one ((HX.out.below HR2.out.below).below below_oneG) (by simp) (by simp [go_sem])
  rw [hs2] at HW2
  have HVA := hid (fun T => vecAll_any p n o v _ [fss] _ (by simp) (HW2.out T))
  obtain ⟨_, bx0, bx1, bx2, bx3⟩ := HR2.out.box
  clear hs2
  cases hz : (errAlike p n o v [fss] != 0)
  · have hz0 : errAlike p n o v [fss] = 0 := by simpa using hz
    have HS0 : Hid (∀ st, leadS (errAlike p n o v [fss]) st = st) := fun st => by unfold leadS; rw [if_pos hz0]
    have HE0 : Hid (∀ st, leadE (errAlike p n o v [fss]) st = leadE 0 st) := fun st => by rw [hz0]
    rw [HS0.out, HE0.out]
    obtain ⟨hR, hall⟩ := alike_ok hz0
    obtain ⟨h1, _, h3⟩ := hall fss (by simp)
    obtain ⟨hpr, hn1, hn2, ho, hov⟩ := ring_ok hR
    have HRT : Hid (∀ f ∈ fss, Right p o n.toNat f) := fun f hf => (right_of hR (h3 f hf)).1
    have hN0 : 0 < n.toNat := by omega
    have hN3 : n.toNat ≤ 3 := by omega
    have h40 : fss.length ≤ 1000 := by omega
    have HO := hid ho
    have HZ := hid hz0
    have HAT := hid (fun j u => leadF_at (o := o) (ov := v) (fss := fss) (k := fss.length) (j := j) (u := u))
    clear hz0 hR hall h1 h3 hpr ho hov
    have HLP := hid (fun (W : World) (hv : Vl W (.slice ax fss.length cx) fss) => leadPlace_any p n o v n.toNat _ fss W HO.out hN0 hN3 h40 HRT.out hv)
    generalize leadF o v fss fss.length = st at HAT HLP ⊢
    cases st with
    | none =>
      have HP0 : Hid (∀ W, Vl W (.slice ax fss.length cx) fss → Calls Tryz.prog 77 #[ringV p n o v, .slice ax fss.length cx] W fun e w' => e = .returned (.int .i64 (-1)) ∧ Below W.heap.size W w') := HLP.out
      go_enter Tryz.func45, Tryz.ntmps45
      go_wp2_with fail
      try rw [← hw2]
      refine (HVA.out _).mono ?_
      rw [HZ.out]
      rintro e w3 ⟨rfl, hb3⟩
      have HR3 := hid (HR2.out.next (below_oneG.trans (hb3.mono (by simp))))
      clear hb3 bx0 bx1 bx2 bx3 hw2
      obtain ⟨_, bx0, bx1, bx2, bx3⟩ := HR3.out.box
      go_wp2_with fail
      refine (HP0.out _ (HX.out.below HR3.out.below)).mono ?_
      rintro e w4 ⟨rfl, hb4⟩
      have HR4 := hid (HR3.out.next hb4)
      clear hb4
      obtain ⟨r0, r1, q0, q1⟩ := HR4.out.cells
      obtain ⟨hbf, x0, x1⟩ := HR4.out.put 0 (.slice none 0 0)
      have HBF := hid hbf
      have HX01 := hid (And.intro x0 x1)
      clear hbf x0 x1
      go_wp2
      refine bodyPost_ret (v := .tuple #[.int .i64 0, .agg #[.int .i64 0, .slice none 0 0], .int .i64 5]) (by have x0 := HX01.out.1; have x1 := HX01.out.2; simp [results, Tryz.results45, go_sem, x0, x1]) rfl ⟨none, 0, rfl, ⟨none, 0, rfl, fun h => by simp [ldE] at h⟩, HBF.out⟩
    | some q =>
      obtain ⟨j, u⟩ := q
      obtain ⟨hj, us, hus⟩ := HAT.out j u rfl
      obtain ⟨b, off, fa, fc, rfl, hlt, c0, hpf⟩ := vl_at HX.out j hj
      have HRU := hid (HRT.out _ (getD_memL fss j hj))
      rw [hus] at c0 hpf HRU
      obtain ⟨b2, off2, ea, ec, rfl, hlt2, e0, e1, hse⟩ := pl_first hpf
      have HSE := hid hse
      have hu3 : u.2.length ≤ 400 := by rw [HRU.out.canon.len u (by simp)]; omega
      obtain ⟨mm, hmj⟩ : ∃ mm : Int, (j : Int) = mm := ⟨_, rfl⟩
      have hm0 : ¬ mm < 0 := by omega
      have hm1 : 0 ≤ mm := by omega
      have hm2 : mm < (fss.length : Int) := by omega
      have hmt : mm.toNat = j := by omega
      have HMJ := hid hmj
      have HC0 := hid c0
      rw [← hmt] at HC0
      have HP0 : Hid (∀ W, Vl W (.slice (some ⟨b, off, none⟩) fss.length cx) fss → Calls Tryz.prog 77 #[ringV p n o v, .slice (some ⟨b, off, none⟩) fss.length cx] W fun e w' => e = .returned (.int .i64 mm) ∧ Below W.heap.size W w') := fun W hv => by
        have h := HLP.out W hv
        rw [plc_some, hmj] at h
        exact h
      have HE01 := hid (And.intro e0 e1)
      clear hmj hmt hpf hse c0 e0 e1 hus
      go_enter Tryz.func45, Tryz.ntmps45
      go_wp2_with fail
      try rw [← hw2]
      refine (HVA.out _).mono ?_
      rw [HZ.out]
      rintro e w3 ⟨rfl, hb3⟩
      have HR3 := hid (HR2.out.next (below_oneG.trans (hb3.mono (by simp))))
      clear hb3 bx0 bx1 bx2 bx3 hw2
      obtain ⟨_, bx0, bx1, bx2, bx3⟩ := HR3.out.box
      go_wp2_with fail
      refine (HP0.out _ (HX.out.below HR3.out.below)).mono ?_
      rintro e w4 ⟨rfl, hb4⟩
      have HR4 := hid (HR3.out.next hb4)
      clear hb4
      have c0 := cell_keep HC0.out HR4.out.below
      have e0 := cell_keep HE01.out.1 HR4.out.below
      have e1 := cell_keep HE01.out.2 HR4.out.below
      have HR5 := hid (HR4.out.next (belowNew (A := .cells #[.int .i64 u.1, .slice ea u.2.length ec] 57)))
      have D0 : Hid ((w4.alloc (.cells #[.int .i64 u.1, .slice ea u.2.length ec] 57)).drew.cell? ⟨w4.heap.size, 0, none⟩ = some (.int .i64 u.1)) := by show _ = _; simp [go_sem]
      go_wp2_with fail
      go_region_with (go_at_call 78; refine (clone_any _ u.2 _ hu3 ((HSE.out.below HR5.out.below).below (Below.refl _ _).drew)).mono ?_; rintro e w9 ⟨u9, rfl, hu9, hb9⟩; have HR9 := hid ((HR5.out.next (Below.refl _ _).drew).next hb9); have HO9 := hid (show w9.ownsRow w.heap.size 3 1 u9 u.2.length (ints u.2) from ⟨hu9.1, hu9.2.imp id (fun ⟨g, c, cur, h1, h2, h3⟩ => ⟨g, c, cur, h1, Nat.le_trans HR5.out.below.size (by simpa using h2), h3⟩)⟩); obtain ⟨r0, r1, q0, q1⟩ := HR9.out.cells; have d0 := D0.out; rw [← hb9.cell (by simp)] at d0; obtain ⟨ua, uc, rfl⟩ := own_sl' hu9; clear hb9 hu9)
      all_goals
        obtain ⟨hbf, x0, x1⟩ := HR9.out.put u.1 (.slice ua u.2.length uc)
        have HX01 := hid (And.intro x0 x1)
        have HNE : Hid (Sl ((w9.setCell ⟨w.heap.size + 1, 0, none⟩ (.int .i64 u.1)).setCell ⟨w.heap.size + 1, 1, none⟩ (.slice ua u.2.length uc)) (.slice ua u.2.length uc) u.2) := by
          have s1 := HR9.out.res.stored 0 (.int .i64 u.1)
          have s2 := s1.1.stored 1 (.slice ua u.2.length uc)
          exact ownsRow_slI (B := w.heap.size) (HO9.out.kept (grown_trans s1.2 s2.2) (own_neT (by decide) HO9.out HR9.out.res))
        have HBF := hid hbf
        clear hbf x0 x1
        go_wp2
        refine bodyPost_ret (v := .tuple #[.int .i64 mm, .agg #[.int .i64 u.1, .slice ua u.2.length uc], .int .i64 0]) (by have x0 := HX01.out.1; have x1 := HX01.out.2; simp [results, Tryz.results45, go_sem, x0, x1]) rfl ⟨ua, uc, by rw [← HMJ.out]; rfl, HNE.out, HBF.out⟩
  · have hz0 : errAlike p n o v [fss] ≠ 0 := by simpa using hz
    have HS0 : Hid (∀ st, leadS (errAlike p n o v [fss]) st = none) := fun st => by unfold leadS; rw [if_neg hz0]
    have HE0 : Hid (∀ st, leadE (errAlike p n o v [fss]) st = errAlike p n o v [fss]) := fun st => by unfold leadE; rw [if_pos hz0]
    rw [HS0.out, HE0.out]
    clear hz0
    go_enter Tryz.func45, Tryz.ntmps45
    go_wp2_with fail
    try rw [← hw2]
    refine (HVA.out _).mono ?_
    rintro e w3 ⟨rfl, hb3⟩
    have HR3 := hid (HR2.out.next (below_oneG.trans (hb3.mono (by simp))))
    clear hb3
    obtain ⟨r0, r1, q0, q1⟩ := HR3.out.cells
    obtain ⟨hbf, x0, x1⟩ := HR3.out.put 0 (.slice none 0 0)
    have HBF := hid hbf
    have HX01 := hid (And.intro x0 x1)
    clear hbf x0 x1
    go_wp2
    refine bodyPost_ret (v := .tuple #[.int .i64 0, .agg #[.int .i64 0, .slice none 0 0], .int .i64 (errAlike p n o v [fss])]) (by have x0 := HX01.out.1; have x1 := HX01.out.2; simp [results, Tryz.results45, go_sem, x0, x1]) rfl ⟨none, 0, rfl, ⟨none, 0, rfl, fun h => by simp [ldE] at h⟩, HBF.out⟩

end Go.Proofs.YtkmjmmnnnbjghaaGreat

/- slices.Min, slices.Max; termDegrees. -/
namespace Go.Proofs.YtkmjmmnnnbjghaaGreat
set_option linter.unusedSimpArgs false
set_option linter.unusedVariables false
open Go.RowKit

set_option maxHeartbeats 400000 in
theorem minI_any (x : Value) (zs : List Int) (w : World) (hm : zs.length ≤ 1200000000000) (h0 : 0 < zs.length) (hs : Sl w x zs) :
    Calls Tryz.prog 82 #[x] w fun e w' => ∃ r : Int, e = .returned (.int .i64 r) ∧ (∀ z ∈ zs, r ≤ z) ∧ r ∈ zs ∧ w' = w := by
  obtain ⟨a, cap, rfl, h1⟩ := hs
  obtain ⟨b, off, rfl, hlt, hc⟩ := h1 h0
  have HC := hid hc
  have hcell0 := hc 0 h0
  have HZ0 : Hid (zs.take 1 = [zs.getD 0 0]) := by
    show _ = _
    rw [List.take_succ_eq_append_getElem h0]; simp [List.getD_eq_getElem?_getD, h0]
  clear hc h1
  rw [Nat.add_zero] at hcell0
  generalize zs.getD 0 0 = z0 at hcell0 HZ0
  go_enter Tryz.func82, Tryz.ntmps82
  go_wp2
  go_loop [3, 4] (fun m i => ∃ k : Nat, 1 ≤ k ∧ k ≤ zs.length ∧ i = .int .i64 k ∧ ∃ r : Int, m = .int .i64 r ∧ (∀ z ∈ zs.take k, r ≤ z) ∧ r ∈ zs.take k) (fun _ i => zs.length - (intOf i).toNat)
  case atStart => exact ⟨1, by omega, by omega, rfl, z0, rfl, by rw [HZ0.out]; simp, by rw [HZ0.out]; simp⟩
  case round =>
    clear hcell0 HZ0
    obtain ⟨k, hk1, hk, rfl, r, rfl, hr, hmem⟩ := hrel
    have HR := hid (And.intro hr hmem)
    clear hr hmem
    by_cases hk2 : k < zs.length
    · have hcell := HC.out k hk2
      have HN : Hid (zs.take (k + 1) = zs.take k ++ [zs.getD k 0]) := by
        show _ = _
        rw [List.take_succ_eq_append_getElem hk2]; simp [List.getD_eq_getElem?_getD, hk2]
      generalize zs.getD k 0 = z at hcell HN
      go_wp2
      all_goals
        go_round
        case rel =>
          refine ⟨k + 1, by omega, by omega, by go_num, _, rfl, ?_, ?_⟩
          · intro y hy
            rw [HN.out, List.mem_append, List.mem_singleton] at hy
            rcases hy with hy | hy
            · have := HR.out.1 y hy; omega
            · omega
          · rw [HN.out, List.mem_append, List.mem_singleton]
            split <;> first | exact Or.inr rfl | exact Or.inl HR.out.2
        case measure => simp [intOf]; omega
    · have e : k = zs.length := by omega
      subst e
      go_wp2
      go_ret
      have h := HR.out
      rw [List.take_of_length_le (Nat.le_refl _)] at h
      exact ⟨r, rfl, h.1, h.2, rfl⟩
set_option maxHeartbeats 400000 in
theorem maxI_any (x : Value) (zs : List Int) (w : World) (hm : zs.length ≤ 1200000000000) (h0 : 0 < zs.length) (hs : Sl w x zs) :
    Calls Tryz.prog 83 #[x] w fun e w' => ∃ r : Int, e = .returned (.int .i64 r) ∧ (∀ z ∈ zs, z ≤ r) ∧ r ∈ zs ∧ w' = w := by
  obtain ⟨a, cap, rfl, h1⟩ := hs
  obtain ⟨b, off, rfl, hlt, hc⟩ := h1 h0
  have HC := hid hc
  have hcell0 := hc 0 h0
  have HZ0 : Hid (zs.take 1 = [zs.getD 0 0]) := by
    show _ = _
    rw [List.take_succ_eq_append_getElem h0]; simp [List.getD_eq_getElem?_getD, h0]
  clear hc h1
  rw [Nat.add_zero] at hcell0
  generalize zs.getD 0 0 = z0 at hcell0 HZ0
  go_enter Tryz.func83, Tryz.ntmps83
  go_wp2
  go_loop [3, 4] (fun m i => ∃ k : Nat, 1 ≤ k ∧ k ≤ zs.length ∧ i = .int .i64 k ∧ ∃ r : Int, m = .int .i64 r ∧ (∀ z ∈ zs.take k, z ≤ r) ∧ r ∈ zs.take k) (fun _ i => zs.length - (intOf i).toNat)
  case atStart => exact ⟨1, by omega, by omega, rfl, z0, rfl, by rw [HZ0.out]; simp, by rw [HZ0.out]; simp⟩
  case round =>
    clear hcell0 HZ0
    obtain ⟨k, hk1, hk, rfl, r, rfl, hr, hmem⟩ := hrel
    have HR := hid (And.intro hr hmem)
    clear hr hmem
    by_cases hk2 : k < zs.length
    · have hcell := HC.out k hk2
      have HN : Hid (zs.take (k + 1) = zs.take k ++ [zs.getD k 0]) := by
        show _ = _
        rw [List.take_succ_eq_append_getElem hk2]; simp [List.getD_eq_getElem?_getD, hk2]
      generalize zs.getD k 0 = z at hcell HN
      go_wp2
      all_goals
        go_round
        case rel =>
          refine ⟨k + 1, by omega, by omega, by go_num, _, rfl, ?_, ?_⟩
          · intro y hy
            rw [HN.out, List.mem_append, List.mem_singleton] at hy
            rcases hy with hy | hy
            · have := HR.out.1 y hy; omega
            · omega
          · rw [HN.out, List.mem_append, List.mem_singleton]
            split <;> first | exact Or.inr rfl | exact Or.inl HR.out.2
        case measure => simp [intOf]; omega
    · have e : k = zs.length := by omega
      subst e
      go_wp2
      go_ret
      have h := HR.out
      rw [List.take_of_length_le (Nat.le_refl _)] at h
      exact ⟨r, rfl, h.1, h.2, rfl⟩

/-- One integer more, at a step of a region that draws its order. -/
theorem step_append_int {ops : Array Oper} {o : Oper} {a : Act} {w : World} {K : Act → World → Prop} {Q : Exit → Act → World → Prop} {E : Prop} (hgd : o.guard = none) (s x : Operand) (t : TypeId)
    (ho : o.op = .call { callee := .builtin .append, args := #[s, x], argTypes := #[t, t] }) (ht : Tryz.prog.underlying t = some (.slice 3))
    (B : Nat) (v : Value) (L : List Int) (hs : a.eval s = v) (h : w.ownsRow B 3 1 v L.length (ints L)) (ad : Addr) (c : Nat) (z : Int) (hx : a.eval x = .slice (some ad) 1 c)
    (hnew : ∀ j y, [Value.int .i64 z][j]? = some y → w.cell? (ad.add j) = some y) (hn : L.length ≤ 1200000000000) (hB : B ≤ w.heap.size)
    (hK : ∀ v' w', w'.ownsRow B 3 1 v' (L ++ [z]).length (ints (L ++ [z])) → w.grownBy w' v.ownBlock → K (a.put o.dst v') w') :
    if Region.wanted o (yielded ops a.tmps) = true then Oper.wp Tryz.prog o a w K Q else E := by
  have hw : Region.wanted o (yielded ops a.tmps) = true := by simp [Region.wanted, hgd]
  rw [if_pos hw]
  obtain ⟨i0, hi, hz0, hz1, hz2⟩ := info_parts Tryz.infoInt
  obtain ⟨v', w', hr, h2, h3, _⟩ := run_append_own (P := Tryz.prog) w B t o.type 3 i0 _ 1 8 ht hi hz0 hz1 hz2 rfl (by decide) v L.length (ints L) h ad 1 c [.int .i64 z] rfl hnew (fun u hu => by rw [List.mem_singleton] at hu; rw [hu]; rfl) (by unfold maxLen; omega) (by omega) hB
  unfold Oper.wp execOp
  simp only [ho, resolve, invoke, builtin, Sem.run_bind, Sem.run_pure, Result.andThen_ok, List.map_toArray, List.map_cons, List.map_nil, hs, hx, hr]
  exact hK v' w' (by rw [len_snoc]; simpa [ints] using h2) h3

/-- The degrees of the terms of a polynomial at a place. -/
def pdeg (d : Int) (f : List Tm) : List Int := f.map fun t => d + sumI t.2
def degsTo (ds : List Int) (fss : List (List Tm)) (k : Nat) : List Int := (List.range k).flatMap fun i => pdeg (ds.getD i 0) (fss.getD i [])
theorem degsTo_succ (ds : List Int) (fss : List (List Tm)) (k : Nat) : degsTo ds fss (k + 1) = degsTo ds fss k ++ pdeg (ds.getD k 0) (fss.getD k []) := by
  unfold degsTo; rw [List.range_succ, List.flatMap_append]; simp
theorem degsTo_len {ds : List Int} {fss : List (List Tm)} {N : Nat} (h : ∀ f ∈ fss, f.length ≤ N) : ∀ k, k ≤ fss.length → (degsTo ds fss k).length ≤ N * k
  | 0, _ => by simp [degsTo]
  | k + 1, hk => by
    rw [degsTo_succ, List.length_append]
    have h1 := degsTo_len (ds := ds) h k (by omega)
    have h2 := h _ (getD_memL fss k (by omega))
    simp only [pdeg, List.length_map]
    rw [Nat.mul_succ]; omega

set_option maxRecDepth 100000 in
set_option maxHeartbeats 2000000 in
theorem termDegrees_any (x y : Value) (p o : Int) (N : Nat) (ds : List Int) (fss : List (List Tm)) (w : World) (hN0 : 0 < N) (hN : N ≤ 3) (hl : ds.length = fss.length) (hm : fss.length ≤ 40) (hd : ∀ d ∈ ds, 0 ≤ d ∧ d ≤ 200) (hf : ∀ f ∈ fss, Right p o N f) (sd : Sl w x ds) (pf : Vl w y fss) :
    Calls Tryz.prog 81 #[x, y] w fun e w' => ∃ u, e = .returned u ∧ Sl w' u (degsTo ds fss fss.length) ∧ Below w.heap.size w w' := by
  have HX := hid sd
  have HY := hid pf
  have HD := hid hd
  have HF := hid hf
  have HL := hid hl
  obtain ⟨ax, cx, rfl, hsx⟩ := sd
  obtain ⟨ay, cy, rfl, _⟩ := pf
  have HLN := hid (degsTo_len (ds := ds) (fss := fss) (N := 2000) (fun f hf2 => (hf f hf2).len))
  have HSX := hid hsx
  clear hd hf hl hsx
  go_enter Tryz.func81, Tryz.ntmps81
  go_wp2_with fail
  go_loopw [5, 12] (fun z i wr => ∃ k : Nat, k ≤ fss.length ∧ i = .int .i64 k ∧ wr.ownsRow w.heap.size 3 1 z (degsTo ds fss k).length (ints (degsTo ds fss k)) ∧ Below w.heap.size w wr) (fun _ i _ => fss.length - (intOf i).toNat)
  case atStart => exact ⟨0, Nat.zero_le _, rfl, World.ownsRow_nil _ _ _ _, Below.refl _ _⟩
  case round =>
    obtain ⟨k, hk, rfl, hown, hbr⟩ := hrel
    have HOWN := hid hown
    have HBR := hid hbr
    obtain ⟨za, zc, hz⟩ := own_sl' hown
    subst hz
    clear hown hbr
    by_cases hk2 : k < fss.length
    · have hk3 : k < ds.length := by rw [HL.out]; exact hk2
      obtain ⟨b, off, fa, fc, rfl, hlt, c0, hpf⟩ := vl_at HY.out k hk2
      obtain ⟨b3, off3, rfl, hlt3, hc3⟩ := HSX.out (by omega)
      have g0 := hc3 k hk3
      have hdk := HD.out _ (getD_mem ds k hk3)
      have HSU := hid (degsTo_succ ds fss k)
      have HRT := hid (HF.out _ (getD_memL fss k hk2))
      have HLK := hid (HLN.out k hk)
      have hkI : (k : Int) < (ds.length : Int) := by omega
      generalize degsTo ds fss k = L at HOWN HSU HLK
      generalize fss.getD k [] = f at c0 hpf HSU HRT
      generalize ds.getD k 0 = d at g0 hdk HSU
      have HPF := hid hpf
      have HG0 := hid g0
      have d0 := cell_keep c0 HBR.out
      have hfl2 : f.length ≤ 2000 := HRT.out.len
      clear hpf c0 g0 hc3
      go_wp2_with fail
      go_loopw [5, 19] (fun z i wm => ∃ (m : Nat) (M : List Int), m ≤ f.length ∧ i = .int .i64 m ∧ M = L ++ pdeg d (f.take m) ∧ M.length ≤ 2000 * k + m ∧ wm.ownsRow w.heap.size 3 1 z M.length (ints M) ∧ Below w.heap.size w wm) (fun _ i _ => f.length - (intOf i).toNat)
      case atStart => exact ⟨0, L, Nat.zero_le _, rfl, by simp [pdeg], HLK.out, HOWN.out, HBR.out⟩
      case round =>
        clear HOWN HBR d0
        obtain ⟨m, M, hmm, rfl, hM, hMl, hown, hbm⟩ := hrel
        have HM := hid hM
        have HOWN := hid hown
        have HBM := hid hbm
        obtain ⟨za, zc, hz⟩ := own_sl' hown
        subst hz
        clear hM hown hbm
        by_cases hm2 : m < f.length
        · obtain ⟨fa2, fc2, hfv, _, hat0⟩ := HPF.out
          obtain ⟨b2, off2, hfa, hlt2, hat⟩ := hat0 (by omega)
          simp only [Value.slice.injEq, true_and] at hfv
          obtain ⟨e1, e2⟩ := hfv
          subst e1
          subst e2
          subst hfa
          obtain ⟨t0, ev, t1, hse⟩ := hat m hm2
          have HTE := hid (And.intro (HRT.out.canon.len _ (getD_memT f m hm2)) (And.intro (HRT.out.bd.bd _ (getD_memT f m hm2)) (HRT.out.deg _ (getD_memT f m hm2))))
          have HTK : Hid (pdeg d (f.take (m + 1)) = pdeg d (f.take m) ++ [d + sumI (f.getD m noT).2]) := by
            show _ = _
            unfold pdeg
            rw [List.take_succ_eq_append_getElem hm2, List.map_append]
            simp [List.getD_eq_getElem?_getD, hm2]
          generalize f.getD m noT = t at t0 hse HTE HTK
          have hte0 : 0 < t.2.length := by rw [HTE.out.1]; exact hN0
          have hte3 : t.2.length ≤ 3 := by rw [HTE.out.1]; exact hN
          obtain ⟨ea, ec, rfl, hse1⟩ := hse
          obtain ⟨eb, eoff, rfl, helt, hei⟩ := hse1 hte0
          have HEI : Hid (∀ W, Below w.heap.size w W → IntsAt W eb eoff t.2) := fun W hb j hj => cell_keep (hei j hj) hb
          have k0 := cell_keep t0 HBM.out
          have k1 := cell_keep t1 HBM.out
          obtain ⟨w5, hw5⟩ : ∃ w5, w5 = wr.alloc (.cells #[.int .i64 t.1, .slice (some ⟨eb, eoff, none⟩) t.2.length ec] 57) := ⟨_, rfl⟩
          have hb5 : Below wr.heap.size wr w5 := by rw [hw5]; exact belowNew
          have hc5 : w5.cell? ⟨wr.heap.size, 1, none⟩ = some (.slice (some ⟨eb, eoff, none⟩) t.2.length ec) := by rw [hw5]; simp [go_sem]
          have HB5 := hid (HBM.out.trans (hb5.mono HBM.out.size))
          have HO5 := hid (ownBlock_lt HOWN.out hb5)
          obtain ⟨S, hS⟩ : ∃ S, sumI t.2 = S := ⟨_, rfl⟩
          obtain ⟨hS1, hS2⟩ : 0 ≤ S ∧ S ≤ 120000 := by have := sumI_bd t.2 HTE.out.2.1; rw [hS] at this; omega
          obtain ⟨hd1, hd2⟩ := hdk
          have HDG := hid (fun (W : World) (hb : Below w.heap.size w W) => degree_any t.2 eb eoff ec W HTE.out.2.1 hte3 (HEI.out W hb))
          rw [hS] at HDG HTK
          have hlt5 : wr.heap.size < w5.heap.size := by rw [hw5]; simp
          have HC5 := hid hc5
          have KEEP : Hid (∀ W, Below w.heap.size w W → W.cell? ⟨wr.heap.size, 1, none⟩ = some (.slice (some ⟨eb, eoff, none⟩) t.2.length ec) → (Hid (Below w.heap.size w W) ∧ W.cell? ⟨b3, off3 + k, none⟩ = some (.int .i64 d) ∧ W.cell? ⟨wr.heap.size, 1, none⟩ = some (.slice (some ⟨eb, eoff, none⟩) t.2.length ec))) :=
            fun W hb hc => ⟨hb, cell_keep HG0.out hb, hc⟩
          have HBA : Hid (∀ A, Below w5.heap.size w5 ((w5.alloc A).drew)) := fun A => ((Below.refl w5.heap.size w5).alloc (Nat.le_refl _) A).drew
          have HWD := hid (HB5.out.drew)
          have HWA : Hid (∀ A, Below w.heap.size w ((w5.alloc A).drew)) := fun A => HB5.out.trans ((HBA.out A).mono HB5.out.size)
          have HKD : Hid (w5.drew.cell? ⟨wr.heap.size, 1, none⟩ = some (.slice (some ⟨eb, eoff, none⟩) t.2.length ec)) := hc5
          have HKA : Hid (∀ A, ((w5.alloc A).drew).cell? ⟨wr.heap.size, 1, none⟩ = some (.slice (some ⟨eb, eoff, none⟩) t.2.length ec)) := fun A => by rw [(HBA.out A).cell (p := ⟨wr.heap.size, 1, none⟩) hlt5]; exact HC5.out
          have HFAR : Hid (∀ A w7, ((w5.alloc A).drew).grownBy w7 (Value.ownBlock (.slice za M.length zc)) → w7.cell? ⟨wr.heap.size, 1, none⟩ = some (.slice (some ⟨eb, eoff, none⟩) t.2.length ec)) := fun A w7 hg => by
            rw [World.cell?_of_block (a := ⟨wr.heap.size, 1, none⟩) (hg.block wr.heap.size (Nat.lt_of_lt_of_le hlt5 (HBA.out A).size) (fun e => by
              have := (World.ownsRow.lt HOWN.out wr.heap.size e.symm).2
              omega))]
            exact HKA.out A
          have HO6 := hid (ownBlock_lt HO5.out (HBA.out (.cells #[.int .i64 (d + S)] 3)))
          have HNW := hid (one_newP w5 (.int .i64 (d + S)) 3)
          have HML : Hid (M.length ≤ 1200000000000) := by show _ ≤ _; omega
          have HWS := hid (HWA.out (.cells #[.int .i64 (d + S)] 3)).size
          have HGR : Hid (∀ w7, ((w5.alloc (.cells #[.int .i64 (d + S)] 3)).drew).grownBy w7 (Value.ownBlock (.slice za M.length zc)) → Below w.heap.size w w7) := fun w7 r2 => own_grown HO6.out (HWA.out (.cells #[.int .i64 (d + S)] 3)) r2 (Nat.le_refl _)
          have hwr : IntKind.i64.wrap (d + S) = d + S := by rw [IntKind.wrap_i64]; omega
          clear hc5 hb5
          go_wp2_with fail
          try rw [← hw5]
          clear hw5
          go_region_held_law (fun W => Hid (Below w.heap.size w W) ∧ W.cell? ⟨b3, off3 + k, none⟩ = some (.int .i64 d) ∧ W.cell? ⟨wr.heap.size, 1, none⟩ = some (.slice (some ⟨eb, eoff, none⟩) t.2.length ec))
            (first | exact KEEP.out _ HWD.out HKD.out | exact KEEP.out _ HB7.out HK7.out | exact KEEP.out _ (HWA.out _) (HKA.out _))
            (first
              | (refine step_append_int rfl (.tmp 23) (.tmp 32) 55 rfl Tryz.underlying55 w.heap.size (.slice za M.length zc) M (by simp [Act.eval, Act.put]) HO6.out ⟨w5.heap.size, 0, none⟩ 1 (d + S) (by simp [Act.eval, Act.put]) HNW.out HML.out HWS.out ?_; intro v7 w7 r1 r2; have HB7 := hid (HGR.out w7 r2); have HK7 := hid (HFAR.out (.cells #[.int .i64 (d + S)] 3) w7 r2); obtain ⟨va7, vc7, hv7⟩ := own_sl' r1; rw [len_snoc] at hv7; subst hv7; have HR7 := hid r1; clear r1 r2)
              | (go_at_call 21; refine (HDG.out _ HWD.out).mono ?_; rintro e w6 ⟨rfl, rfl⟩))
          all_goals
            go_wp2
            first
              | exact ⟨⟨m + 1, M ++ [d + S], by omega, by go_num, by rw [HM.out, HTK.out, List.append_assoc], by rw [len_snoc]; omega, HR7.out, HB7.out⟩, by simp [intOf]; omega⟩
              | (go_roundw
                 case rel => exact ⟨m + 1, M ++ [d + S], by omega, by go_num, by rw [HM.out, HTK.out, List.append_assoc], by rw [len_snoc]; omega, HR7.out, HB7.out⟩
                 case measure => simp [intOf]; omega)
        · have e : m = f.length := by omega
          subst e
          have HME : Hid (degsTo ds fss (k + 1) = M) := by show _ = _; rw [HSU.out, HM.out, List.take_of_length_le (Nat.le_refl _)]
          go_wp2_with fail
          go_roundw
          case rel => exact ⟨k + 1, by omega, by go_num, by rw [HME.out]; exact HOWN.out, HBM.out⟩
          case measure => simp [intOf]; omega
    · have e : k = fss.length := by omega
      subst e
      have HSL := hid (ownsRow_slI HOWN.out)
      go_wp2
      go_ret
      exact ⟨_, rfl, HSL.out, HBR.out⟩

end Go.Proofs.YtkmjmmnnnbjghaaGreat

/- vector.Degree. -/
namespace Go.Proofs.YtkmjmmnnnbjghaaGreat
set_option linter.unusedSimpArgs false
set_option linter.unusedVariables false
open Go.RowKit

set_option maxHeartbeats 400000 in
theorem degFn_any (x : Int) (w : World) : Calls Tryz.prog 80 #[.int .i64 x] w fun e w' => e = .returned (.bool (outB x)) ∧ w' = w := by
  unfold outB
  by_cases h : x < 0
  · go_enter Tryz.func80, Tryz.ntmps80
    go_wp2
    go_ret
    exact ⟨by simp [h], rfl⟩
  · go_enter Tryz.func80, Tryz.ntmps80
    go_wp2
    go_ret
    exact ⟨by simp; omega, rfl⟩
set_option maxHeartbeats 400000 in
theorem indexDeg_any (x : Value) (xs : List Int) (w : World) (hm : xs.length ≤ 1000) (hs : Sl w x xs) :
    Calls Tryz.prog 110 #[x, .func (.func 80) #[] #[]] w fun e w' => ∃ r : Int, e = .returned (.int .i64 r) ∧ decide (0 ≤ r) = xs.any outB ∧ w' = w := by
  obtain ⟨a, cap, rfl, h1⟩ := hs
  have HC := hid h1
  clear h1
  go_enter Tryz.func110, Tryz.ntmps110
  go_wp2
  go_loop [8] (fun i => ∃ k : Nat, k ≤ xs.length ∧ i = .int .i64 k ∧ (xs.take k).any outB = false) (fun i => xs.length - (intOf i).toNat)
  case atStart => exact ⟨0, Nat.zero_le _, rfl, by simp⟩
  case round =>
    obtain ⟨k, hk, rfl, hn⟩ := hrel
    have HN := hid hn
    clear hn
    by_cases hlt : k < xs.length
    · obtain ⟨b, off, rfl, _, hc⟩ := HC.out (by omega)
      have hcell := hc k hlt
      have H1 := hid (any_take outB xs k hlt HN.out)
      have H2 := hid (any_at outB xs k hlt)
      generalize xs.getD k 0 = y at hcell H1 H2
      clear hc
      cases hy : outB y
      · go_wp2_with (go_at_call 80; refine (degFn_any _ _).mono ?_; rintro e w' ⟨rfl, rfl⟩)
        go_round
        case rel => exact ⟨k + 1, by omega, by go_num, H1.out hy⟩
        case measure => simp [intOf]; omega
      · go_wp2_with (go_at_call 80; refine (degFn_any _ _).mono ?_; rintro e w' ⟨rfl, rfl⟩)
        go_ret
        exact ⟨(k : Int), rfl, by rw [H2.out hy]; simp, rfl⟩
    · go_wp2
      go_ret
      exact ⟨-1, rfl, by have := HN.out; rw [List.take_of_length_le (by omega)] at this; rw [this]; simp, rfl⟩
set_option maxHeartbeats 400000 in
theorem containsDeg_any (x : Value) (xs : List Int) (w : World) (hm : xs.length ≤ 1000) (hs : Sl w x xs) :
    Calls Tryz.prog 79 #[x, .func (.func 80) #[] #[]] w fun e w' => e = .returned (.bool (xs.any outB)) ∧ w' = w := by
  have HS := hid hs
  obtain ⟨a, cap, rfl, _⟩ := hs
  go_enter Tryz.func79, Tryz.ntmps79
  go_wp2_with (go_at_call 110; refine (indexDeg_any _ xs _ hm HS.out).mono ?_; rintro e w' ⟨r, rfl, hr, rfl⟩)
  go_ret
  exact ⟨by rw [← hr]; rfl, rfl⟩

def degE : List Int → Int
  | [] => 5
  | z :: zs => if zs.all (fun y => y == z) then 0 else 4
def degV : List Int → Int
  | [] => 0
  | z :: zs => if zs.all (fun y => y == z) then z else 0
theorem degE_cons (z : Int) (zs : List Int) : degE (z :: zs) = if zs.all (fun y => y == z) then 0 else 4 := rfl
theorem degV_cons (z : Int) (zs : List Int) : degV (z :: zs) = if zs.all (fun y => y == z) then z else 0 := rfl
def vdE (E : Int) (ds : List Int) (fss : List (List Tm)) : Int := if E ≠ 0 then E else if ds.length ≠ fss.length then 1 else if ds.any outB then 3 else degE (degsTo ds fss fss.length)
def vdV (E : Int) (ds : List Int) (fss : List (List Tm)) : Int := if E ≠ 0 then 0 else if ds.length ≠ fss.length then 0 else if ds.any outB then 0 else degV (degsTo ds fss fss.length)
theorem vd_bad {E : Int} {ds : List Int} {fss : List (List Tm)} (h : E ≠ 0) : vdE E ds fss = E ∧ vdV E ds fss = 0 := by
  constructor
  · unfold vdE; rw [if_pos h]
  · unfold vdV; rw [if_pos h]
theorem vd_len {ds : List Int} {fss : List (List Tm)} (h : ds.length ≠ fss.length) : vdE 0 ds fss = 1 ∧ vdV 0 ds fss = 0 := by
  constructor
  · unfold vdE; rw [if_neg (by simp), if_pos h]
  · unfold vdV; rw [if_neg (by simp), if_pos h]
theorem vd_out {ds : List Int} {fss : List (List Tm)} (h : ds.length = fss.length) (ha : ds.any outB = true) : vdE 0 ds fss = 3 ∧ vdV 0 ds fss = 0 := by
  constructor
  · unfold vdE; rw [if_neg (by simp), if_neg (by omega), if_pos ha]
  · unfold vdV; rw [if_neg (by simp), if_neg (by omega), if_pos ha]
theorem vd_ok {ds : List Int} {fss : List (List Tm)} (h : ds.length = fss.length) (ha : ds.any outB = false) : vdE 0 ds fss = degE (degsTo ds fss fss.length) ∧ vdV 0 ds fss = degV (degsTo ds fss fss.length) := by
  constructor
  · unfold vdE; rw [if_neg (by simp), if_neg (by omega), if_neg (by rw [ha]; simp)]
  · unfold vdV; rw [if_neg (by simp), if_neg (by omega), if_neg (by rw [ha]; simp)]
theorem nat_eq {a b : Nat} (h : ((a : Int) != (b : Int)) = false) : a = b := by
  have h1 : (a : Int) = b := by simpa using h
  omega
theorem nat_ne {a b : Nat} (h : ((a : Int) != (b : Int)) = true) : a ≠ b := by
  have h1 : ¬ (a : Int) = b := by simpa using h
  omega

set_option maxRecDepth 100000 in
set_option maxHeartbeats 2000000 in
theorem vecDegree_any (p n o v : Int) (x y : Value) (ds : List Int) (fss : List (List Tm)) (w : World) (sd : Sl w x ds) (pf : Vl w y fss) :
    Calls Tryz.prog 46 #[ringV p n o v, x, y] w fun e w' => e = .returned (.tuple #[.int .i64 (vdV (errAlike p n o v [fss]) ds fss), .int .i64 (vdE (errAlike p n o v [fss]) ds fss)]) ∧ Below w.heap.size w w' := by
  have HX := hid sd
  have HY := hid pf
  obtain ⟨ax, cx, rfl, _⟩ := sd
  obtain ⟨ay, cy, rfl, _⟩ := pf
  obtain ⟨w2, hw2⟩ : ∃ w2, w2 = w.alloc (.cells #[.int .i64 p, .int .i64 n, .int .i64 o, .int .i64 v] 23) := ⟨_, rfl⟩
  have hb2 : Below w.heap.size w w2 := by rw [hw2]; exact below_oneG
  have hbx : BoxAt w2 w.heap.size p n o v := by rw [hw2]; exact BoxAt.new w p n o v _
  have hs2 : w2.heap.size = w.heap.size + 1 := by rw [hw2]; simp
  have HB2 := hid hb2
  have HW2 : Hid (∀ T, Wl (w2.alloc (.cells #[.slice ay fss.length cy] T)) (.slice (some ⟨w2.heap.size, 0, none⟩) 1 1) [fss]) := fun T => wl_one ((HY.out.below hb2).below below_oneG) (by simp) (by simp [go_sem])
  rw [hs2] at HW2
  have HVA := hid (fun T => vecAll_any p n o v _ [fss] _ (by simp) (HW2.out T))
  obtain ⟨_, bx0, bx1, bx2, bx3⟩ := hbx
  clear hs2 hb2
  cases hz : (errAlike p n o v [fss] != 0)
  · have hz0 : errAlike p n o v [fss] = 0 := by simpa using hz
    have HZ := hid hz0
    obtain ⟨hR, hall⟩ := alike_ok hz0
    obtain ⟨h1, _, h3⟩ := hall fss (by simp)
    obtain ⟨hpr, hn1, hn2, ho, hov⟩ := ring_ok hR
    have HRT : Hid (∀ f ∈ fss, Right p o n.toNat f) := fun f hf => (right_of hR (h3 f hf)).1
    have hN0 : 0 < n.toNat := by omega
    have hN3 : n.toNat ≤ 3 := by omega
    have h40 : fss.length ≤ 40 := h1.2
    clear hz0 hR hall h1 h3 hpr ho hov
    cases hln : ((ds.length : Int) != (fss.length : Int))
    · have hl : ds.length = fss.length := nat_eq hln
      have HL := hid hl
      have hd40 : ds.length ≤ 1000 := by omega
      clear hl
      cases hany : ds.any outB
      · have hE := vd_ok (fss := fss) HL.out hany
        rw [HZ.out, hE.1, hE.2]
        have HDB : Hid (∀ d ∈ ds, 0 ≤ d ∧ d ≤ 200) := fun d hd => by
          have h := List.any_eq_false.1 hany d hd
          simp [outB] at h
          omega
        have HTD := hid (fun (W : World) (h1 : Sl W (.slice ax ds.length cx) ds) (h2 : Vl W (.slice ay fss.length cy) fss) => termDegrees_any _ _ p o n.toNat ds fss W hN0 hN3 HL.out h40 HDB.out HRT.out h1 h2)
        have HLN := hid (degsTo_len (ds := ds) (fss := fss) (N := 2000) (fun f hf2 => (HRT.out f hf2).len) fss.length (Nat.le_refl _))
        clear hE
        generalize degsTo ds fss fss.length = zs at HTD HLN ⊢
        cases zs with
        | nil =>
          go_enter Tryz.func46, Tryz.ntmps46
          go_wp2_with fail
          try rw [← hw2]
          refine (HVA.out _).mono ?_
          rw [HZ.out]
          rintro e w3 ⟨rfl, hb3⟩
          have HB3 := hid (HB2.out.trans ((show Below w2.heap.size w2 w3 from below_oneG.trans (hb3.mono (by simp))).mono HB2.out.size))
          clear hb3 bx0 bx1 bx2 bx3 hw2
          go_wp2_with fail
          refine (containsDeg_any _ ds _ hd40 (HX.out.below HB3.out)).mono ?_
          rw [hany]
          rintro e w4 ⟨rfl, rfl⟩
          go_wp2_with fail
          refine (HTD.out _ (HX.out.below HB3.out) (HY.out.below HB3.out)).mono ?_
          rintro e w5 ⟨u, rfl, hu, hb5⟩
          have HB5 := hid (HB3.out.trans (hb5.mono HB3.out.size))
          obtain ⟨ua, uc, rfl, _⟩ := hu
          clear hb5
          go_wp2
          go_ret2
          exact ⟨rfl, HB5.out⟩
        | cons z zs =>
          have hlen : (z :: zs).length ≤ 1200000000000 := by have := HLN.out; omega
          cases hal : zs.all (fun y => y == z)
          all_goals
            go_enter Tryz.func46, Tryz.ntmps46
            go_wp2_with fail
            try rw [← hw2]
            refine (HVA.out _).mono ?_
            rw [HZ.out]
            rintro e w3 ⟨rfl, hb3⟩
            have HB3 := hid (HB2.out.trans ((show Below w2.heap.size w2 w3 from below_oneG.trans (hb3.mono (by simp))).mono HB2.out.size))
            clear hb3 bx0 bx1 bx2 bx3 hw2
            go_wp2_with fail
            refine (containsDeg_any _ ds _ hd40 (HX.out.below HB3.out)).mono ?_
            rw [hany]
            rintro e w4 ⟨rfl, rfl⟩
            go_wp2_with fail
            refine (HTD.out _ (HX.out.below HB3.out) (HY.out.below HB3.out)).mono ?_
            rintro e w5 ⟨u, rfl, hu, hb5⟩
            have HB5 := hid (HB3.out.trans (hb5.mono HB3.out.size))
            have HU := hid hu
            obtain ⟨ua, uc, rfl, hu1⟩ := hu
            obtain ⟨ub, uoff, rfl, _, huc⟩ := hu1 (by simp)
            have u0 := huc 0 (by simp)
            simp only [Nat.add_zero, List.getD_cons_zero] at u0
            clear hb5 hu1 huc
            go_wp2_with fail
            refine (minI_any _ (z :: zs) _ hlen (by simp) HU.out).mono ?_
            rintro e w6 ⟨r1, rfl, hr1, hm1, rfl⟩
            go_wp2_with fail
            refine (maxI_any _ (z :: zs) _ hlen (by simp) HU.out).mono ?_
            rintro e w6 ⟨r2, rfl, hr2, hm2, rfl⟩
          · have HNE : Hid (r1 ≠ r2) := by
              intro e
              have hn : ¬ zs.all (fun y => y == z) = true := by rw [hal]; simp
              apply hn
              rw [List.all_eq_true]
              intro y hy
              have a1 := hr1 y (by simp [hy])
              have a2 := hr2 y (by simp [hy])
              have b1 := hr1 z (by simp)
              have b2 := hr2 z (by simp)
              simp only [beq_iff_eq]
              omega
            have hne : (r1 != r2) = true := by simpa using HNE.out
            have HDE : Hid (degE (z :: zs) = 4 ∧ degV (z :: zs) = 0) := ⟨by rw [degE_cons, hal]; rfl, by rw [degV_cons, hal]; rfl⟩
            clear hr1 hr2 hm1 hm2
            go_wp2
            go_ret2
            exact ⟨by rw [HDE.out.1, HDE.out.2]; rfl, HB5.out⟩
          · have hall2 : ∀ y ∈ z :: zs, y = z := by
              intro y hy
              rcases List.mem_cons.1 hy with rfl | hy
              · rfl
              · have := List.all_eq_true.1 hal y hy
                simpa using this
            have e1 := hall2 r1 hm1
            have e2 := hall2 r2 hm2
            have hne : (r1 != r2) = false := by rw [e1, e2]; simp
            have HDE : Hid (degE (z :: zs) = 0 ∧ degV (z :: zs) = z) := ⟨by rw [degE_cons, hal]; rfl, by rw [degV_cons, hal]; rfl⟩
            clear hr1 hr2 hm1 hm2 hall2 e1 e2
            go_wp2
            go_ret2
            exact ⟨by rw [HDE.out.1, HDE.out.2]; rfl, HB5.out⟩
      · have hE := vd_out (fss := fss) HL.out hany
        rw [HZ.out, hE.1, hE.2]
        clear hE
        go_enter Tryz.func46, Tryz.ntmps46
        go_wp2_with fail
        try rw [← hw2]
        refine (HVA.out _).mono ?_
        rw [HZ.out]
        rintro e w3 ⟨rfl, hb3⟩
        have HB3 := hid (HB2.out.trans ((show Below w2.heap.size w2 w3 from below_oneG.trans (hb3.mono (by simp))).mono HB2.out.size))
        clear hb3 bx0 bx1 bx2 bx3 hw2
        go_wp2_with fail
        refine (containsDeg_any _ ds _ hd40 (HX.out.below HB3.out)).mono ?_
        rw [hany]
        rintro e w4 ⟨rfl, rfl⟩
        go_wp2
        go_ret2
        exact ⟨rfl, HB3.out⟩
    · have hl : ds.length ≠ fss.length := nat_ne hln
      have hE := vd_len hl
      rw [HZ.out, hE.1, hE.2]
      clear hE hl
      go_enter Tryz.func46, Tryz.ntmps46
      go_wp2_with fail
      try rw [← hw2]
      refine (HVA.out _).mono ?_
      rw [HZ.out]
      rintro e w3 ⟨rfl, hb3⟩
      have HB3 := hid (HB2.out.trans ((show Below w2.heap.size w2 w3 from below_oneG.trans (hb3.mono (by simp))).mono HB2.out.size))
      clear hb3 bx0 bx1 bx2 bx3 hw2
      go_wp2
      go_ret2
      exact ⟨rfl, HB3.out⟩
  · have hz0 : errAlike p n o v [fss] ≠ 0 := by simpa using hz
    have hE := vd_bad (ds := ds) (fss := fss) hz0
    rw [hE.1, hE.2]
    clear hE hz0
    go_enter Tryz.func46, Tryz.ntmps46
    go_wp2_with fail
    try rw [← hw2]
    refine (HVA.out _).mono ?_
    rintro e w3 ⟨rfl, hb3⟩
    have HB3 := hid (HB2.out.trans ((show Below w2.heap.size w2 w3 from below_oneG.trans (hb3.mono (by simp))).mono HB2.out.size))
    clear hb3
    go_wp2
    go_ret2
    exact ⟨rfl, HB3.out⟩

end Go.Proofs.YtkmjmmnnnbjghaaGreat

/- vectorBegun. -/
namespace Go.Proofs.YtkmjmmnnnbjghaaGreat
set_option linter.unusedSimpArgs false
set_option linter.unusedVariables false
open Go.RowKit

def vB : List (List Tm) := [[], [(1, [1, 0])]]
theorem pl_new1 {w : World} {c1 : Int} {s1 : Value} {e1 : List Int} {T : TypeId} (h1 : Sl w s1 e1) : Pl (w.alloc (.cells #[.int .i64 c1, s1] T)) (.slice (some ⟨w.heap.size, 0, none⟩) 1 1) [(c1, e1)] := by
  refine ⟨_, 1, rfl, Nat.le_refl _, fun _ => ⟨w.heap.size, 0, rfl, by simp, fun i hi => ?_⟩⟩
  rcases i with _ | i
  · exact ⟨by simp [go_sem], s1, by simp [go_sem], h1.below below_oneG⟩
  · simp at hi
theorem vB_facts : errAlike 7 2 1 1 [vB] = 0 ∧ errAlike 7 2 1 1 [vB, vB] = 0 ∧ leadF 1 1 vB 2 = some (1, (1, [1, 0])) ∧ sums 7 1 vB vB = [[], [(2, [1, 0])]] ∧ visE 0 [[], [(2, [1, 0])]] = 0 ∧ vdE 0 [0, 2] vB = 0 ∧ vdV 0 [0, 2] vB = 3 ∧ errVecs 7 2 1 1 2 [vB] = 0 := by
  refine ⟨by decide +kernel, by decide +kernel, by decide +kernel, by decide +kernel, by decide +kernel, by decide +kernel, by decide +kernel, by decide +kernel⟩

set_option maxRecDepth 100000 in
set_option maxHeartbeats 2000000 in
theorem vectorBegun_any (w : World) : Calls Tryz.prog 13 #[] w fun e w' => e = .returned (.bool true) ∧ Below w.heap.size w w' := by
  obtain ⟨f1, f2, f3, f4, f5, f6, f7, f8⟩ := vB_facts
  have g1 : ldP (leadS (errAlike 7 2 1 1 [vB]) (leadF 1 1 vB vB.length)) = 1 := by rw [f1, show vB.length = 2 from rfl, f3]; rfl
  have g2 : ldC (leadS (errAlike 7 2 1 1 [vB]) (leadF 1 1 vB vB.length)) = 1 := by rw [f1, show vB.length = 2 from rfl, f3]; rfl
  have g3 : leadE (errAlike 7 2 1 1 [vB]) (leadF 1 1 vB vB.length) = 0 := by rw [f1, show vB.length = 2 from rfl, f3]; rfl
  have g4 : visE (errAlike 7 2 1 1 [vB, vB]) (sums 7 1 vB vB) = 0 := by rw [f2, f4]; exact f5
  have g5 : visR (errAlike 7 2 1 1 [vB, vB]) (sums 7 1 vB vB) = [[], [(2, [1, 0])]] := by unfold visR; rw [g4, if_pos rfl, f4]
  have g6 : vdE (errAlike 7 2 1 1 [vB]) [0, 2] vB = 0 := by rw [f1]; exact f6
  have g7 : vdV (errAlike 7 2 1 1 [vB]) [0, 2] vB = 3 := by rw [f1]; exact f7
  have G := hid (And.intro g1 (And.intro g2 (And.intro g3 (And.intro g4 (And.intro g5 (And.intro g6 (And.intro g7 f8)))))))
  clear f1 f2 f3 f4 f5 f6 f7 f8 g1 g2 g3 g4 g5 g6 g7
  go_enter Tryz.func13, Tryz.ntmps13
  go_wp2_with fail
  refine (term_any _ _ _ _ _).mono ?_
  rintro e w1 ⟨rfl, hb1⟩
  have HS1 := hid ((Sl.new2 w 1 0 _).below hb1)
  have HB1 := hid (show Below w.heap.size w w1 from below_one.trans (hb1.mono (by simp)))
  clear hb1
  have HV : Hid (∀ T T', Vl ((w1.alloc (.cells #[.int .i64 1, .slice (some ⟨w.heap.size, 0, none⟩) 2 2] T)).alloc (.cells #[.slice none 0 0, .slice (some ⟨w1.heap.size, 0, none⟩) 1 1] T')) (.slice (some ⟨w1.heap.size + 1, 0, none⟩) 2 2) vB) := fun T T' =>
    pls2 (Pl.empty _) ((pl_new1 HS1.out).below below_oneG) (by simp) (by simp [go_sem]) (by simp [go_sem])
  go_wp2_with fail
  refine (xy_any _).mono ?_
  rintro e w2 ⟨rfl, hb2⟩
  have HV2 := hid ((HV.out _ _).below hb2)
  have HB2 := hid (show Below w.heap.size w w2 from HB1.out.trans ((below_two.trans (hb2.mono below_two.size)).mono HB1.out.size))
  clear hb2
  go_wp2_with fail
  refine (vecLead_any 7 2 1 1 _ vB _ HV2.out).mono ?_
  rw [G.out.1, G.out.2.1, G.out.2.2.1]
  rintro e w3 ⟨la, lc, rfl, _, hb3⟩
  have HV3 := hid (HV2.out.below hb3)
  have HB3 := hid (HB2.out.trans (hb3.mono HB2.out.size))
  clear hb3
  generalize (ldE (leadS (errAlike 7 2 1 1 [vB]) (leadF 1 1 vB vB.length))).length = ll
  obtain ⟨w4, hw4⟩ : ∃ w4, w4 = w3.alloc (.cells #[.int .i64 1, .slice la ll lc] 57) := ⟨_, rfl⟩
  have HB4 : Hid (Below w.heap.size w w4) := by rw [hw4]; exact HB3.out.trans (belowNew.mono HB3.out.size)
  have HV4 : Hid (Vl w4 (.slice (some ⟨w1.heap.size + 1, 0, none⟩) 2 2) vB) := by rw [hw4]; exact HV3.out.below belowNew
  have HC4 : Hid (w4.cell? ⟨w3.heap.size, 0, none⟩ = some (.int .i64 1)) := by show _ = _; rw [hw4]; simp [go_sem]
  go_wp2_with fail
  try rw [← hw4]
  refine (xy_any _).mono ?_
  rintro e w5 ⟨rfl, hb5⟩
  have HV5 := hid (HV4.out.below hb5)
  have HB5 := hid (HB4.out.trans (hb5.mono HB4.out.size))
  have HC5 := hid (cell_keep HC4.out hb5)
  clear hb5 hw4
  go_wp2_with fail
  refine (vecAdd_any 7 2 1 1 _ _ vB vB _ HV5.out HV5.out).mono ?_
  rw [G.out.2.2.2.1, G.out.2.2.2.2.1]
  rintro e w6 ⟨u, rfl, hu, hb6⟩
  have HV6 := hid (HV5.out.below hb6)
  have HB6 := hid (HB5.out.trans (hb6.mono HB5.out.size))
  have HC6 := hid (cell_keep HC5.out hb6)
  have HU6 := hid hu
  obtain ⟨ua, uc, rfl, _⟩ := hu
  clear hb6
  go_wp2_with fail
  refine (xy_any _).mono ?_
  rintro e w7 ⟨rfl, hb7⟩
  have HV7 := hid (HV6.out.below hb7)
  have HB7 := hid (HB6.out.trans (hb7.mono HB6.out.size))
  have HC7 := hid (cell_keep HC6.out hb7)
  have HU7 := hid (HU6.out.below hb7)
  clear hb7
  go_wp2_with fail
  refine (vecDegree_any 7 2 1 1 _ _ [0, 2] vB _ (Sl.new2 _ _ _ _) (HV7.out.below below_one)).mono ?_
  rw [G.out.2.2.2.2.2.1, G.out.2.2.2.2.2.2.1]
  rintro e w8 ⟨rfl, hb8⟩
  have HV8 := hid ((HV7.out.below below_one).below hb8)
  have HB8 := hid (HB7.out.trans ((below_one.trans (hb8.mono (by simp))).mono HB7.out.size))
  have HC8 := hid (cell_keep (cell_keep HC7.out below_one) hb8)
  have HU8 := hid ((HU7.out.below below_one).below hb8)
  clear hb8
  obtain ⟨b, off, fa, fc, hua, hlt, c1, hpl⟩ := vl_at (fss := [[], [(2, [1, 0])]]) HU8.out 1 (by simp)
  subst hua
  have c1' : w8.cell? ⟨b, off + 1, none⟩ = some (.slice fa 1 fc) := c1
  obtain ⟨b2, off2, ea, ec, hfa, hlt2, e0, _, _⟩ := pl_first (t := (2, [1, 0])) (ts := []) hpl
  subst hfa
  simp only at e0
  have c8 := HC8.out
  clear c1 hpl
  go_wp2_with fail
  refine (xy_any _).mono ?_
  rintro e w9 ⟨rfl, hb9⟩
  have HV9 := hid (HV8.out.below hb9)
  have HB9 := hid (HB8.out.trans (hb9.mono HB8.out.size))
  clear hb9
  go_wp2_with fail
  refine (vecCheck_any 7 2 1 1 2 _ [vB] _ (wl_one (HV9.out.below below_oneG) (by simp) (by simp [go_sem]))).mono ?_
  rw [G.out.2.2.2.2.2.2.2]
  rintro e w10 ⟨rfl, hb10⟩
  have HB10 := hid (HB9.out.trans ((below_oneG.trans (hb10.mono (by simp))).mono HB9.out.size))
  clear hb10
  go_wp2
  go_ret
  exact ⟨rfl, HB10.out⟩

end Go.Proofs.YtkmjmmnnnbjghaaGreat

/- VDegree of the reference. -/
namespace Go.Proofs.YtkmjmmnnnbjghaaGreat
set_option linter.unusedSimpArgs false
set_option linter.unusedVariables false
open Go.RowKit

def dOut : List Int → Int
  | [] => -1
  | z :: _ => z
/-- All are as the first one. -/
def Alike (L : List Int) : Prop := ∀ y ∈ L, y = dOut L
theorem alike_deg {L : List Int} (h : Alike L) : degE L = (if L = [] then 5 else 0) ∧ degV L = (if L = [] then 0 else dOut L) := by
  cases L with
  | nil => exact ⟨rfl, rfl⟩
  | cons z zs =>
    have ha : zs.all (fun y => y == z) = true := by
      rw [List.all_eq_true]
      intro y hy
      have h1 : y = z := h y (by simp [hy])
      simpa using h1
    rw [degE_cons, degV_cons, ha]
    simp [dOut]
theorem unlike_deg {L M : List Int} {d : Int} (hL : L ≠ []) (hd : d ≠ dOut L) (hp : ∃ R, M = L ++ d :: R) : degE M = 4 ∧ degV M = 0 := by
  obtain ⟨R, rfl⟩ := hp
  cases L with
  | nil => exact absurd rfl hL
  | cons z zs =>
    have ha : (zs ++ d :: R).all (fun y => y == z) = false := by
      rw [List.all_eq_false]
      exact ⟨d, by simp, by simpa [dOut] using hd⟩
    rw [List.cons_append, degE_cons, degV_cons, ha]
    simp
theorem dOut_snoc {L : List Int} {d : Int} (h : Alike L) (hd : L = [] ∨ d = dOut L) : Alike (L ++ [d]) ∧ dOut (L ++ [d]) = d := by
  cases L with
  | nil => exact ⟨fun y hy => by simpa [dOut] using hy, rfl⟩
  | cons z zs =>
    have e : d = z := by
      rcases hd with hd | hd
      · simp at hd
      · exact hd
    refine ⟨fun y hy => ?_, e.symm⟩
    rcases List.mem_append.1 hy with hy | hy
    · exact h y hy
    · rw [List.mem_singleton] at hy; rw [hy, e]; rfl
theorem pdeg_split (d : Int) (f : List Tm) (m : Nat) (h : m < f.length) : pdeg d f = pdeg d (f.take m) ++ (d + sumI (f.getD m noT).2) :: pdeg d (f.drop (m + 1)) := by
  have e : f = f.take m ++ f.getD m noT :: f.drop (m + 1) := by
    have h1 : f.getD m noT = f[m] := by simp [List.getD_eq_getElem?_getD, h]
    rw [h1, ← List.drop_eq_getElem_cons h, List.take_append_drop]
  conv => lhs; rw [e]
  simp [pdeg]
theorem degsTo_prefix (ds : List Int) (fss : List (List Tm)) (k : Nat) : ∀ n, k ≤ n → ∃ R, degsTo ds fss n = degsTo ds fss k ++ R
  | 0, h => ⟨[], by rw [show k = 0 by omega]; simp⟩
  | n + 1, h => by
    rcases Nat.eq_or_lt_of_le h with rfl | hlt
    · exact ⟨[], by simp⟩
    · obtain ⟨R, hR⟩ := degsTo_prefix ds fss k n (by omega)
      exact ⟨R ++ pdeg (ds.getD n 0) (fss.getD n []), by rw [degsTo_succ, hR, List.append_assoc]⟩

end Go.Proofs.YtkmjmmnnnbjghaaGreat

/- CombineOf of the reference. -/
namespace Go.Proofs.YtkmjmmnnnbjghaaGreat
set_option linter.unusedSimpArgs false
set_option linter.unusedVariables false
open Go.RowKit

/-- A vector of so many polynomials without terms. -/
theorem vl_made {w w' : World} {n : Nat} (h : w'.ownsRow w.heap.size 54 1 (.slice (some ⟨w.heap.size, 0, none⟩) n n) n (madeCells (Value.cells (.slice none 0 0)) (n * 1)).toList) : Vl w' (.slice (some ⟨w.heap.size, 0, none⟩) n n) (List.replicate n []) := by
  have hlt := (World.ownsRow.lt h w.heap.size rfl).2
  refine ⟨_, n, by rw [List.length_replicate], fun _ => ⟨w.heap.size, 0, rfl, hlt, fun i hi => ⟨.slice none 0 0, ?_, ?_⟩⟩⟩
  · rw [List.length_replicate] at hi
    rw [Nat.zero_add, h.cellAt i (by omega)]
    simp [madeCells, Value.cells, hi, Nat.mod_one]
  · rw [List.length_replicate] at hi
    have e : (List.replicate n ([] : List Tm)).getD i [] = [] := by simp [List.getD_eq_getElem?_getD, hi]
    rw [e]
    exact Pl.empty _
/-- What CombineOf has added up so far. -/
def combO (p o : Int) (R : Nat) (cs : List (List Tm)) (vss : List (List (List Tm))) : Nat → List (List Tm)
  | 0 => List.replicate R []
  | k + 1 => sums p o (combO p o R cs vss k) (prods p o (cs.getD k []) (vss.getD k []))
theorem combO_ok {p o : Int} {N R : Nat} {cs : List (List Tm)} {vss : List (List (List Tm))} (hp : 2 ≤ p ∧ p ≤ 101) (hc : ∀ c ∈ cs, Right p o N c) (hv : ∀ v ∈ vss, v.length = R ∧ ∀ f ∈ v, Right p o N f) (hl : cs.length = vss.length) (hs : ∀ i, i < vss.length → ∀ f ∈ prods p o (cs.getD i []) (vss.getD i []), f.length ≤ 2000) :
    ∀ k, k ≤ vss.length → (combO p o R cs vss k).length = R ∧ ∀ f ∈ combO p o R cs vss k, (∀ t ∈ f, Tok p N t) ∧ f.length ≤ 2000 * k
  | 0, _ => ⟨by simp [combO], fun f hf => by
      have : f = [] := by simpa [combO] using (List.eq_of_mem_replicate hf)
      rw [this]; exact ⟨fun t ht => by simp at ht, by simp⟩⟩
  | k + 1, hk => by
    obtain ⟨h1, h2⟩ := combO_ok hp hc hv hl hs k (by omega)
    have hvk := hv _ (getD_memV vss k (by omega))
    have hck := hc _ (getD_memL cs k (by omega))
    have hpl : (prods p o (cs.getD k []) (vss.getD k [])).length = R := by unfold prods; rw [List.length_map]; exact hvk.1
    refine ⟨by simp only [combO]; rw [sums_len (by rw [h1, hpl])]; exact h1, fun f hf => ?_⟩
    simp only [combO] at hf
    obtain ⟨i, hi, rfl⟩ := List.getElem_of_mem hf
    have hi2 : i < (combO p o R cs vss k).length := by rw [sums_len (by rw [h1, hpl])] at hi; exact hi
    have e : (sums p o (combO p o R cs vss k) (prods p o (cs.getD k []) (vss.getD k [])))[i] = colL p o ((combO p o R cs vss k).getD i [] ++ (prods p o (cs.getD k []) (vss.getD k [])).getD i []) := by
      rw [← sums_at (by rw [h1, hpl]) hi2]; generalize sums p o (combO p o R cs vss k) (prods p o (cs.getD k []) (vss.getD k [])) = xs at hi ⊢; rw [List.getD_eq_getElem?_getD, List.getElem?_eq_getElem hi]; rfl
    rw [e]
    have a1 := h2 _ (getD_memL _ i hi2)
    have hi3 : i < (prods p o (cs.getD k []) (vss.getD k [])).length := by rw [hpl, ← h1]; exact hi2
    have a2 := hs k (by omega) _ (getD_memL _ i hi3)
    have a3 : ∀ t ∈ (prods p o (cs.getD k []) (vss.getD k [])).getD i [], Tok p N t := by
      have hm := getD_memL _ i hi3
      unfold prods at hm ⊢
      obtain ⟨g, hg, hgg⟩ := List.mem_map.1 hm
      rw [← hgg]
      have hgr := hvk.2 g hg
      intro t ht
      obtain ⟨y, hy, ey⟩ := col_mem ht
      have hty := prodL_tok hp.1 hck.canon.len hgr.canon.len hck.bd hgr.bd y hy
      have hcc := col_canon (o := o) hp.1 (n := N) (l := prodL p (cs.getD k []) g) (fun t ht => (prodL_tok hp.1 hck.canon.len hgr.canon.len hck.bd hgr.bd t ht).1) (fun t ht => (prodL_tok hp.1 hck.canon.len hgr.canon.len hck.bd hgr.bd t ht).2.2)
      have hc2 := hcc.coef t ht
      exact ⟨by rw [ey]; exact hty.1, by rw [ey]; exact hty.2.1, by omega, hc2.2⟩
    have hall : ∀ t ∈ (combO p o R cs vss k).getD i [] ++ (prods p o (cs.getD k []) (vss.getD k [])).getD i [], Tok p N t := fun t ht => (List.mem_append.1 ht).elim (a1.1 t) (a3 t)
    refine ⟨fun t ht => ?_, ?_⟩
    · obtain ⟨y, hy, ey⟩ := col_mem ht
      have hcc := col_canon (o := o) hp.1 (n := N) (l := (combO p o R cs vss k).getD i [] ++ (prods p o (cs.getD k []) (vss.getD k [])).getD i []) (fun t ht => (hall t ht).1) (fun t ht => (hall t ht).2.2)
      have hc2 := hcc.coef t ht
      exact ⟨by rw [ey]; exact (hall y hy).1, by rw [ey]; exact (hall y hy).2.1, by omega, hc2.2⟩
    · have h3 := col_len (p := p) (o := o) ((combO p o R cs vss k).getD i [] ++ (prods p o (cs.getD k []) (vss.getD k [])).getD i [])
      rw [List.length_append] at h3
      have h4 := a1.2
      rw [Nat.mul_succ]; omega

end Go.Proofs.YtkmjmmnnnbjghaaGreat

/- CheckCombine of the reference. -/
namespace Go.Proofs.YtkmjmmnnnbjghaaGreat
set_option linter.unusedSimpArgs false
set_option linter.unusedVariables false
open Go.RowKit

/-- A product that is told too great. -/
def manyC (p o : Int) (c f : List Tm) : Bool := (decide (0 < (c.length : Int)) && decide (0 < (f.length : Int)) && decide (200 < topF (-1) c + topF (-1) f)) || greatB (colL p o (prodL p c f))
open Classical in
/-- What CheckCombine tells. -/
noncomputable def errComb (p n o v rank : Int) (cs : List (List Tm)) (vss : List (List (List Tm))) : Int :=
  if errVecs p n o v rank vss ≠ 0 then errVecs p n o v rank vss else if cs.length ≠ vss.length then 1 else if errPolys p n o v cs ≠ 0 then errPolys p n o v cs else if (∃ i, i < vss.length ∧ ∃ k : Nat, (k : Int) < rank ∧ manyC p o (cs.getD i []) ((vss.getD i []).getD k []) = true) ∨ (combO p o rank.toNat cs vss vss.length).any greatB = true then 2 else 0

end Go.Proofs.YtkmjmmnnnbjghaaGreat

/- CheckCombine of the reference where all is right. -/
namespace Go.Proofs.YtkmjmmnnnbjghaaGreat
set_option linter.unusedSimpArgs false
set_option linter.unusedVariables false
open Go.RowKit

theorem errVecs_ok {p n o v rank : Int} {vss : List (List (List Tm))} (h : errVecs p n o v rank vss = 0) : errR p n o v = 0 ∧ (1 ≤ rank ∧ rank ≤ 40) ∧ vss.length ≤ 60 ∧ ∀ u ∈ vss, (u.length : Int) = rank ∧ ∀ f ∈ u, errOne p n o f = 0 := by
  unfold errVecs at h
  by_cases hr : errR p n o v = 0
  · rw [if_neg (by simpa using hr)] at h
    unfold errList at h
    cases hb : betweenB rank 1 40
    · rw [if_pos hb] at h; exact absurd h (by decide)
    · rw [if_neg (by rw [hb]; simp)] at h
      by_cases hl : 60 < vss.length
      · rw [if_pos hl] at h; exact absurd h (by decide)
      · rw [if_neg hl] at h
        refine ⟨hr, by simpa [betweenB] using hb, by omega, fun u hu => ?_⟩
        have h1 := firstZ_ok h u hu
        unfold errVec at h1
        by_cases hu2 : (u.length : Int) = rank
        · rw [if_neg (by simpa using hu2)] at h1; exact ⟨hu2, firstOne_ok h1⟩
        · rw [if_pos hu2] at h1; exact absurd h1 (by decide)
  · rw [if_pos hr] at h; exact absurd h hr
theorem okp_right {p o : Int} {N : Nat} {f : List Tm} (hN0 : 0 < N) (hN : N ≤ 3) (h : Right p o N f) : f.length ≤ 2000 ∧ ∀ t ∈ f, 0 < t.2.length ∧ t.2.length ≤ 3 ∧ ∀ x ∈ t.2, 0 ≤ x ∧ x ≤ 40000 := by
  refine ⟨h.len, fun t ht => ?_⟩
  have h1 := h.canon.len t ht
  refine ⟨by rw [h1]; exact hN0, by rw [h1]; exact hN, fun x hx => ?_⟩
  have := h.bd t ht x hx
  omega
theorem great_le {ts : List Tm} (h : greatB ts = false) : ts.length ≤ 2000 := by
  unfold greatB at h
  simp at h
  omega

end Go.Proofs.YtkmjmmnnnbjghaaGreat
