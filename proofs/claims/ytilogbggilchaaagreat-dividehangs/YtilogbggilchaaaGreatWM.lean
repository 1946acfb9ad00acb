/- vector.Lead. -/
import Derived.Test.YtilogbggilchaaaGreatWJ
namespace Go.Proofs.YtilogbggilchaaaGreat
set_option linter.unusedSimpArgs false
set_option linter.unusedVariables false
open Go.RowKit
def leadE (E : Int) (st : Ld) : Int := if E ≠ 0 then E else match st with
  | none => 5
  | some _ => 0
def leadS (E : Int) (st : Ld) : Ld := if E = 0 then st else none
def ldP : Ld → Int
  | none => 0
  | some (j, _) => j
structure ReW (w wr : World) (p n o v : Int) : Prop where
  below : Below w.heap.size w wr
  box : BoxAt wr w.heap.size p n o v
  res : wr.ownsRow w.heap.size 57 2 (.slice (some ⟨w.heap.size + 1, 0, none⟩) 1 1) 1 [.int .i64 0, .slice none 0 0]
theorem ReW.next {w wr w' : World} {p n o v : Int} (h : ReW w wr p n o v) (hb : Below wr.heap.size wr w') : ReW w w' p n o v :=
  ⟨h.below.trans (hb.mono h.below.size), h.box.below hb, ownBlock_lt h.res hb⟩
theorem ReW.first (w : World) (p n o v : Int) : ReW w ((w.alloc (.cells #[.int .i64 p, .int .i64 n, .int .i64 o, .int .i64 v] 23)).alloc (.cells #[.int .i64 0, .slice none 0 0] 57)) p n o v := by
  have h1 := made_term (w := w.alloc (.cells #[.int .i64 p, .int .i64 n, .int .i64 o, .int .i64 v] 23)) (B := w.heap.size) (by simp) 0 (.slice none 0 0)
  exact ⟨below_two, (BoxAt.new w p n o v _).below belowNew, by simpa using h1⟩
theorem ReW.cells {w wr : World} {p n o v : Int} (h : ReW w wr p n o v) : wr.cell? ⟨w.heap.size + 1, 0, none⟩ = some (.int .i64 0) ∧ wr.cell? ⟨w.heap.size + 1, 1, none⟩ = some (.slice none 0 0) ∧ wr.frozen? ⟨w.heap.size + 1, 0, none⟩ = false ∧ wr.frozen? ⟨w.heap.size + 1, 1, none⟩ = false :=
  ⟨h.res.cellAt 0 (by omega), h.res.cellAt 1 (by omega), h.res.frozenAt 0, h.res.frozenAt 1⟩
theorem ReW.put {w wr : World} {p n o v : Int} (h : ReW w wr p n o v) (c : Int) (u : Value) : Below w.heap.size w ((wr.setCell ⟨w.heap.size + 1, 0, none⟩ (.int .i64 c)).setCell ⟨w.heap.size + 1, 1, none⟩ u) ∧
    ((wr.setCell ⟨w.heap.size + 1, 0, none⟩ (.int .i64 c)).setCell ⟨w.heap.size + 1, 1, none⟩ u).cell? ⟨w.heap.size + 1, 0, none⟩ = some (.int .i64 c) ∧
    ((wr.setCell ⟨w.heap.size + 1, 0, none⟩ (.int .i64 c)).setCell ⟨w.heap.size + 1, 1, none⟩ u).cell? ⟨w.heap.size + 1, 1, none⟩ = some u := by
  have s1 := h.res.stored 0 (.int .i64 c)
  have s2 := s1.1.stored 1 u
  exact ⟨h.below.trans (grown_below (grown_trans s1.2 s2.2) (by omega) h.below.size), s2.1.cellAt 0 (by omega), s2.1.cellAt 1 (by omega)⟩

set_option maxRecDepth 100000 in
set_option maxHeartbeats 2000000 in
theorem vecLead_any (p n o v : Int) (x : Value) (fss : List (List Tm)) (w : World) (pf : Vl w x fss) :
    Calls Tryz.prog 45 #[ringV p n o v, x] w fun e w' => ∃ ea ec, e = .returned (.tuple #[.int .i64 (ldP (leadS (errAlike p n o v [fss]) (leadF o v fss fss.length))), .agg #[.int .i64 (ldC (leadS (errAlike p n o v [fss]) (leadF o v fss fss.length))), .slice ea (ldE (leadS (errAlike p n o v [fss]) (leadF o v fss fss.length))).length ec], .int .i64 (leadE (errAlike p n o v [fss]) (leadF o v fss fss.length))]) ∧
      Sl w' (.slice ea (ldE (leadS (errAlike p n o v [fss]) (leadF o v fss fss.length))).length ec) (ldE (leadS (errAlike p n o v [fss]) (leadF o v fss fss.length))) ∧ Below w.heap.size w w' := by
  have HX := hid pf
  obtain ⟨ax, cx, rfl, _⟩ := pf
  obtain ⟨w2, hw2⟩ : ∃ w2, w2 = (w.alloc (.cells #[.int .i64 p, .int .i64 n, .int .i64 o, .int .i64 v] 23)).alloc (.cells #[.int .i64 0, .slice none 0 0] 57) := ⟨_, rfl⟩
  have HR2 : Hid (ReW w w2 p n o v) := by rw [hw2]; exact ReW.first w p n o v
  have hs2 : w2.heap.size = w.heap.size + 1 + 1 := by rw [hw2]; simp
  have HW2 : Hid (∀ T, Wl (w2.alloc (.cells #[.slice ax fss.length cx] T)) (.slice (some ⟨w2.heap.size, 0, none⟩) 1 1) [fss]) := fun T => wl_one ((HX.out.below HR2.out.below).below below_oneG) (by simp) (by simp [go_sem])
  rw [hs2] at HW2
  have HVA := hid (fun T => vecAll_any p n o v _ [fss] _ (by simp) (HW2.out T))
  obtain ⟨_, bx0, bx1, bx2, bx3⟩ := HR2.out.box
  clear hs2
  cases hz : (errAlike p n o v [fss] != 0)
  · have hz0 : errAlike p n o v [fss] = 0 := by simpa using hz
    have HS0 : Hid (∀ st, leadS (errAlike p n o v [fss]) st = st) := fun st => by unfold leadS; rw [if_pos hz0]
    have HE0 : Hid (∀ st, leadE (errAlike p n o v [fss]) st = leadE 0 st) := fun st => by rw [hz0]
    rw [HS0.out, HE0.out]
    obtain ⟨hR, hall⟩ := alike_ok hz0
    obtain ⟨h1, _, h3⟩ := hall fss (by simp)
    obtain ⟨hpr, hn1, hn2, ho, hov⟩ := ring_ok hR
    have HRT : Hid (∀ f ∈ fss, Right p o n.toNat f) := fun f hf => (right_of hR (h3 f hf)).1
    have hN0 : 0 < n.toNat := by omega
    have hN3 : n.toNat ≤ 3 := by omega
    have h40 : fss.length ≤ 1000 := by omega
    have HO := hid ho
    have HZ := hid hz0
    have HAT := hid (fun j u => leadF_at (o := o) (ov := v) (fss := fss) (k := fss.length) (j := j) (u := u))
    clear hz0 hR hall h1 h3 hpr ho hov
    have HLP := hid (fun (W : World) (hv : Vl W (.slice ax fss.length cx) fss) => leadPlace_any p n o v n.toNat _ fss W HO.out hN0 hN3 h40 HRT.out hv)
    generalize leadF o v fss fss.length = st at HAT HLP ⊢
    cases st with
    | none =>
      have HP0 : Hid (∀ W, Vl W (.slice ax fss.length cx) fss → Calls Tryz.prog 77 #[ringV p n o v, .slice ax fss.length cx] W fun e w' => e = .returned (.int .i64 (-1)) ∧ Below W.heap.size W w') := HLP.out
      go_enter Tryz.func45, Tryz.ntmps45
      go_wp2_with fail
      try rw [← hw2]
      refine (HVA.out _).mono ?_
      rw [HZ.out]
      rintro e w3 ⟨rfl, hb3⟩
      have HR3 := hid (HR2.out.next (below_oneG.trans (hb3.mono (by simp))))
      clear hb3 bx0 bx1 bx2 bx3 hw2
      obtain ⟨_, bx0, bx1, bx2, bx3⟩ := HR3.out.box
      go_wp2_with fail
      refine (HP0.out _ (HX.out.below HR3.out.below)).mono ?_
      rintro e w4 ⟨rfl, hb4⟩
      have HR4 := hid (HR3.out.next hb4)
      clear hb4
      obtain ⟨r0, r1, q0, q1⟩ := HR4.out.cells
      obtain ⟨hbf, x0, x1⟩ := HR4.out.put 0 (.slice none 0 0)
      have HBF := hid hbf
      have HX01 := hid (And.intro x0 x1)
      clear hbf x0 x1
      go_wp2
      refine bodyPost_ret (v := .tuple #[.int .i64 0, .agg #[.int .i64 0, .slice none 0 0], .int .i64 5]) (by have x0 := HX01.out.1; have x1 := HX01.out.2; simp [results, Tryz.results45, go_sem, x0, x1]) rfl ⟨none, 0, rfl, ⟨none, 0, rfl, fun h => by simp [ldE] at h⟩, HBF.out⟩
    | some q =>
      obtain ⟨j, u⟩ := q
      obtain ⟨hj, us, hus⟩ := HAT.out j u rfl
      obtain ⟨b, off, fa, fc, rfl, hlt, c0, hpf⟩ := vl_at HX.out j hj
      have HRU := hid (HRT.out _ (getD_memL fss j hj))
      rw [hus] at c0 hpf HRU
      obtain ⟨b2, off2, ea, ec, rfl, hlt2, e0, e1, hse⟩ := pl_first hpf
      have HSE := hid hse
      have hu3 : u.2.length ≤ 400 := by rw [HRU.out.canon.len u (by simp)]; omega
      obtain ⟨mm, hmj⟩ : ∃ mm : Int, (j : Int) = mm := ⟨_, rfl⟩
      have hm0 : ¬ mm < 0 := by omega
      have hm1 : 0 ≤ mm := by omega
      have hm2 : mm < (fss.length : Int) := by omega
      have hmt : mm.toNat = j := by omega
      have HMJ := hid hmj
      have HC0 := hid c0
      rw [← hmt] at HC0
      have HP0 : Hid (∀ W, Vl W (.slice (some ⟨b, off, none⟩) fss.length cx) fss → Calls Tryz.prog 77 #[ringV p n o v, .slice (some ⟨b, off, none⟩) fss.length cx] W fun e w' => e = .returned (.int .i64 mm) ∧ Below W.heap.size W w') := fun W hv => by
        have h := HLP.out W hv
        rw [plc_some, hmj] at h
        exact h
      have HE01 := hid (And.intro e0 e1)
      clear hmj hmt hpf hse c0 e0 e1 hus
      go_enter Tryz.func45, Tryz.ntmps45
      go_wp2_with fail
      try rw [← hw2]
      refine (HVA.out _).mono ?_
      rw [HZ.out]
      rintro e w3 ⟨rfl, hb3⟩
      have HR3 := hid (HR2.out.next (below_oneG.trans (hb3.mono (by simp))))
      clear hb3 bx0 bx1 bx2 bx3 hw2
      obtain ⟨_, bx0, bx1, bx2, bx3⟩ := HR3.out.box
      go_wp2_with fail
      refine (HP0.out _ (HX.out.below HR3.out.below)).mono ?_
      rintro e w4 ⟨rfl, hb4⟩
      have HR4 := hid (HR3.out.next hb4)
      clear hb4
      have c0 := cell_keep HC0.out HR4.out.below
      have e0 := cell_keep HE01.out.1 HR4.out.below
      have e1 := cell_keep HE01.out.2 HR4.out.below
      have HR5 := hid (HR4.out.next (belowNew (A := .cells #[.int .i64 u.1, .slice ea u.2.length ec] 57)))
      have D0 : Hid ((w4.alloc (.cells #[.int .i64 u.1, .slice ea u.2.length ec] 57)).drew.cell? ⟨w4.heap.size, 0, none⟩ = some (.int .i64 u.1)) := by show _ = _; simp [go_sem]
      go_wp2_with fail
      go_region_with (go_at_call 78; refine (clone_any _ u.2 _ hu3 ((HSE.out.below HR5.out.below).below (Below.refl _ _).drew)).mono ?_; rintro e w9 ⟨u9, rfl, hu9, hb9⟩; have HR9 := hid ((HR5.out.next (Below.refl _ _).drew).next hb9); have HO9 := hid (show w9.ownsRow w.heap.size 3 1 u9 u.2.length (ints u.2) from ⟨hu9.1, hu9.2.imp id (fun ⟨g, c, cur, h1, h2, h3⟩ => ⟨g, c, cur, h1, Nat.le_trans HR5.out.below.size (by simpa using h2), h3⟩)⟩); obtain ⟨r0, r1, q0, q1⟩ := HR9.out.cells; have d0 := D0.out; rw [← hb9.cell (by simp)] at d0; obtain ⟨ua, uc, rfl⟩ := own_sl' hu9; clear hb9 hu9)
      all_goals
        obtain ⟨hbf, x0, x1⟩ := HR9.out.put u.1 (.slice ua u.2.length uc)
        have HX01 := hid (And.intro x0 x1)
        have HNE : Hid (Sl ((w9.setCell ⟨w.heap.size + 1, 0, none⟩ (.int .i64 u.1)).setCell ⟨w.heap.size + 1, 1, none⟩ (.slice ua u.2.length uc)) (.slice ua u.2.length uc) u.2) := by
          have s1 := HR9.out.res.stored 0 (.int .i64 u.1)
          have s2 := s1.1.stored 1 (.slice ua u.2.length uc)
          exact ownsRow_slI (B := w.heap.size) (HO9.out.kept (grown_trans s1.2 s2.2) (own_neT (by decide) HO9.out HR9.out.res))
        have HBF := hid hbf
        clear hbf x0 x1
        go_wp2
        refine bodyPost_ret (v := .tuple #[.int .i64 mm, .agg #[.int .i64 u.1, .slice ua u.2.length uc], .int .i64 0]) (by have x0 := HX01.out.1; have x1 := HX01.out.2; simp [results, Tryz.results45, go_sem, x0, x1]) rfl ⟨ua, uc, by rw [← HMJ.out]; rfl, HNE.out, HBF.out⟩
  · have hz0 : errAlike p n o v [fss] ≠ 0 := by simpa using hz
    have HS0 : Hid (∀ st, leadS (errAlike p n o v [fss]) st = none) := fun st => by unfold leadS; rw [if_neg hz0]
    have HE0 : Hid (∀ st, leadE (errAlike p n o v [fss]) st = errAlike p n o v [fss]) := fun st => by unfold leadE; rw [if_pos hz0]
    rw [HS0.out, HE0.out]
    clear hz0
    go_enter Tryz.func45, Tryz.ntmps45
    go_wp2_with fail
    try rw [← hw2]
    refine (HVA.out _).mono ?_
    rintro e w3 ⟨rfl, hb3⟩
    have HR3 := hid (HR2.out.next (below_oneG.trans (hb3.mono (by simp))))
    clear hb3
    obtain ⟨r0, r1, q0, q1⟩ := HR3.out.cells
    obtain ⟨hbf, x0, x1⟩ := HR3.out.put 0 (.slice none 0 0)
    have HBF := hid hbf
    have HX01 := hid (And.intro x0 x1)
    clear hbf x0 x1
    go_wp2
    refine bodyPost_ret (v := .tuple #[.int .i64 0, .agg #[.int .i64 0, .slice none 0 0], .int .i64 (errAlike p n o v [fss])]) (by have x0 := HX01.out.1; have x1 := HX01.out.2; simp [results, Tryz.results45, go_sem, x0, x1]) rfl ⟨none, 0, rfl, ⟨none, 0, rfl, fun h => by simp [ldE] at h⟩, HBF.out⟩
set_option maxHeartbeats 400000 in
theorem minI_any (x : Value) (zs : List Int) (w : World) (hm : zs.length ≤ 1200000000000) (h0 : 0 < zs.length) (hs : Sl w x zs) :
    Calls Tryz.prog 82 #[x] w fun e w' => ∃ r : Int, e = .returned (.int .i64 r) ∧ (∀ z ∈ zs, r ≤ z) ∧ r ∈ zs ∧ w' = w := by
  obtain ⟨a, cap, rfl, h1⟩ := hs
  obtain ⟨b, off, rfl, hlt, hc⟩ := h1 h0
  have HC := hid hc
  have hcell0 := hc 0 h0
  have HZ0 : Hid (zs.take 1 = [zs.getD 0 0]) := by
    show _ = _
    rw [List.take_succ_eq_append_getElem h0]; simp [List.getD_eq_getElem?_getD, h0]
  clear hc h1
  rw [Nat.add_zero] at hcell0
  generalize zs.getD 0 0 = z0 at hcell0 HZ0
  go_enter Tryz.func82, Tryz.ntmps82
  go_wp2
  go_loop [3, 4] (fun m i => ∃ k : Nat, 1 ≤ k ∧ k ≤ zs.length ∧ i = .int .i64 k ∧ ∃ r : Int, m = .int .i64 r ∧ (∀ z ∈ zs.take k, r ≤ z) ∧ r ∈ zs.take k) (fun _ i => zs.length - (intOf i).toNat)
  case atStart => exact ⟨1, by omega, by omega, rfl, z0, rfl, by rw [HZ0.out]; simp, by rw [HZ0.out]; simp⟩
  case round =>
    clear hcell0 HZ0
    obtain ⟨k, hk1, hk, rfl, r, rfl, hr, hmem⟩ := hrel
    have HR := hid (And.intro hr hmem)
    clear hr hmem
    by_cases hk2 : k < zs.length
    · have hcell := HC.out k hk2
      have HN : Hid (zs.take (k + 1) = zs.take k ++ [zs.getD k 0]) := by
        show _ = _
        rw [List.take_succ_eq_append_getElem hk2]; simp [List.getD_eq_getElem?_getD, hk2]
      generalize zs.getD k 0 = z at hcell HN
      go_wp2
      all_goals
        go_round
        case rel =>
          refine ⟨k + 1, by omega, by omega, by go_num, _, rfl, ?_, ?_⟩
          · intro y hy
            rw [HN.out, List.mem_append, List.mem_singleton] at hy
            rcases hy with hy | hy
            · have := HR.out.1 y hy; omega
            · omega
          · rw [HN.out, List.mem_append, List.mem_singleton]
            split <;> first | exact Or.inr rfl | exact Or.inl HR.out.2
        case measure => simp [intOf]; omega
    · have e : k = zs.length := by omega
      subst e
      go_wp2
      go_ret
      have h := HR.out
      rw [List.take_of_length_le (Nat.le_refl _)] at h
      exact ⟨r, rfl, h.1, h.2, rfl⟩
set_option maxHeartbeats 400000 in
theorem maxI_any (x : Value) (zs : List Int) (w : World) (hm : zs.length ≤ 1200000000000) (h0 : 0 < zs.length) (hs : Sl w x zs) :
    Calls Tryz.prog 83 #[x] w fun e w' => ∃ r : Int, e = .returned (.int .i64 r) ∧ (∀ z ∈ zs, z ≤ r) ∧ r ∈ zs ∧ w' = w := by
  obtain ⟨a, cap, rfl, h1⟩ := hs
  obtain ⟨b, off, rfl, hlt, hc⟩ := h1 h0
  have HC := hid hc
  have hcell0 := hc 0 h0
  have HZ0 : Hid (zs.take 1 = [zs.getD 0 0]) := by
    show _ = _
    rw [List.take_succ_eq_append_getElem h0]; simp [List.getD_eq_getElem?_getD, h0]
  clear hc h1
  rw [Nat.add_zero] at hcell0
  generalize zs.getD 0 0 = z0 at hcell0 HZ0
  go_enter Tryz.func83, Tryz.ntmps83
  go_wp2
  go_loop [3, 4] (fun m i => ∃ k : Nat, 1 ≤ k ∧ k ≤ zs.length ∧ i = .int .i64 k ∧ ∃ r : Int, m = .int .i64 r ∧ (∀ z ∈ zs.take k, z ≤ r) ∧ r ∈ zs.take k) (fun _ i => zs.length - (intOf i).toNat)
  case atStart => exact ⟨1, by omega, by omega, rfl, z0, rfl, by rw [HZ0.out]; simp, by rw [HZ0.out]; simp⟩
  case round =>
    clear hcell0 HZ0
    obtain ⟨k, hk1, hk, rfl, r, rfl, hr, hmem⟩ := hrel
    have HR := hid (And.intro hr hmem)
    clear hr hmem
    by_cases hk2 : k < zs.length
    · have hcell := HC.out k hk2
      have HN : Hid (zs.take (k + 1) = zs.take k ++ [zs.getD k 0]) := by
        show _ = _
        rw [List.take_succ_eq_append_getElem hk2]; simp [List.getD_eq_getElem?_getD, hk2]
      generalize zs.getD k 0 = z at hcell HN
      go_wp2
      all_goals
        go_round
        case rel =>
          refine ⟨k + 1, by omega, by omega, by go_num, _, rfl, ?_, ?_⟩
          · intro y hy
            rw [HN.out, List.mem_append, List.mem_singleton] at hy
            rcases hy with hy | hy
            · have := HR.out.1 y hy; omega
            · omega
          · rw [HN.out, List.mem_append, List.mem_singleton]
            split <;> first | exact Or.inr rfl | exact Or.inl HR.out.2
        case measure => simp [intOf]; omega
    · have e : k = zs.length := by omega
      subst e
      go_wp2
      go_ret
      have h := HR.out
      rw [List.take_of_length_le (Nat.le_refl _)] at h
      exact ⟨r, rfl, h.1, h.2, rfl⟩

theorem step_append_int {ops : Array Oper} {o : Oper} {a : Act} {w : World} {K : Act → World → Prop} {Q : Exit → Act → World → Prop} {E : Prop} (hgd : o.guard = none) (s x : Operand) (t : TypeId)
    (ho : o.op = .call { callee := .builtin .append, args := #[s, x], argTypes := #[t, t] }) (ht : Tryz.prog.underlying t = some (.slice 3))
    (B : Nat) (v : Value) (L : List Int) (hs : a.eval s = v) (h : w.ownsRow B 3 1 v L.length (ints L)) (ad : Addr) (c : Nat) (z : Int) (hx : a.eval x = .slice (some ad) 1 c)
    (hnew : ∀ j y, [Value.int .i64 z][j]? = some y → w.cell? (ad.add j) = some y) (hn : L.length ≤ 1200000000000) (hB : B ≤ w.heap.size)
    (hK : ∀ v' w', w'.ownsRow B 3 1 v' (L ++ [z]).length (ints (L ++ [z])) → w.grownBy w' v.ownBlock → K (a.put o.dst v') w') :
    if Region.wanted o (yielded ops a.tmps) = true then Oper.wp Tryz.prog o a w K Q else E := by
  have hw : Region.wanted o (yielded ops a.tmps) = true := by simp [Region.wanted, hgd]
  rw [if_pos hw]
  obtain ⟨i0, hi, hz0, hz1, hz2⟩ := info_parts Tryz.infoInt
  obtain ⟨v', w', hr, h2, h3, _⟩ := run_append_own (P := Tryz.prog) w B t o.type 3 i0 _ 1 8 ht hi hz0 hz1 hz2 rfl (by decide) v L.length (ints L) h ad 1 c [.int .i64 z] rfl hnew (fun u hu => by rw [List.mem_singleton] at hu; rw [hu]; rfl) (by unfold maxLen; omega) (by omega) hB
  unfold Oper.wp execOp
  simp only [ho, resolve, invoke, builtin, Sem.run_bind, Sem.run_pure, Result.andThen_ok, List.map_toArray, List.map_cons, List.map_nil, hs, hx, hr]
  exact hK v' w' (by rw [len_snoc]; simpa [ints] using h2) h3

def pdeg (d : Int) (f : List Tm) : List Int := f.map fun t => d + sumI t.2
def degsTo (ds : List Int) (fss : List (List Tm)) (k : Nat) : List Int := (List.range k).flatMap fun i => pdeg (ds.getD i 0) (fss.getD i [])
theorem degsTo_succ (ds : List Int) (fss : List (List Tm)) (k : Nat) : degsTo ds fss (k + 1) = degsTo ds fss k ++ pdeg (ds.getD k 0) (fss.getD k []) := by
  unfold degsTo; rw [List.range_succ, List.flatMap_append]; simp
theorem degsTo_len {ds : List Int} {fss : List (List Tm)} {N : Nat} (h : ∀ f ∈ fss, f.length ≤ N) : ∀ k, k ≤ fss.length → (degsTo ds fss k).length ≤ N * k
  | 0, _ => by simp [degsTo]
  | k + 1, hk => by
    rw [degsTo_succ, List.length_append]
    have h1 := degsTo_len (ds := ds) h k (by omega)
    have h2 := h _ (getD_memL fss k (by omega))
    simp only [pdeg, List.length_map]
    rw [Nat.mul_succ]; omega

set_option maxRecDepth 100000 in
set_option maxHeartbeats 2000000 in
theorem termDegrees_any (x y : Value) (p o : Int) (N : Nat) (ds : List Int) (fss : List (List Tm)) (w : World) (hN0 : 0 < N) (hN : N ≤ 3) (hl : ds.length = fss.length) (hm : fss.length ≤ 40) (hd : ∀ d ∈ ds, 0 ≤ d ∧ d ≤ 200) (hf : ∀ f ∈ fss, Right p o N f) (sd : Sl w x ds) (pf : Vl w y fss) :
    Calls Tryz.prog 81 #[x, y] w fun e w' => ∃ u, e = .returned u ∧ Sl w' u (degsTo ds fss fss.length) ∧ Below w.heap.size w w' := by
  have HX := hid sd
  have HY := hid pf
  have HD := hid hd
  have HF := hid hf
  have HL := hid hl
  obtain ⟨ax, cx, rfl, hsx⟩ := sd
  obtain ⟨ay, cy, rfl, _⟩ := pf
  have HLN := hid (degsTo_len (ds := ds) (fss := fss) (N := 2000) (fun f hf2 => (hf f hf2).len))
  have HSX := hid hsx
  clear hd hf hl hsx
  go_enter Tryz.func81, Tryz.ntmps81
  go_wp2_with fail
  go_loopw [5, 12] (fun z i wr => ∃ k : Nat, k ≤ fss.length ∧ i = .int .i64 k ∧ wr.ownsRow w.heap.size 3 1 z (degsTo ds fss k).length (ints (degsTo ds fss k)) ∧ Below w.heap.size w wr) (fun _ i _ => fss.length - (intOf i).toNat)
  case atStart => exact ⟨0, Nat.zero_le _, rfl, World.ownsRow_nil _ _ _ _, Below.refl _ _⟩
  case round =>
    obtain ⟨k, hk, rfl, hown, hbr⟩ := hrel
    have HOWN := hid hown
    have HBR := hid hbr
    obtain ⟨za, zc, hz⟩ := own_sl' hown
    subst hz
    clear hown hbr
    by_cases hk2 : k < fss.length
    · have hk3 : k < ds.length := by rw [HL.out]; exact hk2
      obtain ⟨b, off, fa, fc, rfl, hlt, c0, hpf⟩ := vl_at HY.out k hk2
      obtain ⟨b3, off3, rfl, hlt3, hc3⟩ := HSX.out (by omega)
      have g0 := hc3 k hk3
      have hdk := HD.out _ (getD_mem ds k hk3)
      have HSU := hid (degsTo_succ ds fss k)
      have HRT := hid (HF.out _ (getD_memL fss k hk2))
      have HLK := hid (HLN.out k hk)
      have hkI : (k : Int) < (ds.length : Int) := by omega
      generalize degsTo ds fss k = L at HOWN HSU HLK
      generalize fss.getD k [] = f at c0 hpf HSU HRT
      generalize ds.getD k 0 = d at g0 hdk HSU
      have HPF := hid hpf
      have HG0 := hid g0
      have d0 := cell_keep c0 HBR.out
      have hfl2 : f.length ≤ 2000 := HRT.out.len
      clear hpf c0 g0 hc3
      go_wp2_with fail
      go_loopw [5, 19] (fun z i wm => ∃ (m : Nat) (M : List Int), m ≤ f.length ∧ i = .int .i64 m ∧ M = L ++ pdeg d (f.take m) ∧ M.length ≤ 2000 * k + m ∧ wm.ownsRow w.heap.size 3 1 z M.length (ints M) ∧ Below w.heap.size w wm) (fun _ i _ => f.length - (intOf i).toNat)
      case atStart => exact ⟨0, L, Nat.zero_le _, rfl, by simp [pdeg], HLK.out, HOWN.out, HBR.out⟩
      case round =>
        clear HOWN HBR d0
        obtain ⟨m, M, hmm, rfl, hM, hMl, hown, hbm⟩ := hrel
        have HM := hid hM
        have HOWN := hid hown
        have HBM := hid hbm
        obtain ⟨za, zc, hz⟩ := own_sl' hown
        subst hz
        clear hM hown hbm
        by_cases hm2 : m < f.length
        · obtain ⟨fa2, fc2, hfv, _, hat0⟩ := HPF.out
          obtain ⟨b2, off2, hfa, hlt2, hat⟩ := hat0 (by omega)
          simp only [Value.slice.injEq, true_and] at hfv
          obtain ⟨e1, e2⟩ := hfv
          subst e1
          subst e2
          subst hfa
          obtain ⟨t0, ev, t1, hse⟩ := hat m hm2
          have HTE := hid (And.intro (HRT.out.canon.len _ (getD_memT f m hm2)) (And.intro (HRT.out.bd.bd _ (getD_memT f m hm2)) (HRT.out.deg _ (getD_memT f m hm2))))
          have HTK : Hid (pdeg d (f.take (m + 1)) = pdeg d (f.take m) ++ [d + sumI (f.getD m noT).2]) := by
            show _ = _
            unfold pdeg
            rw [List.take_succ_eq_append_getElem hm2, List.map_append]
            simp [List.getD_eq_getElem?_getD, hm2]
          generalize f.getD m noT = t at t0 hse HTE HTK
          have hte0 : 0 < t.2.length := by rw [HTE.out.1]; exact hN0
          have hte3 : t.2.length ≤ 3 := by rw [HTE.out.1]; exact hN
          obtain ⟨ea, ec, rfl, hse1⟩ := hse
          obtain ⟨eb, eoff, rfl, helt, hei⟩ := hse1 hte0
          have HEI : Hid (∀ W, Below w.heap.size w W → IntsAt W eb eoff t.2) := fun W hb j hj => cell_keep (hei j hj) hb
          have k0 := cell_keep t0 HBM.out
          have k1 := cell_keep t1 HBM.out
          obtain ⟨w5, hw5⟩ : ∃ w5, w5 = wr.alloc (.cells #[.int .i64 t.1, .slice (some ⟨eb, eoff, none⟩) t.2.length ec] 57) := ⟨_, rfl⟩
          have hb5 : Below wr.heap.size wr w5 := by rw [hw5]; exact belowNew
          have hc5 : w5.cell? ⟨wr.heap.size, 1, none⟩ = some (.slice (some ⟨eb, eoff, none⟩) t.2.length ec) := by rw [hw5]; simp [go_sem]
          have HB5 := hid (HBM.out.trans (hb5.mono HBM.out.size))
          have HO5 := hid (ownBlock_lt HOWN.out hb5)
          obtain ⟨S, hS⟩ : ∃ S, sumI t.2 = S := ⟨_, rfl⟩
          obtain ⟨hS1, hS2⟩ : 0 ≤ S ∧ S ≤ 120000 := by have := sumI_bd t.2 HTE.out.2.1; rw [hS] at this; omega
          obtain ⟨hd1, hd2⟩ := hdk
          have HDG := hid (fun (W : World) (hb : Below w.heap.size w W) => degree_any t.2 eb eoff ec W HTE.out.2.1 hte3 (HEI.out W hb))
          rw [hS] at HDG HTK
          have hlt5 : wr.heap.size < w5.heap.size := by rw [hw5]; simp
          have HC5 := hid hc5
          have KEEP : Hid (∀ W, Below w.heap.size w W → W.cell? ⟨wr.heap.size, 1, none⟩ = some (.slice (some ⟨eb, eoff, none⟩) t.2.length ec) → (Hid (Below w.heap.size w W) ∧ W.cell? ⟨b3, off3 + k, none⟩ = some (.int .i64 d) ∧ W.cell? ⟨wr.heap.size, 1, none⟩ = some (.slice (some ⟨eb, eoff, none⟩) t.2.length ec))) :=
            fun W hb hc => ⟨hb, cell_keep HG0.out hb, hc⟩
          have HBA : Hid (∀ A, Below w5.heap.size w5 ((w5.alloc A).drew)) := fun A => ((Below.refl w5.heap.size w5).alloc (Nat.le_refl _) A).drew
          have HWD := hid (HB5.out.drew)
          have HWA : Hid (∀ A, Below w.heap.size w ((w5.alloc A).drew)) := fun A => HB5.out.trans ((HBA.out A).mono HB5.out.size)
          have HKD : Hid (w5.drew.cell? ⟨wr.heap.size, 1, none⟩ = some (.slice (some ⟨eb, eoff, none⟩) t.2.length ec)) := hc5
          have HKA : Hid (∀ A, ((w5.alloc A).drew).cell? ⟨wr.heap.size, 1, none⟩ = some (.slice (some ⟨eb, eoff, none⟩) t.2.length ec)) := fun A => by rw [(HBA.out A).cell (p := ⟨wr.heap.size, 1, none⟩) hlt5]; exact HC5.out
          have HFAR : Hid (∀ A w7, ((w5.alloc A).drew).grownBy w7 (Value.ownBlock (.slice za M.length zc)) → w7.cell? ⟨wr.heap.size, 1, none⟩ = some (.slice (some ⟨eb, eoff, none⟩) t.2.length ec)) := fun A w7 hg => by
            rw [World.cell?_of_block (a := ⟨wr.heap.size, 1, none⟩) (hg.block wr.heap.size (Nat.lt_of_lt_of_le hlt5 (HBA.out A).size) (fun e => by
              have := (World.ownsRow.lt HOWN.out wr.heap.size e.symm).2
              omega))]
            exact HKA.out A
          have HO6 := hid (ownBlock_lt HO5.out (HBA.out (.cells #[.int .i64 (d + S)] 3)))
          have HNW := hid (one_newP w5 (.int .i64 (d + S)) 3)
          have HML : Hid (M.length ≤ 1200000000000) := by show _ ≤ _; omega
          have HWS := hid (HWA.out (.cells #[.int .i64 (d + S)] 3)).size
          have HGR : Hid (∀ w7, ((w5.alloc (.cells #[.int .i64 (d + S)] 3)).drew).grownBy w7 (Value.ownBlock (.slice za M.length zc)) → Below w.heap.size w w7) := fun w7 r2 => own_grown HO6.out (HWA.out (.cells #[.int .i64 (d + S)] 3)) r2 (Nat.le_refl _)
          have hwr : IntKind.i64.wrap (d + S) = d + S := by rw [IntKind.wrap_i64]; omega
          clear hc5 hb5
          go_wp2_with fail
          try rw [← hw5]
          clear hw5
          go_region_held_law (fun W => Hid (Below w.heap.size w W) ∧ W.cell? ⟨b3, off3 + k, none⟩ = some (.int .i64 d) ∧ W.cell? ⟨wr.heap.size, 1, none⟩ = some (.slice (some ⟨eb, eoff, none⟩) t.2.length ec))
            (first | exact KEEP.out _ HWD.out HKD.out | exact KEEP.out _ HB7.out HK7.out | exact KEEP.out _ (HWA.out _) (HKA.out _))
            (first
              | (refine step_append_int rfl (.tmp 23) (.tmp 32) 55 rfl Tryz.underlying55 w.heap.size (.slice za M.length zc) M (by simp [Act.eval, Act.put]) HO6.out ⟨w5.heap.size, 0, none⟩ 1 (d + S) (by simp [Act.eval, Act.put]) HNW.out HML.out HWS.out ?_; intro v7 w7 r1 r2; have HB7 := hid (HGR.out w7 r2); have HK7 := hid (HFAR.out (.cells #[.int .i64 (d + S)] 3) w7 r2); obtain ⟨va7, vc7, hv7⟩ := own_sl' r1; rw [len_snoc] at hv7; subst hv7; have HR7 := hid r1; clear r1 r2)
              | (go_at_call 21; refine (HDG.out _ HWD.out).mono ?_; rintro e w6 ⟨rfl, rfl⟩))
          all_goals
            go_wp2
            first
              | exact ⟨⟨m + 1, M ++ [d + S], by omega, by go_num, by rw [HM.out, HTK.out, List.append_assoc], by rw [len_snoc]; omega, HR7.out, HB7.out⟩, by simp [intOf]; omega⟩
              | (go_roundw; (case rel => exact ⟨m + 1, M ++ [d + S], by omega, by go_num, by rw [HM.out, HTK.out, List.append_assoc], by rw [len_snoc]; omega, HR7.out, HB7.out⟩); case measure => simp [intOf]; omega)
        · have e : m = f.length := by omega
          subst e
          have HME : Hid (degsTo ds fss (k + 1) = M) := by show _ = _; rw [HSU.out, HM.out, List.take_of_length_le (Nat.le_refl _)]
          go_wp2_with fail
          go_roundw
          case rel => exact ⟨k + 1, by omega, by go_num, by rw [HME.out]; exact HOWN.out, HBM.out⟩
          case measure => simp [intOf]; omega
    · have e : k = fss.length := by omega
      subst e
      have HSL := hid (ownsRow_slI HOWN.out)
      go_wp2
      go_ret
      exact ⟨_, rfl, HSL.out, HBR.out⟩
end Go.Proofs.YtilogbggilchaaaGreat
