/- vector.Lead. -/
import Derived.Test.YtilogbggilchaaaWI
namespace Go.Proofs.Ytilogbggilchaaa
set_option linter.unusedSimpArgs false
set_option linter.unusedVariables false
open Go.RowKit
def leadE (E : Int) (st : Ld) : Int := if E ≠ 0 then E else match st with
  | none => 5
  | some _ => 0
def leadS (E : Int) (st : Ld) : Ld := if E = 0 then st else none
def ldP : Ld → Int
  | none => 0
  | some (j, _) => j
structure ReW (w wr : World) (p n o v : Int) : Prop where
  below : Below w.heap.size w wr
  box : BoxAt wr w.heap.size p n o v
  res : wr.ownsRow w.heap.size 34 2 (.slice (some ⟨w.heap.size + 1, 0, none⟩) 1 1) 1 [.int .i64 0, .slice none 0 0]
theorem ReW.next {w wr w' : World} {p n o v : Int} (h : ReW w wr p n o v) (hb : Below wr.heap.size wr w') : ReW w w' p n o v :=
  ⟨h.below.trans (hb.mono h.below.size), h.box.below hb, ownBlock_lt h.res hb⟩
theorem ReW.first (w : World) (p n o v : Int) : ReW w ((w.alloc (.cells #[.int .i64 p, .int .i64 n, .int .i64 o, .int .i64 v] 23)).alloc (.cells #[.int .i64 0, .slice none 0 0] 34)) p n o v := by
  have h1 := made_term (w := w.alloc (.cells #[.int .i64 p, .int .i64 n, .int .i64 o, .int .i64 v] 23)) (B := w.heap.size) (by simp) 0 (.slice none 0 0)
  exact ⟨below_two, (BoxAt.new w p n o v _).below belowNew, by simpa using h1⟩
theorem ReW.cells {w wr : World} {p n o v : Int} (h : ReW w wr p n o v) : wr.cell? ⟨w.heap.size + 1, 0, none⟩ = some (.int .i64 0) ∧ wr.cell? ⟨w.heap.size + 1, 1, none⟩ = some (.slice none 0 0) ∧ wr.frozen? ⟨w.heap.size + 1, 0, none⟩ = false ∧ wr.frozen? ⟨w.heap.size + 1, 1, none⟩ = false :=
  ⟨h.res.cellAt 0 (by omega), h.res.cellAt 1 (by omega), h.res.frozenAt 0, h.res.frozenAt 1⟩
theorem ReW.put {w wr : World} {p n o v : Int} (h : ReW w wr p n o v) (c : Int) (u : Value) : Below w.heap.size w ((wr.setCell ⟨w.heap.size + 1, 0, none⟩ (.int .i64 c)).setCell ⟨w.heap.size + 1, 1, none⟩ u) ∧
    ((wr.setCell ⟨w.heap.size + 1, 0, none⟩ (.int .i64 c)).setCell ⟨w.heap.size + 1, 1, none⟩ u).cell? ⟨w.heap.size + 1, 0, none⟩ = some (.int .i64 c) ∧
    ((wr.setCell ⟨w.heap.size + 1, 0, none⟩ (.int .i64 c)).setCell ⟨w.heap.size + 1, 1, none⟩ u).cell? ⟨w.heap.size + 1, 1, none⟩ = some u := by
  have s1 := h.res.stored 0 (.int .i64 c)
  have s2 := s1.1.stored 1 u
  exact ⟨h.below.trans (grown_below (grown_trans s1.2 s2.2) (by omega) h.below.size), s2.1.cellAt 0 (by omega), s2.1.cellAt 1 (by omega)⟩

set_option maxRecDepth 100000 in
set_option maxHeartbeats 2000000 in
theorem vecLead_any (p n o v : Int) (x : Value) (fss : List (List Tm)) (w : World) (pf : Vl w x fss) :
    Calls Try.prog 7 #[ringV p n o v, x] w fun e w' => ∃ ea ec, e = .returned (.tuple #[.int .i64 (ldP (leadS (errAlike p n o v [fss]) (leadF o v fss fss.length))), .agg #[.int .i64 (ldC (leadS (errAlike p n o v [fss]) (leadF o v fss fss.length))), .slice ea (ldE (leadS (errAlike p n o v [fss]) (leadF o v fss fss.length))).length ec], .int .i64 (leadE (errAlike p n o v [fss]) (leadF o v fss fss.length))]) ∧
      Sl w' (.slice ea (ldE (leadS (errAlike p n o v [fss]) (leadF o v fss fss.length))).length ec) (ldE (leadS (errAlike p n o v [fss]) (leadF o v fss fss.length))) ∧ Below w.heap.size w w' := by
  have HX := hid pf
  obtain ⟨ax, cx, rfl, _⟩ := pf
  obtain ⟨w2, hw2⟩ : ∃ w2, w2 = (w.alloc (.cells #[.int .i64 p, .int .i64 n, .int .i64 o, .int .i64 v] 23)).alloc (.cells #[.int .i64 0, .slice none 0 0] 34) := ⟨_, rfl⟩
  have HR2 : Hid (ReW w w2 p n o v) := by rw [hw2]; exact ReW.first w p n o v
  have hs2 : w2.heap.size = w.heap.size + 1 + 1 := by rw [hw2]; simp
  have HW2 : Hid (∀ T, Wl (w2.alloc (.cells #[.slice ax fss.length cx] T)) (.slice (some ⟨w2.heap.size, 0, none⟩) 1 1) [fss]) := fun T => wl_one ((HX.out.below HR2.out.below).below below_oneG) (by simp) (by simp [go_sem])
  rw [hs2] at HW2
  have HVA := hid (fun T => vecAll_any p n o v _ [fss] _ (by simp) (HW2.out T))
  obtain ⟨_, bx0, bx1, bx2, bx3⟩ := HR2.out.box
  clear hs2
  cases hz : (errAlike p n o v [fss] != 0)
  · have hz0 : errAlike p n o v [fss] = 0 := by simpa using hz
    have HS0 : Hid (∀ st, leadS (errAlike p n o v [fss]) st = st) := fun st => by unfold leadS; rw [if_pos hz0]
    have HE0 : Hid (∀ st, leadE (errAlike p n o v [fss]) st = leadE 0 st) := fun st => by rw [hz0]
    rw [HS0.out, HE0.out]
    obtain ⟨hR, hall⟩ := alike_ok hz0
    obtain ⟨h1, _, h3⟩ := hall fss (by simp)
    obtain ⟨hpr, hn1, hn2, ho, hov⟩ := ring_ok hR
    have HRT : Hid (∀ f ∈ fss, Right p o n.toNat f) := fun f hf => (right_of hR (h3 f hf)).1
    have hN0 : 0 < n.toNat := by omega
    have hN3 : n.toNat ≤ 3 := by omega
    have h40 : fss.length ≤ 1000 := by omega
    have HO := hid ho
    have HZ := hid hz0
    have HAT := hid (fun j u => leadF_at (o := o) (ov := v) (fss := fss) (k := fss.length) (j := j) (u := u))
    clear hz0 hR hall h1 h3 hpr ho hov
    have HLP := hid (fun (W : World) (hv : Vl W (.slice ax fss.length cx) fss) => leadPlace_any p n o v n.toNat _ fss W HO.out hN0 hN3 h40 HRT.out hv)
    generalize leadF o v fss fss.length = st at HAT HLP ⊢
    cases st with
    | none =>
      have HP0 : Hid (∀ W, Vl W (.slice ax fss.length cx) fss → Calls Try.prog 30 #[ringV p n o v, .slice ax fss.length cx] W fun e w' => e = .returned (.int .i64 (-1)) ∧ Below W.heap.size W w') := HLP.out
      go_enter Try.func7, Try.ntmps7
      go_wp2_with fail
      try rw [← hw2]
      refine (HVA.out _).mono ?_
      rw [HZ.out]
      rintro e w3 ⟨rfl, hb3⟩
      have HR3 := hid (HR2.out.next (below_oneG.trans (hb3.mono (by simp))))
      clear hb3 bx0 bx1 bx2 bx3 hw2
      obtain ⟨_, bx0, bx1, bx2, bx3⟩ := HR3.out.box
      go_wp2_with fail
      refine (HP0.out _ (HX.out.below HR3.out.below)).mono ?_
      rintro e w4 ⟨rfl, hb4⟩
      have HR4 := hid (HR3.out.next hb4)
      clear hb4
      obtain ⟨r0, r1, q0, q1⟩ := HR4.out.cells
      obtain ⟨hbf, x0, x1⟩ := HR4.out.put 0 (.slice none 0 0)
      have HBF := hid hbf
      have HX01 := hid (And.intro x0 x1)
      clear hbf x0 x1
      go_wp2
      refine bodyPost_ret (v := .tuple #[.int .i64 0, .agg #[.int .i64 0, .slice none 0 0], .int .i64 5]) (by have x0 := HX01.out.1; have x1 := HX01.out.2; simp [results, Try.results7, go_sem, x0, x1]) rfl ⟨none, 0, rfl, ⟨none, 0, rfl, fun h => by simp [ldE] at h⟩, HBF.out⟩
    | some q =>
      obtain ⟨j, u⟩ := q
      obtain ⟨hj, us, hus⟩ := HAT.out j u rfl
      obtain ⟨b, off, fa, fc, rfl, hlt, c0, hpf⟩ := vl_at HX.out j hj
      have HRU := hid (HRT.out _ (getD_memL fss j hj))
      rw [hus] at c0 hpf HRU
      obtain ⟨b2, off2, ea, ec, rfl, hlt2, e0, e1, hse⟩ := pl_first hpf
      have HSE := hid hse
      have hu3 : u.2.length ≤ 400 := by rw [HRU.out.canon.len u (by simp)]; omega
      obtain ⟨mm, hmj⟩ : ∃ mm : Int, (j : Int) = mm := ⟨_, rfl⟩
      have hm0 : ¬ mm < 0 := by omega
      have hm1 : 0 ≤ mm := by omega
      have hm2 : mm < (fss.length : Int) := by omega
      have hmt : mm.toNat = j := by omega
      have HMJ := hid hmj
      have HC0 := hid c0
      rw [← hmt] at HC0
      have HP0 : Hid (∀ W, Vl W (.slice (some ⟨b, off, none⟩) fss.length cx) fss → Calls Try.prog 30 #[ringV p n o v, .slice (some ⟨b, off, none⟩) fss.length cx] W fun e w' => e = .returned (.int .i64 mm) ∧ Below W.heap.size W w') := fun W hv => by
        have h := HLP.out W hv
        rw [plc_some, hmj] at h
        exact h
      have HE01 := hid (And.intro e0 e1)
      clear hmj hmt hpf hse c0 e0 e1 hus
      go_enter Try.func7, Try.ntmps7
      go_wp2_with fail
      try rw [← hw2]
      refine (HVA.out _).mono ?_
      rw [HZ.out]
      rintro e w3 ⟨rfl, hb3⟩
      have HR3 := hid (HR2.out.next (below_oneG.trans (hb3.mono (by simp))))
      clear hb3 bx0 bx1 bx2 bx3 hw2
      obtain ⟨_, bx0, bx1, bx2, bx3⟩ := HR3.out.box
      go_wp2_with fail
      refine (HP0.out _ (HX.out.below HR3.out.below)).mono ?_
      rintro e w4 ⟨rfl, hb4⟩
      have HR4 := hid (HR3.out.next hb4)
      clear hb4
      have c0 := cell_keep HC0.out HR4.out.below
      have e0 := cell_keep HE01.out.1 HR4.out.below
      have e1 := cell_keep HE01.out.2 HR4.out.below
      have HR5 := hid (HR4.out.next (belowNew (A := .cells #[.int .i64 u.1, .slice ea u.2.length ec] 34)))
      have D0 : Hid ((w4.alloc (.cells #[.int .i64 u.1, .slice ea u.2.length ec] 34)).drew.cell? ⟨w4.heap.size, 0, none⟩ = some (.int .i64 u.1)) := by show _ = _; simp [go_sem]
      go_wp2_with fail
      go_region_with (go_at_call 31; refine (clone_any _ u.2 _ hu3 ((HSE.out.below HR5.out.below).below (Below.refl _ _).drew)).mono ?_; rintro e w9 ⟨u9, rfl, hu9, hb9⟩; have HR9 := hid ((HR5.out.next (Below.refl _ _).drew).next hb9); have HO9 := hid (show w9.ownsRow w.heap.size 3 1 u9 u.2.length (ints u.2) from ⟨hu9.1, hu9.2.imp id (fun ⟨g, c, cur, h1, h2, h3⟩ => ⟨g, c, cur, h1, Nat.le_trans HR5.out.below.size (by simpa using h2), h3⟩)⟩); obtain ⟨r0, r1, q0, q1⟩ := HR9.out.cells; have d0 := D0.out; rw [← hb9.cell (by simp)] at d0; obtain ⟨ua, uc, rfl⟩ := own_sl' hu9; clear hb9 hu9)
      all_goals
        obtain ⟨hbf, x0, x1⟩ := HR9.out.put u.1 (.slice ua u.2.length uc)
        have HX01 := hid (And.intro x0 x1)
        have HNE : Hid (Sl ((w9.setCell ⟨w.heap.size + 1, 0, none⟩ (.int .i64 u.1)).setCell ⟨w.heap.size + 1, 1, none⟩ (.slice ua u.2.length uc)) (.slice ua u.2.length uc) u.2) := by
          have s1 := HR9.out.res.stored 0 (.int .i64 u.1)
          have s2 := s1.1.stored 1 (.slice ua u.2.length uc)
          exact ownsRow_slI (B := w.heap.size) (HO9.out.kept (grown_trans s1.2 s2.2) (own_neT (by decide) HO9.out HR9.out.res))
        have HBF := hid hbf
        clear hbf x0 x1
        go_wp2
        refine bodyPost_ret (v := .tuple #[.int .i64 mm, .agg #[.int .i64 u.1, .slice ua u.2.length uc], .int .i64 0]) (by have x0 := HX01.out.1; have x1 := HX01.out.2; simp [results, Try.results7, go_sem, x0, x1]) rfl ⟨ua, uc, by rw [← HMJ.out]; rfl, HNE.out, HBF.out⟩
  · have hz0 : errAlike p n o v [fss] ≠ 0 := by simpa using hz
    have HS0 : Hid (∀ st, leadS (errAlike p n o v [fss]) st = none) := fun st => by unfold leadS; rw [if_neg hz0]
    have HE0 : Hid (∀ st, leadE (errAlike p n o v [fss]) st = errAlike p n o v [fss]) := fun st => by unfold leadE; rw [if_pos hz0]
    rw [HS0.out, HE0.out]
    clear hz0
    go_enter Try.func7, Try.ntmps7
    go_wp2_with fail
    try rw [← hw2]
    refine (HVA.out _).mono ?_
    rintro e w3 ⟨rfl, hb3⟩
    have HR3 := hid (HR2.out.next (below_oneG.trans (hb3.mono (by simp))))
    clear hb3
    obtain ⟨r0, r1, q0, q1⟩ := HR3.out.cells
    obtain ⟨hbf, x0, x1⟩ := HR3.out.put 0 (.slice none 0 0)
    have HBF := hid hbf
    have HX01 := hid (And.intro x0 x1)
    clear hbf x0 x1
    go_wp2
    refine bodyPost_ret (v := .tuple #[.int .i64 0, .agg #[.int .i64 0, .slice none 0 0], .int .i64 (errAlike p n o v [fss])]) (by have x0 := HX01.out.1; have x1 := HX01.out.2; simp [results, Try.results7, go_sem, x0, x1]) rfl ⟨none, 0, rfl, ⟨none, 0, rfl, fun h => by simp [ldE] at h⟩, HBF.out⟩
end Go.Proofs.Ytilogbggilchaaa
