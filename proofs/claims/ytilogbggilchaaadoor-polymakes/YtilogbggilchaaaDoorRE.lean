/- CheckOne, CheckPolys of the reference. -/
import Derived.Test.YtilogbggilchaaaDoorRB
namespace Go.Proofs.YtilogbggilchaaaDoor
set_option linter.unusedSimpArgs false
set_option linter.unusedVariables false
open Go.RowKit
def okPrev (o : Int) (q : Option (List Int)) (e : List Int) : Bool :=
  match q with
  | some x => moreB o x e
  | none => true
def errFrom (p n o : Int) : Option (List Int) → List Tm → Int
  | _, [] => 0
  | q, t :: ts => if betweenB t.1 1 (p - 1) = false then 3 else if errM n t.2 ≠ 0 then errM n t.2 else if okPrev o q t.2 = false then 4 else errFrom p n o (some t.2) ts
def prevE (ts : List Tm) : Nat → Option (List Int)
  | 0 => none
  | k + 1 => some (ts.getD k noT).2
theorem errFrom_drop (p n o : Int) (ts : List Tm) (k : Nat) (h : k < ts.length) (q : Option (List Int)) : errFrom p n o q (ts.drop k) =
    if betweenB (ts.getD k noT).1 1 (p - 1) = false then 3 else if errM n (ts.getD k noT).2 ≠ 0 then errM n (ts.getD k noT).2 else if okPrev o q (ts.getD k noT).2 = false then 4 else errFrom p n o (prevE ts (k + 1)) (ts.drop (k + 1)) := by
  rw [List.drop_eq_getElem_cons h]
  have e : ts.getD k noT = ts[k] := by simp [List.getD_eq_getElem?_getD, h]
  rw [prevE, e]
  rfl
def errOne (p n o : Int) (ts : List Tm) : Int := if 2000 < ts.length then 2 else errFrom p n o none ts
theorem errFrom_ok {p o : Int} {N : Nat} : ∀ (ts : List Tm) (q : Option (List Int)), errFrom p N o q ts = 0 → (∀ e, q = some e → e.length = N) → (∀ t ∈ ts, (1 ≤ t.1 ∧ t.1 < p) ∧ errM N t.2 = 0) ∧ Falls o ts ∧ (∀ e t ts', q = some e → ts = t :: ts' → 0 < ordS o e t.2)
  | [], q, _, _ => ⟨fun t ht => by simp at ht, trivial, fun e t ts' _ h => by simp at h⟩
  | t :: ts, q, h, hq => by
    have hu : errFrom p N o q (t :: ts) = if betweenB t.1 1 (p - 1) = false then 3 else if errM N t.2 ≠ 0 then errM N t.2 else if okPrev o q t.2 = false then 4 else errFrom p N o (some t.2) ts := rfl
    rw [hu] at h
    clear hu
    by_cases h1 : betweenB t.1 1 (p - 1) = false
    · rw [if_pos h1] at h; omega
    rw [if_neg h1] at h
    by_cases h2 : errM N t.2 ≠ 0
    · rw [if_pos h2] at h; exact absurd h h2
    rw [if_neg h2] at h
    by_cases h3 : okPrev o q t.2 = false
    · rw [if_pos h3] at h; omega
    rw [if_neg h3] at h
    have h2' : errM N t.2 = 0 := by omega
    have hl : t.2.length = N := by have := (errM_ok h2').1; omega
    obtain ⟨i1, i2, i3⟩ := errFrom_ok ts (some t.2) h (fun e he => by simp at he; rw [← he]; exact hl)
    have hb : 1 ≤ t.1 ∧ t.1 < p := by simp [betweenB] at h1; omega
    refine ⟨fun u hu => ?_, ⟨fun u hu => ?_, i2⟩, fun e u ts' he hu => ?_⟩
    · rcases List.mem_cons.1 hu with rfl | hu
      · exact ⟨hb, h2'⟩
      · exact i1 u hu
    · cases ts with
      | nil => simp at hu
      | cons x xs =>
        have hx := i3 t.2 x xs rfl rfl
        rcases List.mem_cons.1 hu with rfl | hu
        · exact hx
        · have l1 : x.2.length = N := by have := (errM_ok (i1 x (by simp)).2).1; omega
          have l2 : u.2.length = N := by have := (errM_ok (i1 u (by simp [hu])).2).1; omega
          exact ordS_trans o t.2 x.2 u.2 (by omega) (by omega) hx (i2.1 u hu)
    · rw [he] at h3
      simp only [List.cons.injEq] at hu
      obtain ⟨rfl, _⟩ := hu
      simpa [okPrev, moreB] using h3
structure Right (p o : Int) (N : Nat) (ts : List Tm) : Prop where
  canon : Canon p o N ts
  bd : Bd2 ts
  len : ts.length ≤ 2000
  deg : ∀ t ∈ ts, sumI t.2 ≤ 200
theorem errOne_ok {p o : Int} {N : Nat} {ts : List Tm} (h : errOne p N o ts = 0) : Right p o N ts := by
  unfold errOne at h
  split at h
  · omega
  rename_i hl
  obtain ⟨h1, h2, _⟩ := errFrom_ok ts none h (fun e he => by simp at he)
  refine ⟨⟨fun t ht => ?_, h2, fun t ht => (h1 t ht).1⟩, fun t ht => (errM_ok (h1 t ht).2).2.1, by omega, fun t ht => (errM_ok (h1 t ht).2).2.2⟩
  have := (errM_ok (h1 t ht).2).1
  omega
theorem getD_memTk (ts : List Tm) (k : Nat) (h : k < ts.length) : ts.getD k noT ∈ ts.take (k + 1) := by
  rw [List.take_succ_eq_append_getElem h, List.getD_eq_getElem?_getD, List.getElem?_eq_getElem h, List.mem_append]; right; simp
theorem wrapPred {k : Nat} (h : 0 < k) (h2 : k ≤ 2000) : IntKind.i64.wrap ((k : Int) - 1) = (k : Int) - 1 := by
  rw [IntKind.wrap_i64]; omega
theorem predFacts {k n : Nat} (h : 0 < k) (h2 : k < n) : (0 : Int) ≤ (k : Int) - 1 ∧ (k : Int) - 1 < (n : Int) ∧ ((k : Int) - 1).toNat = k - 1 ∧ (1 : Int) ≤ (k : Int) ∧ (k : Int) ≤ (n : Int) ∧ ¬ (k : Int) < 1 ∧ ¬ (n : Int) ≤ (k : Int) - 1 := ⟨by omega, by omega, by omega, by omega, by omega, by omega, by omega⟩
set_option maxRecDepth 100000 in
set_option maxHeartbeats 2000000 in
theorem checkOne_any (p n o v : Int) (fv : Value) (ts : List Tm) (w : World) (hp : 2 ≤ p ∧ p ≤ 101) (hn : 1 ≤ n ∧ n ≤ 3) (ho : o = 1 ∨ o = 2) (pf : Pl w fv ts) :
    Calls Tryd.prog 29 #[ringV p n o v, fv] w fun e w' => e = .returned (.int .i64 (errOne p n o ts)) ∧ Below w.heap.size w w' := by
  obtain ⟨fa, fc, rfl, _, hfc⟩ := pf
  have HFC := hid hfc
  have HN := hid hn
  have HO := hid ho
  obtain ⟨hp1, hp2⟩ := hp
  clear hfc hn ho
  obtain ⟨w1, hw1⟩ : ∃ w1, w1 = w.alloc (.cells #[.int .i64 p, .int .i64 n, .int .i64 o, .int .i64 v] 23) := ⟨_, rfl⟩
  have hbx : BoxAt w1 w.heap.size p n o v := by rw [hw1]; exact BoxAt.new w p n o v _
  have hbw : Below w.heap.size w w1 := by rw [hw1]; exact below_oneG
  have HBX := hid hbx
  have HBW := hid hbw
  clear hbx hbw
  by_cases hlen : 2000 < ts.length
  · have he : errOne p n o ts = 2 := by unfold errOne; rw [if_pos hlen]
    rw [he]; clear he
    go_enter Tryd.func29, Tryd.ntmps29
    go_wp2
    go_ret
    rw [← hw1]
    exact ⟨rfl, HBW.out⟩
  · have he : errOne p n o ts = errFrom p n o none ts := by unfold errOne; rw [if_neg hlen]
    rw [he]; clear he
    go_enter Tryd.func29, Tryd.ntmps29
    go_wp2_with fail
    rw [← hw1]
    clear hw1
    go_loopw [5] (fun i wr => ∃ k : Nat, k ≤ ts.length ∧ i = .int .i64 k ∧ errFrom p n o none ts = errFrom p n o (prevE ts k) (ts.drop k) ∧ (∀ t ∈ ts.take k, errM n t.2 = 0) ∧ Below w1.heap.size w1 wr) (fun i _ => ts.length - (intOf i).toNat)
    case atStart => exact ⟨0, Nat.zero_le _, rfl, rfl, by simp, Below.refl _ _⟩
    case round =>
      obtain ⟨k, hk, rfl, herr, hall, hbr⟩ := hrel
      have HBR := hid hbr
      have HALL := hid hall
      clear hall hbr
      by_cases hk2 : k < ts.length
      · obtain ⟨b, off, rfl, hlt, hat⟩ := HFC.out (by omega)
        obtain ⟨c0, ev, c1, hse⟩ := hat k hk2
        have HER := hid (herr.trans (errFrom_drop p n o ts k hk2 (prevE ts k)))
        have HTK : Hid (∀ t ∈ ts.take (k + 1), t ∈ ts.take k ∨ t = ts.getD k noT) := by
          intro u hu
          rw [List.take_succ_eq_append_getElem hk2, List.mem_append, List.mem_singleton] at hu
          rcases hu with hu | hu
          · exact Or.inl hu
          · right; rw [hu]; simp [List.getD_eq_getElem?_getD, hk2]
        have HDN := hid (HBW.out.trans (HBR.out.mono HBW.out.size))
        have HAT := hid hat
        clear herr hat
        generalize ts.getD k noT = t at c0 hse HER HTK
        obtain ⟨tc, te⟩ := t
        have HSE0 := hid hse
        have HSE := hid (hse.below HDN.out)
        obtain ⟨ea, ec, rfl, _⟩ := hse
        simp only at c0 c1
        have bx := HBX.out
        obtain ⟨_, bx0, bx1, bx2, bx3⟩ := bx
        have KEEP : Hid (∀ W, Below w1.heap.size w1 W → (Hid (Below w1.heap.size w1 W) ∧ W.cell? ⟨w.heap.size, 0, none⟩ = some (.int .i64 p) ∧ W.cell? ⟨w.heap.size, 1, none⟩ = some (.int .i64 n) ∧ W.cell? ⟨w.heap.size, 2, none⟩ = some (.int .i64 o) ∧ W.cell? ⟨w.heap.size, 3, none⟩ = some (.int .i64 v) ∧ W.cell? ⟨b, off + k * 2, none⟩ = some (.int .i64 tc) ∧ W.cell? ⟨b, off + k * 2 + 1, none⟩ = some (.slice ea te.length ec))) :=
          fun W hb => ⟨hb, cell_keep bx0 hb, cell_keep bx1 hb, cell_keep bx2 hb, cell_keep bx3 hb, cell_keep (cell_keep c0 HBW.out) hb, cell_keep (cell_keep c1 HBW.out) hb⟩
        have K0 := KEEP.out wr HBR.out
        obtain ⟨_, kp, _, _, _, kc0, kc1⟩ := K0
        clear bx0 bx1 bx2 bx3
        cases hb1 : betweenB tc 1 (p - 1)
        · go_wp2_with fail
          go_quiet ((go_at_call 42; exact Calls.quiet_of_same (between_any _ _ _ _)))
          have HQ1 := hid (below_drewN HBR.out nq)
          go_wp2
          go_ret
          exact ⟨ret_int (by rw [HER.out, if_pos hb1]), HBW.out.trans (HQ1.out.mono HBW.out.size)⟩
        · cases hb2 : (errM n te != 0)
          · have hb20 : errM n te = 0 := by simpa using hb2
            have HB20 := hid hb20
            rcases Nat.eq_zero_or_pos k with rfl | hpos
            · simp only [Nat.zero_mul, Nat.add_zero] at c0 c1 kc0 kc1 KEEP
              go_wp2_with fail
              go_quiet ((go_at_call 42; exact Calls.quiet_of_same (between_any _ _ _ _)))
              have HQ1 := hid (below_drewN HBR.out nq)
              go_wp2_with fail
              go_region_held (fun W => Hid (Below w1.heap.size w1 W) ∧ W.cell? ⟨w.heap.size, 0, none⟩ = some (.int .i64 p) ∧ W.cell? ⟨w.heap.size, 1, none⟩ = some (.int .i64 n) ∧ W.cell? ⟨w.heap.size, 2, none⟩ = some (.int .i64 o) ∧ W.cell? ⟨w.heap.size, 3, none⟩ = some (.int .i64 v) ∧ W.cell? ⟨b, off, none⟩ = some (.int .i64 tc) ∧ W.cell? ⟨b, off + 1, none⟩ = some (.slice ea te.length ec))
                (first | exact KEEP.out _ HQ1.out.drew | exact KEEP.out _ (HQ1.out.drew.trans (hb9.mono HQ1.out.drew.size)))
                (first | (go_at_call 43; refine (checkMono_any p n o v _ te _ HN.out ?_).mono ?_; exact HSE.out.below (below_drewN (Below.refl _ _) _).drew; rintro e w9 ⟨rfl, hb9⟩))
              have HB9 := hid (show Below w1.heap.size w1 w9 from HQ1.out.drew.trans (hb9.mono HQ1.out.drew.size))
              clear hb9
              try rw [HB20.out]
              go_wp2_with fail
              go_quiet (fail)
              go_wp2
              go_roundw
              case rel => exact ⟨1, by omega, by go_num, by rw [HER.out, if_neg (by rw [hb1]; simp), if_neg (by simpa using HB20.out)]; simp [prevE, okPrev], fun t ht => by
                rcases HTK.out t ht with h | h
                · simp at h
                · rw [h]; exact HB20.out, below_drewN HB9.out _⟩
              case measure => simp [intOf]; omega
            · have hk3 : k - 1 < ts.length := by omega
              obtain ⟨_, ev2, d1, hse2⟩ := HAT.out (k - 1) hk3
              have hse2' := hse2
              have HPE : Hid (prevE ts k = some (ts.getD (k - 1) noT).2) := by
                obtain ⟨m, rfl⟩ : ∃ m, k = m + 1 := ⟨k - 1, by omega⟩
                rfl
              have HQE := hid (HALL.out _ (by have h := getD_memTk ts (k - 1) hk3; rwa [show k - 1 + 1 = k from Nat.sub_add_cancel hpos] at h))
              generalize ts.getD (k - 1) noT = q at hse2 hse2' HPE HQE
              obtain ⟨qc, qe⟩ := q
              have HSE2 := hid (hse2.below HDN.out)
              obtain ⟨ea2, ec2, rfl, _⟩ := hse2
              simp only at d1 HPE HQE
              have hq := errM_ok HQE.out
              have ht := errM_ok hb20
              have HLL : Hid (qe.length = te.length) := by have h1 := hq.1; have h2 := ht.1; show _ = _; omega
              have hq0 : 0 < qe.length := by have h1 := hq.1; have h2 := HN.out; omega
              have hq3 : qe.length ≤ 3 := by have h1 := hq.1; have h2 := HN.out; omega
              have HQB := hid (And.intro (show ∀ x ∈ qe, 0 ≤ x ∧ x ≤ 400 from fun x hx => by have := hq.2.1 x hx; omega) (show ∀ x ∈ te, 0 ≤ x ∧ x ≤ 400 from fun x hx => by have := ht.2.1 x hx; omega))
              have HSQ := hid (And.intro (hse2'.below HBW.out) (HSE0.out.below HBW.out))
              have KEEP2 : Hid (∀ W, Below w1.heap.size w1 W → (Hid (Below w1.heap.size w1 W) ∧ W.cell? ⟨w.heap.size, 0, none⟩ = some (.int .i64 p) ∧ W.cell? ⟨w.heap.size, 1, none⟩ = some (.int .i64 n) ∧ W.cell? ⟨w.heap.size, 2, none⟩ = some (.int .i64 o) ∧ W.cell? ⟨w.heap.size, 3, none⟩ = some (.int .i64 v) ∧ W.cell? ⟨b, off + k * 2, none⟩ = some (.int .i64 tc) ∧ W.cell? ⟨b, off + k * 2 + 1, none⟩ = some (.slice ea te.length ec) ∧ W.cell? ⟨b, off + (k - 1) * 2 + 1, none⟩ = some (.slice ea2 qe.length ec2))) := fun W hb => by
                have h := KEEP.out W hb
                exact ⟨h.1, h.2.1, h.2.2.1, h.2.2.2.1, h.2.2.2.2.1, h.2.2.2.2.2.1, h.2.2.2.2.2.2, cell_keep (cell_keep d1 HBW.out) hb⟩
              obtain ⟨hq1, hq2, hq4, hq5, hq6, hq7, hq8⟩ := predFacts hpos hk2
              have hwr := wrapPred hpos (Nat.le_trans hk (Nat.not_lt.1 hlen))
              clear hq ht hb20
              cases hb3 : moreB o qe te
              · go_wp2_with fail
                go_quiet ((go_at_call 42; exact Calls.quiet_of_same (between_any _ _ _ _)))
                have HQ1 := hid (below_drewN HBR.out nq)
                go_wp2_with fail
                go_region_held (fun W => Hid (Below w1.heap.size w1 W) ∧ W.cell? ⟨w.heap.size, 0, none⟩ = some (.int .i64 p) ∧ W.cell? ⟨w.heap.size, 1, none⟩ = some (.int .i64 n) ∧ W.cell? ⟨w.heap.size, 2, none⟩ = some (.int .i64 o) ∧ W.cell? ⟨w.heap.size, 3, none⟩ = some (.int .i64 v) ∧ W.cell? ⟨b, off + k * 2, none⟩ = some (.int .i64 tc) ∧ W.cell? ⟨b, off + k * 2 + 1, none⟩ = some (.slice ea te.length ec))
                  (first | exact KEEP.out _ HQ1.out.drew | exact KEEP.out _ (HQ1.out.drew.trans (hb9.mono HQ1.out.drew.size)))
                  (first | (go_at_call 43; refine (checkMono_any p n o v _ te _ HN.out ?_).mono ?_; exact HSE.out.below (below_drewN (Below.refl _ _) _).drew; rintro e w9 ⟨rfl, hb9⟩))
                have HB9 := hid (show Below w1.heap.size w1 w9 from HQ1.out.drew.trans (hb9.mono HQ1.out.drew.size))
                clear hb9
                rw [HB20.out]
                go_wp2_with fail
                go_region_held (fun W => Hid (Below w1.heap.size w1 W) ∧ W.cell? ⟨w.heap.size, 0, none⟩ = some (.int .i64 p) ∧ W.cell? ⟨w.heap.size, 1, none⟩ = some (.int .i64 n) ∧ W.cell? ⟨w.heap.size, 2, none⟩ = some (.int .i64 o) ∧ W.cell? ⟨w.heap.size, 3, none⟩ = some (.int .i64 v) ∧ W.cell? ⟨b, off + k * 2, none⟩ = some (.int .i64 tc) ∧ W.cell? ⟨b, off + k * 2 + 1, none⟩ = some (.slice ea te.length ec) ∧ W.cell? ⟨b, off + (k - 1) * 2 + 1, none⟩ = some (.slice ea2 qe.length ec2))
                  (first | exact KEEP2.out _ HB9.out.drew | exact KEEP2.out _ (HB9.out.drew.trans (hb8.mono HB9.out.drew.size)))
                  (first | (go_at_call 44; refine (more_any p n o v _ _ qe te _ HO.out hq0 hq3 HLL.out HQB.out.1 HQB.out.2 ?_ ?_).mono ?_; exact HSQ.out.1.below HB9.out.drew; exact HSQ.out.2.below HB9.out.drew; rintro e w8 ⟨rfl, hb8⟩))
                have HB8 := hid (show Below w1.heap.size w1 w8 from HB9.out.drew.trans (hb8.mono HB9.out.drew.size))
                clear hb8
                try rw [hb3]
                go_wp2_with fail
                go_ret
                exact ⟨ret_int (by rw [HER.out, if_neg (by rw [hb1]; simp), if_neg (by simpa using HB20.out), if_pos (by rw [HPE.out]; exact hb3)]), HBW.out.trans (HB8.out.mono HBW.out.size)⟩
              · go_wp2_with fail
                go_quiet ((go_at_call 42; exact Calls.quiet_of_same (between_any _ _ _ _)))
                have HQ1 := hid (below_drewN HBR.out nq)
                go_wp2_with fail
                go_region_held (fun W => Hid (Below w1.heap.size w1 W) ∧ W.cell? ⟨w.heap.size, 0, none⟩ = some (.int .i64 p) ∧ W.cell? ⟨w.heap.size, 1, none⟩ = some (.int .i64 n) ∧ W.cell? ⟨w.heap.size, 2, none⟩ = some (.int .i64 o) ∧ W.cell? ⟨w.heap.size, 3, none⟩ = some (.int .i64 v) ∧ W.cell? ⟨b, off + k * 2, none⟩ = some (.int .i64 tc) ∧ W.cell? ⟨b, off + k * 2 + 1, none⟩ = some (.slice ea te.length ec))
                  (first | exact KEEP.out _ HQ1.out.drew | exact KEEP.out _ (HQ1.out.drew.trans (hb9.mono HQ1.out.drew.size)))
                  (first | (go_at_call 43; refine (checkMono_any p n o v _ te _ HN.out ?_).mono ?_; exact HSE.out.below (below_drewN (Below.refl _ _) _).drew; rintro e w9 ⟨rfl, hb9⟩))
                have HB9 := hid (show Below w1.heap.size w1 w9 from HQ1.out.drew.trans (hb9.mono HQ1.out.drew.size))
                clear hb9
                rw [HB20.out]
                go_wp2_with fail
                go_region_held (fun W => Hid (Below w1.heap.size w1 W) ∧ W.cell? ⟨w.heap.size, 0, none⟩ = some (.int .i64 p) ∧ W.cell? ⟨w.heap.size, 1, none⟩ = some (.int .i64 n) ∧ W.cell? ⟨w.heap.size, 2, none⟩ = some (.int .i64 o) ∧ W.cell? ⟨w.heap.size, 3, none⟩ = some (.int .i64 v) ∧ W.cell? ⟨b, off + k * 2, none⟩ = some (.int .i64 tc) ∧ W.cell? ⟨b, off + k * 2 + 1, none⟩ = some (.slice ea te.length ec) ∧ W.cell? ⟨b, off + (k - 1) * 2 + 1, none⟩ = some (.slice ea2 qe.length ec2))
                  (first | exact KEEP2.out _ HB9.out.drew | exact KEEP2.out _ (HB9.out.drew.trans (hb8.mono HB9.out.drew.size)))
                  (first | (go_at_call 44; refine (more_any p n o v _ _ qe te _ HO.out hq0 hq3 HLL.out HQB.out.1 HQB.out.2 ?_ ?_).mono ?_; exact HSQ.out.1.below HB9.out.drew; exact HSQ.out.2.below HB9.out.drew; rintro e w8 ⟨rfl, hb8⟩))
                have HB8 := hid (show Below w1.heap.size w1 w8 from HB9.out.drew.trans (hb8.mono HB9.out.drew.size))
                clear hb8
                try rw [hb3]
                go_wp2_with fail
                go_roundw
                case rel => exact ⟨k + 1, by omega, by go_num, by rw [HER.out, if_neg (by rw [hb1]; simp), if_neg (by simpa using HB20.out), if_neg (by rw [HPE.out]; simp [okPrev, hb3])], fun t ht => by
                  rcases HTK.out t ht with h | h
                  · exact HALL.out t h
                  · rw [h]; exact HB20.out, HB8.out⟩
                case measure => simp [intOf]; omega
          · go_wp2_with fail
            go_quiet ((go_at_call 42; exact Calls.quiet_of_same (between_any _ _ _ _)))
            have HQ1 := hid (below_drewN HBR.out nq)
            go_wp2_with fail
            go_region_held (fun W => Hid (Below w1.heap.size w1 W) ∧ W.cell? ⟨w.heap.size, 0, none⟩ = some (.int .i64 p) ∧ W.cell? ⟨w.heap.size, 1, none⟩ = some (.int .i64 n) ∧ W.cell? ⟨w.heap.size, 2, none⟩ = some (.int .i64 o) ∧ W.cell? ⟨w.heap.size, 3, none⟩ = some (.int .i64 v) ∧ W.cell? ⟨b, off + k * 2, none⟩ = some (.int .i64 tc) ∧ W.cell? ⟨b, off + k * 2 + 1, none⟩ = some (.slice ea te.length ec))
              (first | exact KEEP.out _ HQ1.out.drew | exact KEEP.out _ (HQ1.out.drew.trans (hb9.mono HQ1.out.drew.size)))
              (first | (go_at_call 43; refine (checkMono_any p n o v _ te _ HN.out ?_).mono ?_; exact HSE.out.below (below_drewN (Below.refl _ _) _).drew; rintro e w9 ⟨rfl, hb9⟩))
            have HB9 := hid (show Below w1.heap.size w1 w9 from HQ1.out.drew.trans (hb9.mono HQ1.out.drew.size))
            clear hb9
            go_wp2
            go_ret
            exact ⟨ret_int (by rw [HER.out, if_neg (by rw [hb1]; simp), if_pos (by simpa using hb2)]), HBW.out.trans (HB9.out.mono HBW.out.size)⟩
      · go_wp2
        go_ret
        exact ⟨ret_int (by rw [herr, List.drop_eq_nil_of_le (by omega)]; cases k <;> rfl), HBW.out.trans (HBR.out.mono HBW.out.size)⟩
end Go.Proofs.YtilogbggilchaaaDoor
