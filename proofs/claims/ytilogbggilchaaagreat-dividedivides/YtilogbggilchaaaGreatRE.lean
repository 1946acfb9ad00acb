/- CheckOne, CheckPolys of the reference. -/
import Derived.Test.YtilogbggilchaaaGreatRC
import Derived.Test.YtilogbggilchaaaGreatFN
namespace Go.Proofs.YtilogbggilchaaaGreat
set_option linter.unusedSimpArgs false
set_option linter.unusedVariables false
open Go.RowKit
def okPrev (o : Int) (q : Option (List Int)) (e : List Int) : Bool :=
  match q with
  | some x => moreB o x e
  | none => true
def errFrom (p n o : Int) : Option (List Int) → List Tm → Int
  | _, [] => 0
  | q, t :: ts => if betweenB t.1 1 (p - 1) = false then 3 else if errM n t.2 ≠ 0 then errM n t.2 else if okPrev o q t.2 = false then 4 else errFrom p n o (some t.2) ts
def prevE (ts : List Tm) : Nat → Option (List Int)
  | 0 => none
  | k + 1 => some (ts.getD k noT).2
theorem errFrom_drop (p n o : Int) (ts : List Tm) (k : Nat) (h : k < ts.length) (q : Option (List Int)) : errFrom p n o q (ts.drop k) =
    if betweenB (ts.getD k noT).1 1 (p - 1) = false then 3 else if errM n (ts.getD k noT).2 ≠ 0 then errM n (ts.getD k noT).2 else if okPrev o q (ts.getD k noT).2 = false then 4 else errFrom p n o (prevE ts (k + 1)) (ts.drop (k + 1)) := by
  rw [List.drop_eq_getElem_cons h]
  have e : ts.getD k noT = ts[k] := by simp [List.getD_eq_getElem?_getD, h]
  rw [prevE, e]
  rfl
def errOne (p n o : Int) (ts : List Tm) : Int := if 2000 < ts.length then 2 else errFrom p n o none ts
theorem errFrom_ok {p o : Int} {N : Nat} : ∀ (ts : List Tm) (q : Option (List Int)), errFrom p N o q ts = 0 → (∀ e, q = some e → e.length = N) → (∀ t ∈ ts, (1 ≤ t.1 ∧ t.1 < p) ∧ errM N t.2 = 0) ∧ Falls o ts ∧ (∀ e t ts', q = some e → ts = t :: ts' → 0 < ordS o e t.2)
  | [], q, _, _ => ⟨fun t ht => by simp at ht, trivial, fun e t ts' _ h => by simp at h⟩
  | t :: ts, q, h, hq => by
    have hu : errFrom p N o q (t :: ts) = if betweenB t.1 1 (p - 1) = false then 3 else if errM N t.2 ≠ 0 then errM N t.2 else if okPrev o q t.2 = false then 4 else errFrom p N o (some t.2) ts := rfl
    rw [hu] at h
    clear hu
    by_cases h1 : betweenB t.1 1 (p - 1) = false
    · rw [if_pos h1] at h; omega
    rw [if_neg h1] at h
    by_cases h2 : errM N t.2 ≠ 0
    · rw [if_pos h2] at h; exact absurd h h2
    rw [if_neg h2] at h
    by_cases h3 : okPrev o q t.2 = false
    · rw [if_pos h3] at h; omega
    rw [if_neg h3] at h
    have h2' : errM N t.2 = 0 := by omega
    have hl : t.2.length = N := by have := (errM_ok h2').1; omega
    obtain ⟨i1, i2, i3⟩ := errFrom_ok ts (some t.2) h (fun e he => by simp at he; rw [← he]; exact hl)
    have hb : 1 ≤ t.1 ∧ t.1 < p := by simp [betweenB] at h1; omega
    refine ⟨fun u hu => ?_, ⟨fun u hu => ?_, i2⟩, fun e u ts' he hu => ?_⟩
    · rcases List.mem_cons.1 hu with rfl | hu
      · exact ⟨hb, h2'⟩
      · exact i1 u hu
    · cases ts with
      | nil => simp at hu
      | cons x xs =>
        have hx := i3 t.2 x xs rfl rfl
        rcases List.mem_cons.1 hu with rfl | hu
        · exact hx
        · have l1 : x.2.length = N := by have := (errM_ok (i1 x (by simp)).2).1; omega
          have l2 : u.2.length = N := by have := (errM_ok (i1 u (by simp [hu])).2).1; omega
          exact ordS_trans o t.2 x.2 u.2 (by omega) (by omega) hx (i2.1 u hu)
    · rw [he] at h3
      simp only [List.cons.injEq] at hu
      obtain ⟨rfl, _⟩ := hu
      simpa [okPrev, moreB] using h3
structure Right (p o : Int) (N : Nat) (ts : List Tm) : Prop where
  canon : Canon p o N ts
  bd : Bd2 ts
  len : ts.length ≤ 2000
  deg : ∀ t ∈ ts, sumI t.2 ≤ 200
theorem errOne_ok {p o : Int} {N : Nat} {ts : List Tm} (h : errOne p N o ts = 0) : Right p o N ts := by
  unfold errOne at h
  split at h
  · omega
  rename_i hl
  obtain ⟨h1, h2, _⟩ := errFrom_ok ts none h (fun e he => by simp at he)
  refine ⟨⟨fun t ht => ?_, h2, fun t ht => (h1 t ht).1⟩, fun t ht x hx => by have h9 := (errM_ok (h1 t ht).2).2.1 x hx; omega, by omega, fun t ht => (errM_ok (h1 t ht).2).2.2⟩
  have := (errM_ok (h1 t ht).2).1
  omega
theorem getD_memTk (ts : List Tm) (k : Nat) (h : k < ts.length) : ts.getD k noT ∈ ts.take (k + 1) := by
  rw [List.take_succ_eq_append_getElem h, List.getD_eq_getElem?_getD, List.getElem?_eq_getElem h, List.mem_append]; right; simp
theorem wrapPred {k : Nat} (h : 0 < k) (h2 : k ≤ 2000) : IntKind.i64.wrap ((k : Int) - 1) = (k : Int) - 1 := by
  rw [IntKind.wrap_i64]; omega
theorem predFacts {k n : Nat} (h : 0 < k) (h2 : k < n) : (0 : Int) ≤ (k : Int) - 1 ∧ (k : Int) - 1 < (n : Int) ∧ ((k : Int) - 1).toNat = k - 1 ∧ (1 : Int) ≤ (k : Int) ∧ (k : Int) ≤ (n : Int) ∧ ¬ (k : Int) < 1 ∧ ¬ (n : Int) ≤ (k : Int) - 1 := ⟨by omega, by omega, by omega, by omega, by omega, by omega, by omega⟩
theorem emptyRight (p o : Int) (N : Nat) : Right p o N [] := ⟨⟨fun t ht => by simp at ht, trivial, fun t ht => by simp at ht⟩, fun t ht => by simp at ht, by simp, fun t ht => by simp at ht⟩

set_option maxRecDepth 100000 in
set_option maxHeartbeats 2000000 in
theorem checkOne_any (p n o v : Int) (fv : Value) (ts : List Tm) (w : World) (hp : 2 ≤ p ∧ p ≤ 101) (hn : 1 ≤ n ∧ n ≤ 3) (ho : o = 1 ∨ o = 2) (pf : Pl w fv ts) :
    Calls Tryz.prog 70 #[ringV p n o v, fv] w fun e w' => e = .returned (.int .i64 (errOne p n o ts)) ∧ Below w.heap.size w w' := by
  obtain ⟨fa, fc, rfl, _, hfc⟩ := pf
  have HFC := hid hfc
  have HN := hid hn
  have HO := hid ho
  obtain ⟨hp1, hp2⟩ := hp
  clear hfc hn ho
  obtain ⟨w1, hw1⟩ : ∃ w1, w1 = w.alloc (.cells #[.int .i64 p, .int .i64 n, .int .i64 o, .int .i64 v] 23) := ⟨_, rfl⟩
  have hbx : BoxAt w1 w.heap.size p n o v := by rw [hw1]; exact BoxAt.new w p n o v _
  have hbw : Below w.heap.size w w1 := by rw [hw1]; exact below_oneG
  have HBX := hid hbx
  have HBW := hid hbw
  clear hbx hbw
  by_cases hlen : 2000 < ts.length
  · have he : errOne p n o ts = 2 := by unfold errOne; rw [if_pos hlen]
    rw [he]; clear he
    go_enter Tryz.func70, Tryz.ntmps70
    go_wp2
    go_ret
    rw [← hw1]
    exact ⟨rfl, HBW.out⟩
  · have he : errOne p n o ts = errFrom p n o none ts := by unfold errOne; rw [if_neg hlen]
    rw [he]; clear he
    go_enter Tryz.func70, Tryz.ntmps70
    go_wp2_with fail
    rw [← hw1]
    clear hw1
    go_loopw [5] (fun i wr => ∃ k : Nat, k ≤ ts.length ∧ i = .int .i64 k ∧ errFrom p n o none ts = errFrom p n o (prevE ts k) (ts.drop k) ∧ (∀ t ∈ ts.take k, errM n t.2 = 0) ∧ Below w1.heap.size w1 wr) (fun i _ => ts.length - (intOf i).toNat)
    case atStart => exact ⟨0, Nat.zero_le _, rfl, rfl, by simp, Below.refl _ _⟩
    case round =>
      obtain ⟨k, hk, rfl, herr, hall, hbr⟩ := hrel
      have HBR := hid hbr
      have HALL := hid hall
      clear hall hbr
      by_cases hk2 : k < ts.length
      · obtain ⟨b, off, rfl, hlt, hat⟩ := HFC.out (by omega)
        obtain ⟨c0, ev, c1, hse⟩ := hat k hk2
        have HER := hid (herr.trans (errFrom_drop p n o ts k hk2 (prevE ts k)))
        have HTK : Hid (∀ t ∈ ts.take (k + 1), t ∈ ts.take k ∨ t = ts.getD k noT) := by
          intro u hu
          rw [List.take_succ_eq_append_getElem hk2, List.mem_append, List.mem_singleton] at hu
          rcases hu with hu | hu
          · exact Or.inl hu
          · right; rw [hu]; simp [List.getD_eq_getElem?_getD, hk2]
        have HDN := hid (HBW.out.trans (HBR.out.mono HBW.out.size))
        have HAT := hid hat
        clear herr hat
        generalize ts.getD k noT = t at c0 hse HER HTK
        obtain ⟨tc, te⟩ := t
        have HSE0 := hid hse
        have HSE := hid (hse.below HDN.out)
        obtain ⟨ea, ec, rfl, _⟩ := hse
        simp only at c0 c1
        have bx := HBX.out
        obtain ⟨_, bx0, bx1, bx2, bx3⟩ := bx
        have KEEP : Hid (∀ W, Below w1.heap.size w1 W → (Hid (Below w1.heap.size w1 W) ∧ W.cell? ⟨w.heap.size, 0, none⟩ = some (.int .i64 p) ∧ W.cell? ⟨w.heap.size, 1, none⟩ = some (.int .i64 n) ∧ W.cell? ⟨w.heap.size, 2, none⟩ = some (.int .i64 o) ∧ W.cell? ⟨w.heap.size, 3, none⟩ = some (.int .i64 v) ∧ W.cell? ⟨b, off + k * 2, none⟩ = some (.int .i64 tc) ∧ W.cell? ⟨b, off + k * 2 + 1, none⟩ = some (.slice ea te.length ec))) :=
          fun W hb => ⟨hb, cell_keep bx0 hb, cell_keep bx1 hb, cell_keep bx2 hb, cell_keep bx3 hb, cell_keep (cell_keep c0 HBW.out) hb, cell_keep (cell_keep c1 HBW.out) hb⟩
        have K0 := KEEP.out wr HBR.out
        obtain ⟨_, kp, _, _, _, kc0, kc1⟩ := K0
        clear bx0 bx1 bx2 bx3
        cases hb1 : betweenB tc 1 (p - 1)
        · go_wp2_with fail
          go_quiet ((go_at_call 69; exact Calls.quiet_of_same (between_any _ _ _ _)))
          have HQ1 := hid (below_drewN HBR.out nq)
          go_wp2
          go_ret
          exact ⟨ret_int (by rw [HER.out, if_pos hb1]), HBW.out.trans (HQ1.out.mono HBW.out.size)⟩
        · cases hb2 : (errM n te != 0)
          · have hb20 : errM n te = 0 := by simpa using hb2
            have HB20 := hid hb20
            rcases Nat.eq_zero_or_pos k with rfl | hpos
            · simp only [Nat.zero_mul, Nat.add_zero] at c0 c1 kc0 kc1 KEEP
              go_wp2_with fail
              go_quiet ((go_at_call 69; exact Calls.quiet_of_same (between_any _ _ _ _)))
              have HQ1 := hid (below_drewN HBR.out nq)
              go_wp2_with fail
              go_region_held (fun W => Hid (Below w1.heap.size w1 W) ∧ W.cell? ⟨w.heap.size, 0, none⟩ = some (.int .i64 p) ∧ W.cell? ⟨w.heap.size, 1, none⟩ = some (.int .i64 n) ∧ W.cell? ⟨w.heap.size, 2, none⟩ = some (.int .i64 o) ∧ W.cell? ⟨w.heap.size, 3, none⟩ = some (.int .i64 v) ∧ W.cell? ⟨b, off, none⟩ = some (.int .i64 tc) ∧ W.cell? ⟨b, off + 1, none⟩ = some (.slice ea te.length ec))
                (first | exact KEEP.out _ HQ1.out.drew | exact KEEP.out _ (HQ1.out.drew.trans (hb9.mono HQ1.out.drew.size)))
                (first | (go_at_call 106; refine (checkMono_any p n o v _ te _ HN.out ?_).mono ?_; exact HSE.out.below (below_drewN (Below.refl _ _) _).drew; rintro e w9 ⟨rfl, hb9⟩))
              have HB9 := hid (show Below w1.heap.size w1 w9 from HQ1.out.drew.trans (hb9.mono HQ1.out.drew.size))
              clear hb9
              try rw [HB20.out]
              go_wp2_with fail
              go_quiet (fail)
              go_wp2
              go_roundw
              case rel => exact ⟨1, by omega, by go_num, by rw [HER.out, if_neg (by rw [hb1]; simp), if_neg (by simpa using HB20.out)]; simp [prevE, okPrev], fun t ht => by
                rcases HTK.out t ht with h | h
                · simp at h
                · rw [h]; exact HB20.out, below_drewN HB9.out _⟩
              case measure => simp [intOf]; omega
            · have hk3 : k - 1 < ts.length := by omega
              obtain ⟨_, ev2, d1, hse2⟩ := HAT.out (k - 1) hk3
              have hse2' := hse2
              have HPE : Hid (prevE ts k = some (ts.getD (k - 1) noT).2) := by
                obtain ⟨m, rfl⟩ : ∃ m, k = m + 1 := ⟨k - 1, by omega⟩
                rfl
              have HQE := hid (HALL.out _ (by have h := getD_memTk ts (k - 1) hk3; rwa [show k - 1 + 1 = k from Nat.sub_add_cancel hpos] at h))
              generalize ts.getD (k - 1) noT = q at hse2 hse2' HPE HQE
              obtain ⟨qc, qe⟩ := q
              have HSE2 := hid (hse2.below HDN.out)
              obtain ⟨ea2, ec2, rfl, _⟩ := hse2
              simp only at d1 HPE HQE
              have hq := errM_ok HQE.out
              have ht := errM_ok hb20
              have HLL : Hid (qe.length = te.length) := by have h1 := hq.1; have h2 := ht.1; show _ = _; omega
              have hq0 : 0 < qe.length := by have h1 := hq.1; have h2 := HN.out; omega
              have hq3 : qe.length ≤ 3 := by have h1 := hq.1; have h2 := HN.out; omega
              have HQB := hid (And.intro (show ∀ x ∈ qe, 0 ≤ x ∧ x ≤ 40000 from fun x hx => by have := hq.2.1 x hx; omega) (show ∀ x ∈ te, 0 ≤ x ∧ x ≤ 40000 from fun x hx => by have := ht.2.1 x hx; omega))
              have HSQ := hid (And.intro (hse2'.below HBW.out) (HSE0.out.below HBW.out))
              have KEEP2 : Hid (∀ W, Below w1.heap.size w1 W → (Hid (Below w1.heap.size w1 W) ∧ W.cell? ⟨w.heap.size, 0, none⟩ = some (.int .i64 p) ∧ W.cell? ⟨w.heap.size, 1, none⟩ = some (.int .i64 n) ∧ W.cell? ⟨w.heap.size, 2, none⟩ = some (.int .i64 o) ∧ W.cell? ⟨w.heap.size, 3, none⟩ = some (.int .i64 v) ∧ W.cell? ⟨b, off + k * 2, none⟩ = some (.int .i64 tc) ∧ W.cell? ⟨b, off + k * 2 + 1, none⟩ = some (.slice ea te.length ec) ∧ W.cell? ⟨b, off + (k - 1) * 2 + 1, none⟩ = some (.slice ea2 qe.length ec2))) := fun W hb => by
                have h := KEEP.out W hb
                exact ⟨h.1, h.2.1, h.2.2.1, h.2.2.2.1, h.2.2.2.2.1, h.2.2.2.2.2.1, h.2.2.2.2.2.2, cell_keep (cell_keep d1 HBW.out) hb⟩
              obtain ⟨hq1, hq2, hq4, hq5, hq6, hq7, hq8⟩ := predFacts hpos hk2
              have hwr := wrapPred hpos (Nat.le_trans hk (Nat.not_lt.1 hlen))
              clear hq ht hb20
              cases hb3 : moreB o qe te
              · go_wp2_with fail
                go_quiet ((go_at_call 69; exact Calls.quiet_of_same (between_any _ _ _ _)))
                have HQ1 := hid (below_drewN HBR.out nq)
                go_wp2_with fail
                go_region_held (fun W => Hid (Below w1.heap.size w1 W) ∧ W.cell? ⟨w.heap.size, 0, none⟩ = some (.int .i64 p) ∧ W.cell? ⟨w.heap.size, 1, none⟩ = some (.int .i64 n) ∧ W.cell? ⟨w.heap.size, 2, none⟩ = some (.int .i64 o) ∧ W.cell? ⟨w.heap.size, 3, none⟩ = some (.int .i64 v) ∧ W.cell? ⟨b, off + k * 2, none⟩ = some (.int .i64 tc) ∧ W.cell? ⟨b, off + k * 2 + 1, none⟩ = some (.slice ea te.length ec))
                  (first | exact KEEP.out _ HQ1.out.drew | exact KEEP.out _ (HQ1.out.drew.trans (hb9.mono HQ1.out.drew.size)))
                  (first | (go_at_call 106; refine (checkMono_any p n o v _ te _ HN.out ?_).mono ?_; exact HSE.out.below (below_drewN (Below.refl _ _) _).drew; rintro e w9 ⟨rfl, hb9⟩))
                have HB9 := hid (show Below w1.heap.size w1 w9 from HQ1.out.drew.trans (hb9.mono HQ1.out.drew.size))
                clear hb9
                rw [HB20.out]
                go_wp2_with fail
                go_region_held (fun W => Hid (Below w1.heap.size w1 W) ∧ W.cell? ⟨w.heap.size, 0, none⟩ = some (.int .i64 p) ∧ W.cell? ⟨w.heap.size, 1, none⟩ = some (.int .i64 n) ∧ W.cell? ⟨w.heap.size, 2, none⟩ = some (.int .i64 o) ∧ W.cell? ⟨w.heap.size, 3, none⟩ = some (.int .i64 v) ∧ W.cell? ⟨b, off + k * 2, none⟩ = some (.int .i64 tc) ∧ W.cell? ⟨b, off + k * 2 + 1, none⟩ = some (.slice ea te.length ec) ∧ W.cell? ⟨b, off + (k - 1) * 2 + 1, none⟩ = some (.slice ea2 qe.length ec2))
                  (first | exact KEEP2.out _ HB9.out.drew | exact KEEP2.out _ (HB9.out.drew.trans (hb8.mono HB9.out.drew.size)))
                  (first | (go_at_call 107; refine (more_any p n o v _ _ qe te _ HO.out hq0 hq3 HLL.out HQB.out.1 HQB.out.2 ?_ ?_).mono ?_; exact HSQ.out.1.below HB9.out.drew; exact HSQ.out.2.below HB9.out.drew; rintro e w8 ⟨rfl, hb8⟩))
                have HB8 := hid (show Below w1.heap.size w1 w8 from HB9.out.drew.trans (hb8.mono HB9.out.drew.size))
                clear hb8
                try rw [hb3]
                go_wp2_with fail
                go_ret
                exact ⟨ret_int (by rw [HER.out, if_neg (by rw [hb1]; simp), if_neg (by simpa using HB20.out), if_pos (by rw [HPE.out]; exact hb3)]), HBW.out.trans (HB8.out.mono HBW.out.size)⟩
              · go_wp2_with fail
                go_quiet ((go_at_call 69; exact Calls.quiet_of_same (between_any _ _ _ _)))
                have HQ1 := hid (below_drewN HBR.out nq)
                go_wp2_with fail
                go_region_held (fun W => Hid (Below w1.heap.size w1 W) ∧ W.cell? ⟨w.heap.size, 0, none⟩ = some (.int .i64 p) ∧ W.cell? ⟨w.heap.size, 1, none⟩ = some (.int .i64 n) ∧ W.cell? ⟨w.heap.size, 2, none⟩ = some (.int .i64 o) ∧ W.cell? ⟨w.heap.size, 3, none⟩ = some (.int .i64 v) ∧ W.cell? ⟨b, off + k * 2, none⟩ = some (.int .i64 tc) ∧ W.cell? ⟨b, off + k * 2 + 1, none⟩ = some (.slice ea te.length ec))
                  (first | exact KEEP.out _ HQ1.out.drew | exact KEEP.out _ (HQ1.out.drew.trans (hb9.mono HQ1.out.drew.size)))
                  (first | (go_at_call 106; refine (checkMono_any p n o v _ te _ HN.out ?_).mono ?_; exact HSE.out.below (below_drewN (Below.refl _ _) _).drew; rintro e w9 ⟨rfl, hb9⟩))
                have HB9 := hid (show Below w1.heap.size w1 w9 from HQ1.out.drew.trans (hb9.mono HQ1.out.drew.size))
                clear hb9
                rw [HB20.out]
                go_wp2_with fail
                go_region_held (fun W => Hid (Below w1.heap.size w1 W) ∧ W.cell? ⟨w.heap.size, 0, none⟩ = some (.int .i64 p) ∧ W.cell? ⟨w.heap.size, 1, none⟩ = some (.int .i64 n) ∧ W.cell? ⟨w.heap.size, 2, none⟩ = some (.int .i64 o) ∧ W.cell? ⟨w.heap.size, 3, none⟩ = some (.int .i64 v) ∧ W.cell? ⟨b, off + k * 2, none⟩ = some (.int .i64 tc) ∧ W.cell? ⟨b, off + k * 2 + 1, none⟩ = some (.slice ea te.length ec) ∧ W.cell? ⟨b, off + (k - 1) * 2 + 1, none⟩ = some (.slice ea2 qe.length ec2))
                  (first | exact KEEP2.out _ HB9.out.drew | exact KEEP2.out _ (HB9.out.drew.trans (hb8.mono HB9.out.drew.size)))
                  (first | (go_at_call 107; refine (more_any p n o v _ _ qe te _ HO.out hq0 hq3 HLL.out HQB.out.1 HQB.out.2 ?_ ?_).mono ?_; exact HSQ.out.1.below HB9.out.drew; exact HSQ.out.2.below HB9.out.drew; rintro e w8 ⟨rfl, hb8⟩))
                have HB8 := hid (show Below w1.heap.size w1 w8 from HB9.out.drew.trans (hb8.mono HB9.out.drew.size))
                clear hb8
                try rw [hb3]
                go_wp2_with fail
                go_roundw
                case rel => exact ⟨k + 1, by omega, by go_num, by rw [HER.out, if_neg (by rw [hb1]; simp), if_neg (by simpa using HB20.out), if_neg (by rw [HPE.out]; simp [okPrev, hb3])], fun t ht => by
                  rcases HTK.out t ht with h | h
                  · exact HALL.out t h
                  · rw [h]; exact HB20.out, HB8.out⟩
                case measure => simp [intOf]; omega
          · go_wp2_with fail
            go_quiet ((go_at_call 69; exact Calls.quiet_of_same (between_any _ _ _ _)))
            have HQ1 := hid (below_drewN HBR.out nq)
            go_wp2_with fail
            go_region_held (fun W => Hid (Below w1.heap.size w1 W) ∧ W.cell? ⟨w.heap.size, 0, none⟩ = some (.int .i64 p) ∧ W.cell? ⟨w.heap.size, 1, none⟩ = some (.int .i64 n) ∧ W.cell? ⟨w.heap.size, 2, none⟩ = some (.int .i64 o) ∧ W.cell? ⟨w.heap.size, 3, none⟩ = some (.int .i64 v) ∧ W.cell? ⟨b, off + k * 2, none⟩ = some (.int .i64 tc) ∧ W.cell? ⟨b, off + k * 2 + 1, none⟩ = some (.slice ea te.length ec))
              (first | exact KEEP.out _ HQ1.out.drew | exact KEEP.out _ (HQ1.out.drew.trans (hb9.mono HQ1.out.drew.size)))
              (first | (go_at_call 106; refine (checkMono_any p n o v _ te _ HN.out ?_).mono ?_; exact HSE.out.below (below_drewN (Below.refl _ _) _).drew; rintro e w9 ⟨rfl, hb9⟩))
            have HB9 := hid (show Below w1.heap.size w1 w9 from HQ1.out.drew.trans (hb9.mono HQ1.out.drew.size))
            clear hb9
            go_wp2
            go_ret
            exact ⟨ret_int (by rw [HER.out, if_neg (by rw [hb1]; simp), if_pos (by simpa using hb2)]), HBW.out.trans (HB9.out.mono HBW.out.size)⟩
      · go_wp2
        go_ret
        exact ⟨ret_int (by rw [herr, List.drop_eq_nil_of_le (by omega)]; cases k <;> rfl), HBW.out.trans (HBR.out.mono HBW.out.size)⟩
def firstOne (p n o : Int) : List (List Tm) → Int
  | [] => 0
  | f :: r => if errOne p n o f = 0 then firstOne p n o r else errOne p n o f
theorem firstOne_drop (p n o : Int) (fss : List (List Tm)) (k : Nat) (h : k < fss.length) :
    firstOne p n o (fss.drop k) = if errOne p n o (fss.getD k []) = 0 then firstOne p n o (fss.drop (k + 1)) else errOne p n o (fss.getD k []) := by
  rw [List.drop_eq_getElem_cons h]
  simp [firstOne, List.getD_eq_getElem?_getD, h]
theorem firstOne_ok {p n o : Int} : ∀ {fss : List (List Tm)}, firstOne p n o fss = 0 → ∀ f ∈ fss, errOne p n o f = 0
  | [], _, f, hf => by simp at hf
  | g :: r, h, f, hf => by
    unfold firstOne at h
    by_cases hg : errOne p n o g = 0
    · rw [if_pos hg] at h
      rcases List.mem_cons.1 hf with rfl | hf
      · exact hg
      · exact firstOne_ok h f hf
    · rw [if_neg hg] at h; exact absurd h hg
theorem take_sameT {fs gs : List Tm} {k : Nat} (h : k < fs.length) (h2 : k < gs.length) (ht : fs.take k = gs.take k) (he : fs.getD k noT = gs.getD k noT) : fs.take (k + 1) = gs.take (k + 1) := by
  rw [List.take_succ_eq_append_getElem h, List.take_succ_eq_append_getElem h2, ht]
  simp [List.getD_eq_getElem?_getD, h, h2] at he
  rw [he]

set_option maxRecDepth 100000 in
set_option maxHeartbeats 1000000 in
theorem samePoly_any (x y : Value) (fs gs : List Tm) (w : World) (hm : fs.length ≤ 2400000000000) (hl : ∀ t ∈ fs, t.2.length ≤ 3) (pf : Pl w x fs) (pg : Pl w y gs) :
    Calls Tryz.prog 44 #[x, y] w fun e w' => e = .returned (.bool (decide (fs = gs))) ∧ Below w.heap.size w w' := by
  obtain ⟨fa, fc, rfl, _, hfc⟩ := pf
  obtain ⟨ga, gc, rfl, _, hgc⟩ := pg
  have HFC := hid hfc
  have HGC := hid hgc
  have HL := hid hl
  clear hfc hgc hl
  by_cases hne : fs.length = gs.length
  · have HNE := hid hne
    rw [← hne]
    clear hne
    go_enter Tryz.func44, Tryz.ntmps44
    go_wp2
    go_loopw [5] (fun i wr => ∃ k : Nat, k ≤ fs.length ∧ i = .int .i64 k ∧ fs.take k = gs.take k ∧ Below w.heap.size w wr) (fun i _ => fs.length - (intOf i).toNat)
    case atStart => exact ⟨0, Nat.zero_le _, rfl, rfl, Below.refl _ _⟩
    case round =>
      obtain ⟨k, hk, rfl, htk, hbr⟩ := hrel
      have HTK := hid htk
      have HBR := hid hbr
      clear htk hbr
      by_cases hk2 : k < fs.length
      · have hk3 : k < gs.length := by rw [← HNE.out]; exact hk2
        obtain ⟨b, off, rfl, hlt, hat⟩ := HFC.out (by omega)
        obtain ⟨b2, off2, rfl, hlt2, hat2⟩ := HGC.out (by omega)
        obtain ⟨c0, ev, c1, hse⟩ := hat k hk2
        obtain ⟨d0, ev2, d1, hse2⟩ := hat2 k hk3
        have HTS := hid (fun h => take_sameT hk2 hk3 HTK.out h)
        have HNS : Hid (fs.getD k noT ≠ gs.getD k noT → fs ≠ gs) := fun h e => h (by rw [e])
        have HL3 := hid (HL.out _ (getD_memT fs k hk2))
        generalize fs.getD k noT = t at c0 hse HTS HNS HL3
        generalize gs.getD k noT = u at d0 hse2 HTS HNS
        obtain ⟨tc, te⟩ := t
        obtain ⟨uc, ue⟩ := u
        have HSE := hid (hse.below HBR.out)
        have HSE2 := hid (hse2.below HBR.out)
        obtain ⟨ea, ec, rfl, _⟩ := hse
        obtain ⟨ea2, ec2, rfl, _⟩ := hse2
        simp only at c0 c1 d0 d1
        have k0 := cell_keep c0 HBR.out
        have k1 := cell_keep c1 HBR.out
        have m0 := cell_keep d0 HBR.out
        have m1 := cell_keep d1 HBR.out
        have hkI : (k : Int) < (gs.length : Int) := by omega
        clear hat hat2 c0 c1 d0 d1
        cases hc : (tc != uc)
        · have KEEP : Hid (∀ W, Below wr.heap.size wr W → (Hid (Below wr.heap.size wr W) ∧ W.cell? ⟨b, off + k * 2, none⟩ = some (.int .i64 tc) ∧ W.cell? ⟨b, off + k * 2 + 1, none⟩ = some (.slice ea te.length ec) ∧ W.cell? ⟨b2, off2 + k * 2, none⟩ = some (.int .i64 uc) ∧ W.cell? ⟨b2, off2 + k * 2 + 1, none⟩ = some (.slice ea2 ue.length ec2))) :=
            fun W hb => ⟨hb, cell_keep k0 hb, cell_keep k1 hb, cell_keep m0 hb, cell_keep m1 hb⟩
          have HE1 : Hid (tc = uc) := hid (by simpa using hc)
          go_wp2_with fail
          go_region_held (fun W => Hid (Below wr.heap.size wr W) ∧ W.cell? ⟨b, off + k * 2, none⟩ = some (.int .i64 tc) ∧ W.cell? ⟨b, off + k * 2 + 1, none⟩ = some (.slice ea te.length ec) ∧ W.cell? ⟨b2, off2 + k * 2, none⟩ = some (.int .i64 uc) ∧ W.cell? ⟨b2, off2 + k * 2 + 1, none⟩ = some (.slice ea2 ue.length ec2))
            (first | exact KEEP.out _ (Below.refl _ _).drew | exact KEEP.out _ (below_step (by assumption) hb9 (Nat.le_refl _)))
            (first | (go_at_call 76; refine (sameInts_any _ _ te ue _ HL3.out ?_ ?_).mono ?_; exact HSE.out.below (Below.refl _ _).drew; exact HSE2.out.below (Below.refl _ _).drew; rintro e w9 ⟨rfl, hd9⟩; have hb9 := below_ndraws (Below.refl wr.drew.heap.size wr.drew) hd9))
          have hb19 : Below wr.heap.size wr w9 := Hid.out (And.left (by assumption))
          have HB9 := hid (HBR.out.trans (hb19.mono HBR.out.size))
          clear hb9 hd9 hb19 KEEP
          cases hsm : sameB te ue
          · go_wp2_with fail
            go_ret
            refine ⟨ret_bool ?_, HB9.out⟩
            have h1 : te ≠ ue := by simpa [sameB] using hsm
            exact (decide_eq_false (HNS.out (fun e => h1 (by injection e)))).symm
          · have HEQ : Hid ((tc, te) = (uc, ue)) := by
              have h1 : te = ue := by simpa [sameB] using hsm
              show _ = _
              rw [HE1.out, h1]
            go_wp2_with fail
            go_roundw
            case rel => exact ⟨k + 1, by omega, by go_num, HTS.out HEQ.out, HB9.out⟩
            case measure => simp [intOf]; omega
        · have e1 : tc ≠ uc := by simpa using hc
          go_wp2_with fail
          go_quiet (fail)
          go_wp2_with fail
          go_ret
          exact ⟨ret_bool (decide_eq_false (HNS.out (fun e => e1 (by injection e)))).symm, below_drewN HBR.out _⟩
      · go_wp2
        go_ret
        refine ⟨ret_bool (decide_eq_true ?_).symm, HBR.out⟩
        have h := HTK.out
        rw [List.take_of_length_le (by omega), List.take_of_length_le (by rw [← HNE.out]; omega)] at h
        exact h
  · have hne2 : ((fs.length : Int) != (gs.length : Int)) = true := by simpa using (fun e : (fs.length : Int) = gs.length => hne (by omega))
    have HD : Hid (decide (fs = gs) = false) := decide_eq_false (fun e => hne (by rw [e]))
    rw [HD.out]
    clear hne
    go_enter Tryz.func44, Tryz.ntmps44
    go_wp2
    go_ret
    exact ⟨rfl, Below.refl _ _⟩

theorem degreeOf_slO (x : Value) (xs : List Int) (w : World) (h0 : 0 < xs.length) (hm : xs.length ≤ 3) (hb : ∀ x ∈ xs, 0 ≤ x ∧ x ≤ 40000) (hs : Sl w x xs) :
    Calls Tryz.prog 108 #[x] w fun e w' => e = .returned (.int .i64 (sumI xs)) ∧ w' = w := by
  obtain ⟨a, cap, rfl, h1⟩ := hs
  obtain ⟨b, off, rfl, hlt, hc⟩ := h1 h0
  exact degreeOf_any xs b off cap w hb hm hc
def topF (m : Int) : List Tm → Int
  | [] => m
  | t :: ts => topF (if m < sumI t.2 then sumI t.2 else m) ts
theorem topF_take (ts : List Tm) : ∀ (m : Int) (k : Nat), k < ts.length → topF m (ts.take (k + 1)) = if topF m (ts.take k) < sumI (ts.getD k noT).2 then sumI (ts.getD k noT).2 else topF m (ts.take k) := by
  induction ts with
  | nil => intro m k h; simp at h
  | cons t ts ih =>
    intro m k h
    cases k with
    | zero => simp [topF]
    | succ k =>
      simp only [List.take_succ_cons, topF]
      rw [ih _ k (by simpa using h)]
      simp
theorem topF_bd : ∀ (ts : List Tm) (m : Int), (∀ t ∈ ts, sumI t.2 ≤ 120000) → m ≤ 120000 → m ≤ topF m ts ∧ topF m ts ≤ 120000
  | [], m, _, hm => ⟨Int.le_refl _, hm⟩
  | t :: ts, m, h, hm => by
    simp only [topF]
    have h1 := h t (by simp)
    have h2 := topF_bd ts (if m < sumI t.2 then sumI t.2 else m) (fun u hu => h u (by simp [hu])) (by split <;> omega)
    refine ⟨Int.le_trans ?_ h2.1, h2.2⟩
    split <;> omega

set_option maxRecDepth 100000 in
set_option maxHeartbeats 1000000 in
theorem topOf_any (x : Value) (fs : List Tm) (w : World) (hm : fs.length ≤ 2400000000000) (hl : ∀ t ∈ fs, 0 < t.2.length ∧ t.2.length ≤ 3 ∧ ∀ x ∈ t.2, 0 ≤ x ∧ x ≤ 40000) (pf : Pl w x fs) :
    Calls Tryz.prog 75 #[x] w fun e w' => e = .returned (.int .i64 (topF (-1) fs)) ∧ w' = w := by
  obtain ⟨fa, fc, rfl, _, hfc⟩ := pf
  have HFC := hid hfc
  have HL := hid hl
  have HS : Hid (∀ t ∈ fs, 0 ≤ sumI t.2 ∧ sumI t.2 ≤ 120000) := fun t ht => by
    have h1 := hl t ht
    have h2 := sumI_bd t.2 h1.2.2
    omega
  clear hfc hl
  go_enter Tryz.func75, Tryz.ntmps75
  go_wp2
  go_loop [3, 4] (fun m i => ∃ k : Nat, k ≤ fs.length ∧ i = .int .i64 k ∧ m = .int .i64 (topF (-1) (fs.take k))) (fun _ i => fs.length - (intOf i).toNat)
  case atStart => exact ⟨0, Nat.zero_le _, rfl, rfl⟩
  case round =>
    obtain ⟨k, hk, rfl, rfl⟩ := hrel
    by_cases hk2 : k < fs.length
    · obtain ⟨b, off, rfl, hlt, hat⟩ := HFC.out (by omega)
      obtain ⟨c0, ev, c1, hse⟩ := hat k hk2
      have HT := hid (topF_take fs (-1) k hk2)
      have HLK := hid (HL.out _ (getD_memT fs k hk2))
      have htop := topF_bd (fs.take k) (-1) (fun t ht => (HS.out t (List.mem_of_mem_take ht)).2) (by omega)
      generalize topF (-1) (fs.take k) = m at HT htop
      generalize fs.getD k noT = t at c0 hse HT HLK
      obtain ⟨tc, te⟩ := t
      have HSE := hid hse
      obtain ⟨ea, ec, rfl, _⟩ := hse
      simp only at c1
      have hsb := sumI_bd te HLK.out.2.2
      have hl3 : te.length ≤ 3 := HLK.out.2.1
      have HDG := hid (fun W (h : Sl W (.slice ea te.length ec) te) => degreeOf_slO _ te W HLK.out.1 HLK.out.2.1 HLK.out.2.2 h)
      clear hat c0
      by_cases hgt : m < sumI te
      · go_wp2_with (go_at_call 108; refine (HDG.out _ HSE.out).mono ?_; rintro e w' ⟨rfl, rfl⟩)
        go_round
        case rel => exact ⟨k + 1, by omega, by go_num, by rw [HT.out, if_pos hgt]⟩
        case measure => simp [intOf]; omega
      · go_wp2_with (go_at_call 108; refine (HDG.out _ HSE.out).mono ?_; rintro e w' ⟨rfl, rfl⟩)
        go_round
        case rel => exact ⟨k + 1, by omega, by go_num, by rw [HT.out, if_neg (Int.not_lt.2 hgt)]⟩
        case measure => simp [intOf]; omega
    · go_wp2
      go_ret
      exact ⟨ret_int (by rw [List.take_of_length_le (by omega)]), rfl⟩

def greatB (fs : List Tm) : Bool := decide (200 < topF (-1) fs) || decide (2000 < fs.length)
set_option maxRecDepth 100000 in
set_option maxHeartbeats 1000000 in
theorem great_any (x : Value) (fs : List Tm) (w : World) (hm : fs.length ≤ 2400000000000) (hl : ∀ t ∈ fs, 0 < t.2.length ∧ t.2.length ≤ 3 ∧ ∀ x ∈ t.2, 0 ≤ x ∧ x ≤ 40000) (pf : Pl w x fs) :
    Calls Tryz.prog 40 #[x] w fun e w' => e = .returned (.bool (greatB fs)) ∧ w' = w := by
  have HP := hid pf
  have HL := hid hl
  obtain ⟨fa, fc, rfl, _, _⟩ := pf
  clear hl
  unfold greatB
  by_cases hg : 200 < topF (-1) fs
  · go_enter Tryz.func40, Tryz.ntmps40
    go_wp2_with (go_at_call 75; refine (topOf_any _ fs _ hm HL.out HP.out).mono ?_; rintro e w' ⟨rfl, rfl⟩)
    go_ret
    exact ⟨ret_bool (by simp [hg]), rfl⟩
  · go_enter Tryz.func40, Tryz.ntmps40
    go_wp2_with (go_at_call 75; refine (topOf_any _ fs _ hm HL.out HP.out).mono ?_; rintro e w' ⟨rfl, rfl⟩)
    go_ret
    exact ⟨ret_bool (by rw [decide_eq_false (Int.not_lt.2 hg)]; simp; omega), rfl⟩
def SlK (w : World) (g : Nat) : Prop := ∀ j u, w.cell? ⟨g, j, none⟩ = some u → ∃ a n c, u = .slice a n c
theorem SlK.below {w w' : World} {g : Nat} (h : SlK w g) (hlt : g < w.heap.size) (hb : Below w.heap.size w w') : SlK w' g := by
  intro j u hu
  rw [hb.cell (p := ⟨g, j, none⟩) hlt] at hu
  exact h j u hu
theorem cell_far {w w' : World} {g b o : Nat} (hg : w.grownBy w' (some g)) (hlt : b < w.heap.size) (hne : b ≠ g) : w'.cell? ⟨b, o, none⟩ = w.cell? ⟨b, o, none⟩ :=
  World.cell?_of_block (hg.block b hlt (by simpa using hne))
theorem sl_keep {w w' : World} {g : Nat} (hk : SlK w g) (hg : w.grownBy w' (some g)) {v : Value} {xs : List Int} (h : Sl w v xs) : Sl w' v xs := by
  obtain ⟨a, cap, rfl, h⟩ := h
  refine ⟨a, cap, rfl, fun hp => ?_⟩
  obtain ⟨b, off, rfl, hlt, hc⟩ := h hp
  have hne : b ≠ g := by
    intro e
    subst e
    obtain ⟨_, _, _, hx⟩ := hk _ _ (hc 0 hp)
    cases hx
  exact ⟨b, off, rfl, Nat.lt_of_lt_of_le hlt hg.size, fun i hi => by rw [cell_far hg hlt hne]; exact hc i hi⟩
theorem pl_keep {w w' : World} {g : Nat} (hk : SlK w g) (hg : w.grownBy w' (some g)) {v : Value} {ts : List Tm} (h : Pl w v ts) : Pl w' v ts := by
  obtain ⟨a, cap, rfl, hcap, h⟩ := h
  refine ⟨a, cap, rfl, hcap, fun hp => ?_⟩
  obtain ⟨b, off, rfl, hlt, hc⟩ := h hp
  have hne : b ≠ g := by
    intro e
    subst e
    obtain ⟨_, _, _, hx⟩ := hk _ _ (hc 0 hp).1
    cases hx
  refine ⟨b, off, rfl, Nat.lt_of_lt_of_le hlt hg.size, fun i hi => ?_⟩
  obtain ⟨h1, u, h2, h3⟩ := hc i hi
  exact ⟨by rw [cell_far hg hlt hne]; exact h1, u, by rw [cell_far hg hlt hne]; exact h2, sl_keep hk hg h3⟩

theorem slk_alloc {w : World} {C : Array Value} {T : TypeId} (h : ∀ u ∈ C.toList, ∃ a n c, u = .slice a n c) : SlK (w.alloc (.cells C T)) w.heap.size := by
  intro j u hu
  have e : (w.alloc (.cells C T)).cell? ⟨w.heap.size, j, none⟩ = C[j]? := by
    unfold World.cell?
    rw [show (w.alloc (.cells C T)).heap[w.heap.size]? = some (.cells C T (0, 0)) from heap_alloc_new w _]
    simp
  rw [e] at hu
  exact h u (by rw [Array.mem_toList_iff]; exact Array.mem_of_getElem? hu)
theorem slk_row {w : World} {g : Nat} {C : Array Value} {T : TypeId} (hg : w.heap[g]? = some (.cells C T (0, 0))) (h : ∀ u ∈ C.toList, ∃ a n c, u = .slice a n c) : SlK w g := by
  intro j u hu
  have e : w.cell? ⟨g, j, none⟩ = C[j]? := by
    unfold World.cell?
    rw [hg]
    simp
  rw [e] at hu
  exact h u (by rw [Array.mem_toList_iff]; exact Array.mem_of_getElem? hu)
theorem row_slk {w : World} {g : Nat} {C : Array Value} {T : TypeId} (hg : w.heap[g]? = some (.cells C T (0, 0))) (h : SlK w g) : ∀ u ∈ C.toList, ∃ a n c, u = .slice a n c := by
  intro u hu
  obtain ⟨j, hj, rfl⟩ := List.getElem_of_mem hu
  refine h j _ ?_
  unfold World.cell?
  rw [hg]
  simp at hj ⊢

theorem run_append_slk {P : Program} (w : World) (base : Nat) (t ty e : TypeId) (i : TypeInfo) (ht : P.underlying t = some (.slice e)) (hi : P.info? e = some i) (hz : i.zero = some (.slice none 0 0)) (hsize : i.size = 1) (hby : i.bytes = 24)
    (v : Value) (n : Nat) (xs : List Value) (hown : w.ownsRow base e 1 v n xs) (hk : ∀ g, v.ownBlock = some g → SlK w g)
    (a : Addr) (c : Nat) (u : Value) (hu : ∃ a n c, u = .slice a n c) (hnew : ∀ j x, [u][j]? = some x → w.cell? (a.add j) = some x) (hn : n ≤ 1200000000000) (hbase : base ≤ w.heap.size) :
    ∃ v' w', (Builtin.append_ #[t, t] ty #[v, .slice (some a) 1 c]).run P w = .ok v' w' ∧ w'.ownsRow base e 1 v' (n + 1) (xs ++ [u]) ∧ w.grownBy w' v.ownBlock ∧ (∀ g, v'.ownBlock = some g → SlK w' g) := by
  have hone : ∀ x ∈ [u], x.oneCell' = true := by
    intro x hx
    rw [List.mem_singleton] at hx
    obtain ⟨_, _, _, e⟩ := hu
    rw [hx, e]; rfl
  obtain ⟨v', w', hr, h2, h3, _⟩ := run_append_own (P := P) w base t ty e i (.slice none 0 0) 1 24 ht hi hz hsize hby rfl (by decide) v n xs hown a 1 c [u] (by simp) hnew hone (by unfold maxLen; omega) (by omega) hbase
  refine ⟨v', w', hr, h2, h3, ?_⟩
  have hzero : ∀ (m : Nat), ∀ x ∈ (Builtin.zeroCells (Value.cells (.slice none 0 0)) m).toList, ∃ a n c, x = .slice a n c := by
    intro m x hx
    simp [Builtin.zeroCells, Value.cells] at hx
    obtain ⟨l, _, hx⟩ := hx
    rw [Nat.mod_one] at hx
    exact ⟨none, 0, 0, by rw [← hx]; rfl⟩
  rcases hown.2 with ⟨rfl, rfl⟩ | ⟨g, cap, cur, rfl, hbg, hg, hnc, hcm, hcs, htake⟩
  · have hr2 := run_append_nil (P := P) w t ty e i (.slice none 0 0) ht hi hz a 1 c [u] (by rw [hsize]; rfl) hnew (by omega) (by omega) (by rw [hby]; omega)
    rw [hr] at hr2
    simp only [Result.ok.injEq] at hr2
    obtain ⟨rfl, rfl⟩ := hr2
    intro g hg
    simp only [Value.ownBlock, Option.some.injEq] at hg
    subst hg
    refine slk_alloc (w := w.drew) (fun x hx => ?_)
    rw [Array.toList_append, List.mem_append] at hx
    rcases hx with hx | hx
    · simp at hx; rw [hx]; exact hu
    · exact hzero _ x hx
  · have hcur := row_slk hg (hk g rfl)
    by_cases hroom : n + 1 ≤ cap
    · have hr2 := run_append_room (P := P) w t ty e i ht hi g n cap cur hg a 1 c [u] (by rw [hsize]; rfl) hnew hone hroom (by rw [hsize, hcs]; simp; omega)
      rw [hr] at hr2
      simp only [Result.ok.injEq] at hr2
      obtain ⟨rfl, rfl⟩ := hr2
      intro g2 hg2
      simp only [Value.ownBlock, Option.some.injEq] at hg2
      subst hg2
      refine slk_row (setRow_heap w g cur _ e _ hg) (fun x hx => ?_)
      rw [List.toList_toArray, List.mem_append, List.mem_append] at hx
      rcases hx with (hx | hx) | hx
      · exact hcur x (List.mem_of_mem_take hx)
      · rw [List.mem_singleton] at hx; rw [hx]; exact hu
      · exact hcur x (List.mem_of_mem_drop hx)
    · have holds : ∀ j x, xs[j]? = some x → w.cell? ((⟨g, 0, none⟩ : Addr).add j) = some x := hown.cells (g := g) rfl
      have hr2 := run_append_grow (P := P) w t ty e i (.slice none 0 0) ht hi hz ⟨g, 0, none⟩ n cap xs (by rw [hsize]; exact hown.1) holds a 1 c [u] (by rw [hsize]; rfl) hnew (by omega) (by omega) (growslice_fits (by omega) (by rw [hby]; omega))
      rw [hr] at hr2
      simp only [Result.ok.injEq] at hr2
      obtain ⟨rfl, rfl⟩ := hr2
      intro g2 hg2
      simp only [Value.ownBlock, Option.some.injEq] at hg2
      subst hg2
      refine slk_alloc (w := w.drew) (fun x hx => ?_)
      rw [Array.toList_append, Array.toList_append, List.mem_append, List.mem_append] at hx
      rcases hx with (hx | hx) | hx
      · rw [List.toList_toArray, ← htake] at hx
        exact hcur x (List.mem_of_mem_take hx)
      · simp at hx; rw [hx]; exact hu
      · exact hzero _ x hx

theorem Tryz.infoPolyW : (Tryz.prog.info? 54).map (fun i => (i.zero, i.size, i.bytes)) = some (some (.slice none 0 0), 1, 24) := by kernel_rfl
def nilV : Value := .slice none 0 0
structure PRow (B : Nat) (w : World) (v : Value) (us : List Value) (fss : List (List Tm)) : Prop where
  len : us.length = fss.length
  own : w.ownsRow B 54 1 v fss.length us
  kind : ∀ g, v.ownBlock = some g → SlK w g
  pls : ∀ i, i < fss.length → Pl w (us.getD i nilV) (fss.getD i [])
theorem PRow.next {B : Nat} {w w' : World} {v : Value} {us : List Value} {fss : List (List Tm)} (h : PRow B w v us fss) (hb : Below w.heap.size w w') : PRow B w' v us fss :=
  ⟨h.len, ownBlock_lt h.own hb, fun g hg => (h.kind g hg).below (World.ownsRow.lt h.own g hg).2 hb, fun i hi => (h.pls i hi).below hb⟩
theorem PRow.nil (B : Nat) (w : World) : PRow B w (.slice none 0 0) [] [] :=
  ⟨rfl, World.ownsRow_nil _ _ _ _, fun g hg => by simp [Value.ownBlock] at hg, fun i hi => by simp at hi⟩
theorem PRow.vl {B : Nat} {w : World} {v : Value} {us : List Value} {fss : List (List Tm)} (h : PRow B w v us fss) : Vl w v fss := by
  obtain ⟨a, c, rfl⟩ := own_sl h.own
  refine ⟨a, c, rfl, fun hp => ?_⟩
  obtain ⟨g, rfl, _, hlt, _⟩ := own_at1 h.own 0 hp
  refine ⟨g, 0, rfl, hlt, fun i hi => ?_⟩
  obtain ⟨g2, hg2, _, _, hc⟩ := own_at1 h.own i hi
  simp only [Option.some.injEq, Addr.mk.injEq, and_true] at hg2
  subst hg2
  refine ⟨us.getD i nilV, ?_, h.pls i hi⟩
  rw [Nat.zero_add, hc]
  have : i < us.length := by rw [h.len]; exact hi
  simp [List.getD_eq_getElem?_getD, this]
theorem PRow.snoc {B : Nat} {W W2 : World} {v v2 : Value} {us : List Value} {fss : List (List Tm)} {u : Value} {f : List Tm} (h : PRow B W v us fss) (hu : Pl W u f)
    (h2 : W2.ownsRow B 54 1 v2 (fss.length + 1) (us ++ [u])) (g2 : W.grownBy W2 v.ownBlock) (k2 : ∀ g, v2.ownBlock = some g → SlK W2 g) : PRow B W2 v2 (us ++ [u]) (fss ++ [f]) := by
  have keep : ∀ {x : Value} {ts : List Tm}, Pl W x ts → Pl W2 x ts := by
    intro x ts hx
    cases ho : v.ownBlock with
    | none =>
      rw [ho] at g2
      exact hx.below ⟨g2.os, g2.tape, g2.output, g2.size, fun k hk => g2.block k hk (by simp)⟩
    | some g =>
      rw [ho] at g2
      exact pl_keep (h.kind g ho) g2 hx
  refine ⟨by simp [h.len], by rw [List.length_append]; exact h2, k2, fun i hi => ?_⟩
  rw [List.length_append] at hi
  simp only [List.length_cons, List.length_nil] at hi
  rcases Nat.lt_or_ge i fss.length with hl | hl
  · have e1 : (us ++ [u]).getD i nilV = us.getD i nilV := by simp [List.getD_eq_getElem?_getD, List.getElem?_append_left (show i < us.length by rw [h.len]; exact hl)]
    have e2 : (fss ++ [f]).getD i [] = fss.getD i [] := by simp [List.getD_eq_getElem?_getD, List.getElem?_append_left hl]
    rw [e1, e2]
    exact keep (h.pls i hl)
  · have e : i = fss.length := by omega
    subst e
    have e1 : (us ++ [u]).getD fss.length nilV = u := by rw [← h.len]; simp [List.getD_eq_getElem?_getD]
    have e2 : (fss ++ [f]).getD fss.length [] = f := by simp [List.getD_eq_getElem?_getD]
    rw [e1, e2]
    exact keep hu
theorem PRow.grown {B : Nat} {w W w' : World} {v : Value} {us : List Value} {fss : List (List Tm)} (h : PRow B W v us fss) (hb : Below B w W) (hg : W.grownBy w' v.ownBlock) (hB : B ≤ w.heap.size) : Below B w w' := own_grown h.own hb hg hB

theorem step_append_prow {ops : Array Oper} {o : Oper} {a : Act} {w : World} {K : Act → World → Prop} {Q : Exit → Act → World → Prop} {E : Prop} (hgd : o.guard = none) (s x : Operand) (t : TypeId)
    (ho : o.op = .call { callee := .builtin .append, args := #[s, x], argTypes := #[t, t] }) (ht : Tryz.prog.underlying t = some (.slice 54))
    (B : Nat) (v : Value) (us : List Value) (fss : List (List Tm)) (hs : a.eval s = v) (h : PRow B w v us fss) (ad : Addr) (c : Nat) (u : Value) (f : List Tm) (hu : Pl w u f) (hx : a.eval x = .slice (some ad) 1 c)
    (hnew : ∀ j y, [u][j]? = some y → w.cell? (ad.add j) = some y) (hn : fss.length ≤ 1200000000000) (hB : B ≤ w.heap.size)
    (hK : ∀ v' w', PRow B w' v' (us ++ [u]) (fss ++ [f]) → w.grownBy w' v.ownBlock → K (a.put o.dst v') w') :
    if Region.wanted o (yielded ops a.tmps) = true then Oper.wp Tryz.prog o a w K Q else E := by
  have hw : Region.wanted o (yielded ops a.tmps) = true := by simp [Region.wanted, hgd]
  rw [if_pos hw]
  obtain ⟨i0, hi, hz0, hz1, hz2⟩ := info_parts Tryz.infoPolyW
  obtain ⟨v', w', hr, h2, h3, h4⟩ := run_append_slk (P := Tryz.prog) w B t o.type 54 i0 ht hi hz0 hz1 hz2 v fss.length us h.own h.kind ad c u (by obtain ⟨a, c, e, _⟩ := hu; exact ⟨_, _, _, e⟩) hnew hn hB
  unfold Oper.wp execOp
  simp only [ho, resolve, invoke, builtin, Sem.run_bind, Sem.run_pure, Result.andThen_ok, List.map_toArray, List.map_cons, List.map_nil, hs, hx, hr]
  exact hK v' w' (h.snoc hu h2 h3 h4) h3
end Go.Proofs.YtilogbggilchaaaGreat
