/- Leads: plain mathematics; vector.leadPlace. -/
import Derived.Test.YtilogbggilchaaaWH
import Derived.BigQuiet
import Derived.Test.YtilogbggilchaaaTM
namespace Go.Proofs.Ytilogbggilchaaa
set_option linter.unusedSimpArgs false
set_option linter.unusedVariables false
open Go.RowKit
abbrev Ld := Option (Nat × Tm)
def leadStep (o ov : Int) (st : Ld) (i : Nat) : List Tm → Ld
  | [] => st
  | t :: _ => match st with
    | none => some (i, t)
    | some (j, u) => if ov = 1 ∧ 0 < ordS o t.2 u.2 then some (i, t) else some (j, u)
def leadF (o ov : Int) (fss : List (List Tm)) : Nat → Ld
  | 0 => none
  | k + 1 => leadStep o ov (leadF o ov fss k) k (fss.getD k [])
theorem leadF_at {o ov : Int} {fss : List (List Tm)} : ∀ {k : Nat} {j : Nat} {u : Tm}, leadF o ov fss k = some (j, u) → j < k ∧ ∃ us, fss.getD j [] = u :: us
  | 0, j, u, h => by simp [leadF] at h
  | k + 1, j, u, h => by
    simp only [leadF] at h
    cases hf : fss.getD k [] with
    | nil =>
      rw [hf] at h
      simp only [leadStep] at h
      obtain ⟨h1, h2⟩ := leadF_at h
      exact ⟨by omega, h2⟩
    | cons t ts =>
      rw [hf] at h
      cases hs : leadF o ov fss k with
      | none =>
        rw [hs] at h
        simp only [leadStep, Option.some.injEq, Prod.mk.injEq] at h
        obtain ⟨rfl, rfl⟩ := h
        exact ⟨by omega, ts, hf⟩
      | some q =>
        obtain ⟨j', u'⟩ := q
        rw [hs] at h
        simp only [leadStep] at h
        split at h
        · simp only [Option.some.injEq, Prod.mk.injEq] at h
          obtain ⟨rfl, rfl⟩ := h
          exact ⟨by omega, ts, hf⟩
        · simp only [Option.some.injEq, Prod.mk.injEq] at h
          obtain ⟨rfl, rfl⟩ := h
          obtain ⟨h1, h2⟩ := leadF_at hs
          exact ⟨by omega, h2⟩
def plc : Ld → Int
  | none => -1
  | some (j, _) => j
theorem plc_some (j : Nat) (u : Tm) : plc (some (j, u)) = (j : Int) := rfl
theorem pl_first {w : World} {fa : Option Addr} {fc : Nat} {t : Tm} {ts : List Tm} (h : Pl w (.slice fa (t :: ts).length fc) (t :: ts)) : ∃ b off ea ec, fa = some ⟨b, off, none⟩ ∧ b < w.heap.size ∧ w.cell? ⟨b, off, none⟩ = some (.int .i64 t.1) ∧ w.cell? ⟨b, off + 1, none⟩ = some (.slice ea t.2.length ec) ∧ Sl w (.slice ea t.2.length ec) t.2 := by
  obtain ⟨a, c, e, _, h1⟩ := h
  obtain ⟨b, off, rfl, hlt, hat⟩ := h1 (by simp)
  simp only [Value.slice.injEq, true_and] at e
  obtain ⟨rfl, rfl⟩ := e
  obtain ⟨h2, u, h3, h4⟩ := hat 0 (by simp)
  simp at h2 h3 h4
  have h5 := h4
  obtain ⟨ea, ec, rfl, _⟩ := h4
  exact ⟨b, off, ea, ec, rfl, hlt, h2, h3, h5⟩

set_option maxRecDepth 100000 in
set_option maxHeartbeats 4000000 in
theorem leadPlace_any (p n o v : Int) (N : Nat) (x : Value) (fss : List (List Tm)) (w : World) (ho : o = 1 ∨ o = 2) (hN0 : 0 < N) (hN : N ≤ 3) (hm : fss.length ≤ 1000) (hf : ∀ f ∈ fss, Right p o N f) (pf : Vl w x fss) :
    Calls Try.prog 30 #[ringV p n o v, x] w fun e w' => e = .returned (.int .i64 (plc (leadF o v fss fss.length))) ∧ Below w.heap.size w w' := by
  have HX := hid pf
  have HF := hid hf
  have HO := hid ho
  obtain ⟨ax, cx, rfl, _⟩ := pf
  obtain ⟨w1, hw1⟩ : ∃ w1, w1 = w.alloc (.cells #[.int .i64 p, .int .i64 n, .int .i64 o, .int .i64 v] 23) := ⟨_, rfl⟩
  have hbx : BoxAt w1 w.heap.size p n o v := by rw [hw1]; exact BoxAt.new w p n o v _
  have hbw : Below w.heap.size w w1 := by rw [hw1]; exact below_oneG
  have HBX := hid hbx
  have HBW := hid hbw
  have HX1 := hid (HX.out.below hbw)
  clear hf ho hbx hbw
  go_enter Try.func30, Try.ntmps30
  go_wp2_with fail
  rw [← hw1]
  clear hw1
  go_loopw [5, 10] (fun s i wr => ∃ k : Nat, k ≤ fss.length ∧ i = .int .i64 k ∧ s = .int .i64 (plc (leadF o v fss k)) ∧ Below w1.heap.size w1 wr) (fun _ i _ => fss.length - (intOf i).toNat)
  case atStart => exact ⟨0, Nat.zero_le _, rfl, rfl, Below.refl _ _⟩
  case round =>
    obtain ⟨k, hk, rfl, rfl, hbr⟩ := hrel
    have HBR := hid hbr
    clear hbr
    by_cases hk2 : k < fss.length
    · obtain ⟨b, off, fa, fc, rfl, hlt, c0, hpf⟩ := vl_at HX1.out k hk2
      have HST : Hid (leadF o v fss (k + 1) = leadStep o v (leadF o v fss k) k (fss.getD k [])) := rfl
      have HRT := hid (HF.out _ (getD_memL fss k hk2))
      have HLA := hid (fun j u => leadF_at (o := o) (ov := v) (fss := fss) (k := k) (j := j) (u := u))
      generalize leadF o v fss k = st at HST HLA
      generalize fss.getD k [] = f at c0 hpf HST HRT
      have d0 := cell_keep c0 HBR.out
      cases f with
      | nil =>
        go_wp2_with fail
        go_roundw
        case rel => exact ⟨k + 1, by omega, by go_num, by rw [HST.out]; rfl, HBR.out⟩
        case measure => simp [intOf]; omega
      | cons t ts =>
        obtain ⟨b2, off2, ea, ec, rfl, hlt2, e0, e1, hse⟩ := pl_first hpf
        have HTE := hid (And.intro (HRT.out.canon.len t (by simp)) (HRT.out.bd.bd t (by simp)))
        have HSE := hid hse
        have hfl : (t :: ts).length = ts.length + 1 := rfl
        cases st with
        | none =>
          have HS1 : Hid (leadF o v fss (k + 1) = some (k, t)) := HST.out
          obtain ⟨m, hm1⟩ : ∃ m : Int, plc none = m := ⟨_, rfl⟩
          have hm0 : m < 0 := by rw [← hm1]; decide
          rw [hm1]
          clear hm1
          have hd : decide (m < 0) = true := decide_eq_true hm0
          go_wp2_with fail
          go_quiet (fail)
          have HQ1 := hid (below_drewN HBR.out nq)
          go_wp2
          go_roundw
          case rel => exact ⟨k + 1, by omega, by go_num, by rw [HS1.out]; rfl, HQ1.out⟩
          case measure => simp [intOf]; omega
        | some q =>
          obtain ⟨j, u⟩ := q
          obtain ⟨hjk, us, hus⟩ := HLA.out j u rfl
          obtain ⟨m, hmj⟩ : ∃ m : Int, (j : Int) = m := ⟨_, rfl⟩
          have hm0 : ¬ m < 0 := by omega
          have hm1 : 0 ≤ m := by omega
          have hm2 : m < (fss.length : Int) := by omega
          have hmt : m.toNat = j := by omega
          rw [plc_some, hmj]
          have hj2 : j < fss.length := by omega
          obtain ⟨b3, off3, ga, gc, hga, hlt3, g0, hpg⟩ := vl_at HX1.out j hj2
          simp only [Option.some.injEq, Addr.mk.injEq, and_true] at hga
          obtain ⟨e1', e2'⟩ := hga
          subst e1'
          subst e2'
          have HRU := hid (HF.out _ (getD_memL fss j hj2))
          rw [hus] at g0 hpg HRU
          obtain ⟨b4, off4, ea4, ec4, rfl, hlt4, q0, q1, hsu⟩ := pl_first hpg
          have HUE := hid (And.intro (HRU.out.canon.len u (by simp)) (HRU.out.bd.bd u (by simp)))
          have HSU := hid hsu
          rw [← hmt] at g0
          have HMJ := hid hmj
          clear hmj hmt
          cases hv : (v == 1)
          · have HS1 : Hid (leadF o v fss (k + 1) = some (j, u)) := by
              show _ = _
              rw [HST.out]
              simp only [leadStep]
              rw [if_neg (by have : ¬ v = 1 := (by simpa using hv); exact fun h => this h.1)]
            obtain ⟨_, bx0, bx1, bx2, bx3⟩ := HBX.out.below HBR.out
            have hd : decide (m < 0) = false := decide_eq_false hm0
            clear c0 hpf e0 e1 hse g0 hpg q0 q1 hsu hus
            go_wp2_with fail
            go_quiet (fail)
            have HB0 := hid (below_drewN HBR.out nq)
            go_wp2
            go_roundw
            case rel => exact ⟨k + 1, by omega, by go_num, by rw [HS1.out, plc_some, HMJ.out], HB0.out⟩
            case measure => simp [intOf]; omega
          · have hv1 : v = 1 := by simpa using hv
            have HLL : Hid (t.2.length = u.2.length) := HTE.out.1.trans HUE.out.1.symm
            have ht0 : 0 < t.2.length := by rw [HTE.out.1]; exact hN0
            have ht3 : t.2.length ≤ 3 := by rw [HTE.out.1]; exact hN
            obtain ⟨_, bx0, bx1, bx2, bx3⟩ := HBX.out
            have KEEP : Hid (∀ W, Below w1.heap.size w1 W → (Hid (Below w1.heap.size w1 W) ∧ W.cell? ⟨w.heap.size, 0, none⟩ = some (.int .i64 p) ∧ W.cell? ⟨w.heap.size, 1, none⟩ = some (.int .i64 n) ∧ W.cell? ⟨w.heap.size, 2, none⟩ = some (.int .i64 o) ∧ W.cell? ⟨w.heap.size, 3, none⟩ = some (.int .i64 v) ∧ W.cell? ⟨b2, off2 + 1, none⟩ = some (.slice ea t.2.length ec) ∧ W.cell? ⟨b, off + m.toNat, none⟩ = some (.slice (some ⟨b4, off4, none⟩) (us.length + 1) gc) ∧ W.cell? ⟨b4, off4 + 1, none⟩ = some (.slice ea4 u.2.length ec4))) :=
              fun W hb => ⟨hb, cell_keep bx0 hb, cell_keep bx1 hb, cell_keep bx2 hb, cell_keep bx3 hb, cell_keep e1 hb, cell_keep g0 hb, cell_keep q1 hb⟩
            have HB0 : Hid (Below w1.heap.size w1 wr.drew) := HBR.out.drew
            have hv2 : (v == 1) = true := hv
            have hd : decide (m < 0) = false := decide_eq_false hm0
            clear bx0 bx1 bx2 bx3 c0 hpf e0 e1 hse g0 hpg q0 q1 hsu hus hv1
            by_cases hgt : 0 < ordS o t.2 u.2
            · have HS1 : Hid (leadF o v fss (k + 1) = some (k, t)) := by
                show _ = _
                rw [HST.out]
                simp only [leadStep]
                rw [if_pos ⟨by simpa using hv2, hgt⟩]
              go_wp2_with fail
              go_region_held (fun W => Hid (Below w1.heap.size w1 W) ∧ W.cell? ⟨w.heap.size, 0, none⟩ = some (.int .i64 p) ∧ W.cell? ⟨w.heap.size, 1, none⟩ = some (.int .i64 n) ∧ W.cell? ⟨w.heap.size, 2, none⟩ = some (.int .i64 o) ∧ W.cell? ⟨w.heap.size, 3, none⟩ = some (.int .i64 v) ∧ W.cell? ⟨b2, off2 + 1, none⟩ = some (.slice ea t.2.length ec) ∧ W.cell? ⟨b, off + m.toNat, none⟩ = some (.slice (some ⟨b4, off4, none⟩) (us.length + 1) gc) ∧ W.cell? ⟨b4, off4 + 1, none⟩ = some (.slice ea4 u.2.length ec4))
                (first | exact KEEP.out _ HB0.out | exact KEEP.out _ (HB0.out.trans (hb9.mono HB0.out.size)))
                (first | (go_at_call 64; refine (bareCompare_any p n o v _ _ t.2 u.2 _ HO.out ht0 ht3 HLL.out HTE.out.2 HUE.out.2 ?_ ?_).mono ?_; exact HSE.out.below HB0.out; exact HSU.out.below HB0.out; rintro e w9 ⟨rfl, hb9⟩))
              have HB9 := hid (show Below w1.heap.size w1 w9 from HB0.out.trans (hb9.mono HB0.out.size))
              clear hb9
              go_wp2_with fail
              go_roundw
              case rel => exact ⟨k + 1, by omega, by go_num, by rw [HS1.out]; rfl, HB9.out⟩
              case measure => simp [intOf]; omega
            · have HS1 : Hid (leadF o v fss (k + 1) = some (j, u)) := by
                show _ = _
                rw [HST.out]
                simp only [leadStep]
                rw [if_neg (fun h => hgt h.2)]
              go_wp2_with fail
              go_region_held (fun W => Hid (Below w1.heap.size w1 W) ∧ W.cell? ⟨w.heap.size, 0, none⟩ = some (.int .i64 p) ∧ W.cell? ⟨w.heap.size, 1, none⟩ = some (.int .i64 n) ∧ W.cell? ⟨w.heap.size, 2, none⟩ = some (.int .i64 o) ∧ W.cell? ⟨w.heap.size, 3, none⟩ = some (.int .i64 v) ∧ W.cell? ⟨b2, off2 + 1, none⟩ = some (.slice ea t.2.length ec) ∧ W.cell? ⟨b, off + m.toNat, none⟩ = some (.slice (some ⟨b4, off4, none⟩) (us.length + 1) gc) ∧ W.cell? ⟨b4, off4 + 1, none⟩ = some (.slice ea4 u.2.length ec4))
                (first | exact KEEP.out _ HB0.out | exact KEEP.out _ (HB0.out.trans (hb9.mono HB0.out.size)))
                (first | (go_at_call 64; refine (bareCompare_any p n o v _ _ t.2 u.2 _ HO.out ht0 ht3 HLL.out HTE.out.2 HUE.out.2 ?_ ?_).mono ?_; exact HSE.out.below HB0.out; exact HSU.out.below HB0.out; rintro e w9 ⟨rfl, hb9⟩))
              have HB9 := hid (show Below w1.heap.size w1 w9 from HB0.out.trans (hb9.mono HB0.out.size))
              clear hb9
              go_wp2_with fail
              go_roundw
              case rel => exact ⟨k + 1, by omega, by go_num, by rw [HS1.out, plc_some, HMJ.out], HB9.out⟩
              case measure => simp [intOf]; omega
    · have e : k = fss.length := by omega
      subst e
      go_wp2
      go_ret
      exact ⟨rfl, HBW.out.trans (HBR.out.mono HBW.out.size)⟩
def ldC : Ld → Int
  | none => 0
  | some (_, u) => u.1
def ldE : Ld → List Int
  | none => []
  | some (_, u) => u.2
structure LdW (w wr : World) (p n o v : Int) (st : Ld) : Prop where
  below : Below w.heap.size w wr
  box : BoxAt wr w.heap.size p n o v
  res : wr.ownsRow w.heap.size 34 2 (.slice (some ⟨w.heap.size + 1, 0, none⟩) 1 1) 1 [.int .i64 0, .slice none 0 0]
  own : ∃ ea ec, wr.ownsRow w.heap.size 34 2 (.slice (some ⟨w.heap.size + 1 + 1, 0, none⟩) 1 1) 1 [.int .i64 (ldC st), .slice ea (ldE st).length ec] ∧ Sl w (.slice ea (ldE st).length ec) (ldE st)
theorem LdW.next {w wr w' : World} {p n o v : Int} {st : Ld} (h : LdW w wr p n o v st) (hb : Below wr.heap.size wr w') : LdW w w' p n o v st := by
  obtain ⟨ea, ec, h1, h2⟩ := h.own
  exact ⟨h.below.trans (hb.mono h.below.size), h.box.below hb, ownBlock_lt h.res hb, ea, ec, ownBlock_lt h1 hb, h2⟩
theorem LdW.put {w wr : World} {p n o v : Int} {st : Ld} (h : LdW w wr p n o v st) (i : Nat) (t : Tm) (ea : Option Addr) (ec : Nat) (hs : Sl w (.slice ea t.2.length ec) t.2) :
    LdW w ((wr.setCell ⟨w.heap.size + 1 + 1, 0, none⟩ (.int .i64 t.1)).setCell ⟨w.heap.size + 1 + 1, 1, none⟩ (.slice ea t.2.length ec)) p n o v (some (i, t)) := by
  obtain ⟨ea0, ec0, h1, _⟩ := h.own
  have s1 := h1.stored 0 (.int .i64 t.1)
  have s2 := s1.1.stored 1 (.slice ea t.2.length ec)
  have hg := grown_trans s1.2 s2.2
  have hlt := h.box.1
  refine ⟨h.below.trans (grown_below hg (by omega) h.below.size), ?_, h.res.kept hg (Or.inr (by simp [Value.ownBlock])), ea, ec, ?_, hs⟩
  · have far := fun o => cell_far (o := o) hg hlt (show w.heap.size ≠ w.heap.size + 1 + 1 by omega)
    obtain ⟨_, b0, b1, b2, b3⟩ := h.box
    exact ⟨Nat.lt_of_lt_of_le hlt hg.size, by rw [far]; exact b0, by rw [far]; exact b1, by rw [far]; exact b2, by rw [far]; exact b3⟩
  · have := s2.1
    simpa [ldC, ldE] using this
theorem LdW.first (w : World) (p n o v : Int) : LdW w (((w.alloc (.cells #[.int .i64 p, .int .i64 n, .int .i64 o, .int .i64 v] 23)).alloc (.cells #[.int .i64 0, .slice none 0 0] 34)).alloc (.cells #[.int .i64 0, .slice none 0 0] 34)) p n o v none := by
  have h1 := made_term (w := w.alloc (.cells #[.int .i64 p, .int .i64 n, .int .i64 o, .int .i64 v] 23)) (B := w.heap.size) (by simp) 0 (.slice none 0 0)
  have h2 := made_term (w := (w.alloc (.cells #[.int .i64 p, .int .i64 n, .int .i64 o, .int .i64 v] 23)).alloc (.cells #[.int .i64 0, .slice none 0 0] 34)) (B := w.heap.size) (by simp; omega) 0 (.slice none 0 0)
  refine ⟨below_two.trans (belowNew.mono below_two.size), ((BoxAt.new w p n o v _).below belowNew).below belowNew, ?_, none, 0, ?_, none, 0, rfl, fun h => by simp [ldE] at h⟩
  · have := ownBlock_lt h1 (belowNew (A := .cells #[.int .i64 0, .slice none 0 0] 34))
    simpa using this
  · simpa [ldC, ldE] using h2
end Go.Proofs.Ytilogbggilchaaa
