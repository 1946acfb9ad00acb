/- Print of a polynomial. -/
import Derived.Test.YtkmjmmnnnbjghaaGreatPN
import Derived.Test.YtkmjmmnnnbjghaaGreatPJ
import Derived.Test.YtkmjmmnnnbjghaaGreatA
import Derived.Test.YtkmjmmnnnbjghaaGreatWA
namespace Go.Proofs.YtkmjmmnnnbjghaaGreat
set_option linter.unusedSimpArgs false
set_option linter.unusedVariables false
open Go.RowKit

def ptB (t : Tm) : List UInt8 := Lib.join (facs t.1.toNat t.2 ++ pows t.2 t.2.length) [42]
theorem lens_le {m : Nat} : ∀ (r : List (List UInt8)), (∀ x ∈ r, x.length ≤ m) → Lib.lens r ≤ m * r.length
  | [], _ => by simp [Lib.lens]
  | x :: r, h => by
    have h1 := h x (by simp)
    have h2 := lens_le r (fun y hy => h y (by simp [hy]))
    simp only [Lib.lens, List.map_cons, List.sum_cons, List.length_cons, Nat.mul_add] at h2 ⊢
    omega
theorem join_le {m : Nat} (sep : List UInt8) : ∀ (r : List (List UInt8)), (∀ x ∈ r, x.length ≤ m) → (Lib.join r sep).length ≤ sep.length * r.length + m * r.length
  | [], _ => by simp [Lib.join_nil]
  | x :: r, h => by
    rw [Lib.join_length]
    have := lens_le (x :: r) h
    simp only [List.length_cons, Nat.mul_add] at this ⊢
    omega
theorem pows_len (es : List Int) : ∀ k, (pows es k).length ≤ k
  | 0 => by simp [pows]
  | k + 1 => by
    have := pows_len es k
    simp only [pows, List.length_append]
    split <;> simp <;> omega
theorem ptB_len {c : Nat} {es : List Int} (hc : c ≤ 101) (h3 : es.length ≤ 3) (he : ∀ e ∈ es, 0 ≤ e ∧ e ≤ 200) : (Lib.join (facs c es ++ pows es es.length) [42]).length ≤ 1000 := by
  have hall : ∀ x ∈ facs c es ++ pows es es.length, x.length ≤ 5 := by
    intro x hx
    rcases List.mem_append.1 hx with hx | hx
    · unfold facs at hx
      split at hx
      · rw [List.mem_singleton] at hx; subst hx
        have := digs_len (i := c) (by omega); omega
      · simp at hx
    · exact pows_mem he es.length (Nat.le_refl _) x hx
  have h1 := join_le [42] _ hall
  have h2 := pows_len es es.length
  have h4 : (facs c es).length ≤ 1 := by unfold facs; split <;> simp
  simp only [List.length_append, List.length_cons, List.length_nil] at h1
  omega
def priR (E : Int) (fs : List Tm) : List UInt8 := if E ≠ 0 then [] else if fs = [] then [48] else Lib.join (fs.map ptB) [32, 43, 32]

end Go.Proofs.YtkmjmmnnnbjghaaGreat

/- Values: valueOfTerm, Value. -/
namespace Go.Proofs.YtkmjmmnnnbjghaaGreat
set_option linter.unusedSimpArgs false
set_option linter.unusedVariables false
open Go.RowKit

def outV (p x : Int) : Bool := decide (x < 0 ∨ p ≤ x)
theorem mval_take : ∀ (xs es : List Int) (k : Nat), xs.length = es.length → k < xs.length → mval (xs.take (k + 1)) (es.take (k + 1)) = mval (xs.take k) (es.take k) * (xs.getD k 0) ^ (es.getD k 0).toNat
  | x :: xs, e :: es, 0, _, _ => by simp [mval]
  | x :: xs, e :: es, k + 1, hl, hk => by
    simp only [List.take_succ_cons, mval]
    rw [mval_take xs es k (by simpa using hl) (by simpa using hk)]
    simp [Int.mul_assoc]
  | [], _, _, _, hk => by simp at hk
  | _ :: _, [], _, hl, _ => by simp at hl
theorem mul_step (p a x : Int) (j : Nat) : (a * x ^ j % p) * x % p = a * x ^ (j + 1) % p := by
  rw [Int.pow_succ, ← Int.mul_assoc, Int.mul_emod (a * x ^ j % p), Int.emod_emod_of_dvd _ (Int.dvd_refl p), ← Int.mul_emod]

end Go.Proofs.YtkmjmmnnnbjghaaGreat

/- Value of a polynomial. -/
namespace Go.Proofs.YtkmjmmnnnbjghaaGreat
set_option linter.unusedSimpArgs false
set_option linter.unusedVariables false
open Go.RowKit

def valE (E n p : Int) (xs : List Int) : Int := if E ≠ 0 then E else if (xs.length : Int) ≠ n then 1 else if xs.any (outV p) then 3 else 0
def valR (E n p : Int) (xs : List Int) (fs : List Tm) : Int := if valE E n p xs = 0 then lin (mval xs) fs % p else 0
theorem any_bdV {p : Int} {xs : List Int} (h : xs.any (outV p) = false) : ∀ x ∈ xs, 0 ≤ x ∧ x < p := by
  intro x hx
  rw [List.any_eq_false] at h
  have := h x hx
  simp [outV] at this; omega
theorem lin_take (φ : List Int → Int) (fs : List Tm) (k : Nat) (h : k < fs.length) : lin φ (fs.take (k + 1)) = lin φ (fs.take k) + (fs.getD k noT).1 * φ (fs.getD k noT).2 := by
  rw [List.take_succ_eq_append_getElem h, lin_append]
  simp [lin, List.getD_eq_getElem?_getD, h]

theorem subLt {k n : Nat} (h : k < n) : n - ((k : Int) + 1).toNat < n - k := by omega
theorem lens3 {n : Int} {a b : Nat} (h1 : (a : Int) = n) (h2 : b = n.toNat) (h3 : 0 < n.toNat) (h4 : n.toNat ≤ 3) : a = b ∧ 0 < b ∧ b ≤ 3 := by omega

end Go.Proofs.YtkmjmmnnnbjghaaGreat

/- polyBegun. -/
namespace Go.Proofs.YtkmjmmnnnbjghaaGreat
set_option linter.unusedSimpArgs false
set_option linter.unusedVariables false
open Go.RowKit

set_option maxHeartbeats 1000000 in
theorem polyCheck_any (p n o v : Int) (chk : List (List Tm) → Int) (HC : Tells p n o v chk) (x : Value) (fs : List Tm) (w : World) (pf : Pl w x fs) :
    Calls Tryz.prog 86 #[ringV p n o v, x] w fun e w' => e = .returned (.int .i64 (chk [fs])) ∧ Below w.heap.size w w' := by
  have HP := hid pf
  have HT := hid HC
  obtain ⟨a, c, rfl, _, _⟩ := pf
  clear HC
  have HB2 : Hid (∀ A B, Below w.heap.size w ((w.alloc A).alloc B)) := fun A B => below_two
  go_enter Tryz.func86, Tryz.ntmps86
  go_wp2_with fail
  refine (HT.out.1 [fs] _ _ (by simp) (pls1 (HP.out.below (HB2.out _ _)) (by simp) (by simp [go_sem]))).mono ?_
  rintro e w1 ⟨rfl, hb1⟩
  have HB1 := hid ((HB2.out _ _).trans (hb1.mono (HB2.out _ _).size))
  clear hb1
  go_wp2
  go_ret
  exact ⟨rfl, HB1.out⟩

set_option maxHeartbeats 1000000 in
theorem term_any (c : Int) (a : Option Addr) (n m : Nat) (w : World) :
    Calls Tryz.prog 42 #[.int .i64 c, .slice a n m] w fun e w' => e = .returned (.agg #[.int .i64 c, .slice a n m]) ∧ Below w.heap.size w w' := by
  go_enter Tryz.func42, Tryz.ntmps42
  go_wp2
  exact bodyPost_ret (v := .agg #[.int .i64 c, .slice a n m]) (by simp [results, Tryz.results42, go_sem]) rfl ⟨rfl, (Below.refl _ _).alloc (Nat.le_refl _) _⟩

/-- x + 2. -/
abbrev fB : List Tm := [(1, [1, 0]), (2, [0, 0])]
theorem pl_new2 {w : World} {c1 c2 : Int} {s1 s2 : Value} {e1 e2 : List Int} {T : TypeId} (h1 : Sl w s1 e1) (h2 : Sl w s2 e2) : Pl (w.alloc (.cells #[.int .i64 c1, s1, .int .i64 c2, s2] T)) (.slice (some ⟨w.heap.size, 0, none⟩) 2 2) [(c1, e1), (c2, e2)] := by
  refine ⟨_, _, rfl, by simp, fun _ => ⟨_, _, rfl, by simp, fun i hi => ?_⟩⟩
  simp at hi
  rcases i with _ | _ | i
  · exact ⟨by simp [go_sem], s1, by simp [go_sem], h1.below belowNew⟩
  · exact ⟨by simp [go_sem], s2, by simp [go_sem], h2.below belowNew⟩
  · omega
theorem txtB : priR 0 [(1, [2, 0]), (4, [1, 0]), (4, [0, 0])] = [120, 94, 50, 32, 43, 32, 52, 42, 120, 32, 43, 32, 52] := by
  have h2 : Lib.decDigits 2 = [50] := Lib.decDigits_one (by decide)
  have h4 : Lib.decDigits 4 = [52] := Lib.decDigits_one (by decide)
  simp [priR, ptB, facs, pows, powB, varB, sumI, h2, h4, Lib.join, List.intercalate, List.intersperse]

end Go.Proofs.YtkmjmmnnnbjghaaGreat

/- vector.checkPolys, isRank, checkAll, Check. -/
namespace Go.Proofs.YtkmjmmnnnbjghaaGreat
set_option linter.unusedSimpArgs false
set_option linter.unusedVariables false
open Go.RowKit

theorem cur_one {p n o v : Int} {f : List Tm} (hR : errR p n o v = 0) : cur p n o v [f] = errOne p n o f := by
  have e : errCur p n o v f = errOne p n o f := by unfold errCur; rw [if_neg (by simpa using hR)]
  have hu : cur p n o v [f] = if errCur p n o v f ≠ 0 then errCur p n o v f else 0 := rfl
  rw [hu, e]
  by_cases h : errOne p n o f = 0
  · rw [if_neg (by simpa using h), h]
  · rw [if_pos h]

set_option maxRecDepth 100000 in
set_option maxHeartbeats 1000000 in
theorem vecPolys_any (p n o v : Int) (lv : Value) (fss : List (List Tm)) (w : World) (hR : errR p n o v = 0) (hm : fss.length ≤ 1200000000000) (hs : Vl w lv fss) :
    Calls Tryz.prog 48 #[ringV p n o v, lv] w fun e w' => e = .returned (.int .i64 (firstOne p n o fss)) ∧ Below w.heap.size w w' := by
  have HS := hid hs
  have HR := hid hR
  have HT := hid (tells p n o v)
  obtain ⟨la, lc, rfl, _⟩ := hs
  obtain ⟨w1, hw1⟩ : ∃ w1, w1 = w.alloc (.cells #[.int .i64 p, .int .i64 n, .int .i64 o, .int .i64 v] 23) := ⟨_, rfl⟩
  have hbx : BoxAt w1 w.heap.size p n o v := by rw [hw1]; exact BoxAt.new w p n o v _
  have hbw : Below w.heap.size w w1 := by rw [hw1]; exact below_oneG
  have HBX := hid hbx
  have HBW := hid hbw
  clear hR hbx hbw
  go_enter Tryz.func48, Tryz.ntmps48
  go_wp2_with fail
  rw [← hw1]
  clear hw1
  go_loopw [10] (fun i wr => ∃ k : Nat, k ≤ fss.length ∧ i = .int .i64 k ∧ firstOne p n o fss = firstOne p n o (fss.drop k) ∧ Below w1.heap.size w1 wr) (fun i _ => fss.length - (intOf i).toNat)
  case atStart => exact ⟨0, Nat.zero_le _, rfl, rfl, Below.refl _ _⟩
  case round =>
    obtain ⟨k, hk, rfl, her, hbr⟩ := hrel
    have HBR := hid hbr
    have HER0 := hid her
    clear hbr her
    by_cases hk2 : k < fss.length
    · have HER := hid (HER0.out.trans (firstOne_drop p n o fss k hk2))
      have HDN := hid (HBW.out.trans (HBR.out.mono HBW.out.size))
      obtain ⟨b, off, fa, fc, rfl, hlt, c0, hpf⟩ := vl_at HS.out k hk2
      generalize fss.getD k [] = f at c0 hpf HER
      have HPF := hid (hpf.below HDN.out)
      have d0 := cell_keep c0 HDN.out
      have HC1 := hid (cur_one (f := f) HR.out)
      obtain ⟨_, bx0, bx1, bx2, bx3⟩ := HBX.out.below HBR.out
      clear c0 hpf
      cases hz : (errOne p n o f != 0)
      · have HZ : Hid (errOne p n o f = 0) := by simpa [Hid] using hz
        go_wp2_with (go_at_call 86; refine (polyCheck_any p n o v _ HT.out _ f _ HPF.out).mono ?_; rw [HC1.out]; rintro e w2 ⟨rfl, hb2⟩; have HB2 := hid (HBR.out.trans (hb2.mono HBR.out.size)); clear hb2)
        go_roundw
        case rel => exact ⟨k + 1, by omega, by go_num, by rw [HER.out, if_pos HZ.out], HB2.out⟩
        case measure => simp [intOf]; omega
      · have HZ : Hid (errOne p n o f ≠ 0) := by simpa [Hid] using hz
        go_wp2_with (go_at_call 86; refine (polyCheck_any p n o v _ HT.out _ f _ HPF.out).mono ?_; rw [HC1.out]; rintro e w2 ⟨rfl, hb2⟩; have HB2 := hid (HBR.out.trans (hb2.mono HBR.out.size)); clear hb2)
        go_ret
        exact ⟨ret_int (by rw [HER.out, if_neg HZ.out]), HBW.out.trans (HB2.out.mono HBW.out.size)⟩
    · go_wp2
      go_ret
      exact ⟨ret_int (by rw [HER0.out, List.drop_eq_nil_of_le (by omega)]; rfl), HBW.out.trans (HBR.out.mono HBW.out.size)⟩

set_option maxHeartbeats 1000000 in
theorem isRank_any (m : Int) (w : World) : Calls Tryz.prog 85 #[.int .i64 m] w fun e w' => e = .returned (.bool (betweenB m 1 40)) ∧ w' = w := by
  have HE : Hid (betweenB m 1 40 = decide (1 ≤ m ∧ m ≤ 40)) := by show _ = _; simp [betweenB]
  rw [HE.out]
  by_cases h1 : 1 ≤ m
  · by_cases h2 : m ≤ 40
    · have HD : Hid (decide (1 ≤ m ∧ m ≤ 40) = true) := decide_eq_true ⟨h1, h2⟩
      rw [HD.out]
      go_enter Tryz.func85, Tryz.ntmps85
      go_wp2
      go_ret
      exact ⟨ret_bool (by simp [h2]), rfl⟩
    · have HD : Hid (decide (1 ≤ m ∧ m ≤ 40) = false) := decide_eq_false (by omega)
      rw [HD.out]
      go_enter Tryz.func85, Tryz.ntmps85
      go_wp2
      go_ret
      exact ⟨ret_bool (by simp [h2]), rfl⟩
  · have HD : Hid (decide (1 ≤ m ∧ m ≤ 40) = false) := decide_eq_false (by omega)
    rw [HD.out]
    go_enter Tryz.func85, Tryz.ntmps85
    go_wp2
    go_ret
    exact ⟨rfl, rfl⟩

set_option maxHeartbeats 1000000 in
theorem badFn_any (va : Option Addr) (vc : Nat) (fss : List (List Tm)) (w : World) : Calls Tryz.prog 90 #[.slice va fss.length vc] w fun e w' => e = .returned (.bool (badR fss)) ∧ w' = w := by
  go_enter Tryz.func90, Tryz.ntmps90
  go_wp2_with (go_at_call 85; refine (isRank_any _ _).mono ?_; rintro e w' ⟨rfl, rfl⟩)
  go_ret
  exact ⟨rfl, rfl⟩
set_option maxHeartbeats 1000000 in
theorem unlFn_any (va : Option Addr) (vc vb : Nat) (fss : List (List Tm)) (la : Option Addr) (lc : Nat) (vss : List (List (List Tm))) (w : World) (hp : 0 < vss.length) (hb : w.cell? ⟨vb, 0, none⟩ = some (.slice la vss.length lc)) (hs : Wl w (.slice la vss.length lc) vss) :
    Calls Tryz.prog 91 #[.slice va fss.length vc, .pointer (some ⟨vb, 0, none⟩)] w fun e w' => e = .returned (.bool (unlV (vss.getD 0 []).length fss)) ∧ w' = w := by
  obtain ⟨b, off, va2, vc2, rfl, hlt, c0, _⟩ := wl_at hs 0 hp
  generalize vss.getD 0 [] = gss at c0
  simp only [Nat.add_zero] at c0
  clear hs
  cases hun : ((fss.length : Int) != (gss.length : Int))
  · have HU := hid (unl_no (m := gss.length) hun)
    rw [HU.out]
    go_enter Tryz.func91, Tryz.ntmps91
    go_wp2
    go_ret
    exact ⟨ret_bool (by simp), rfl⟩
  · have HU := hid (unl_yes (m := gss.length) hun)
    rw [HU.out]
    go_enter Tryz.func91, Tryz.ntmps91
    go_wp2
    go_ret
    exact ⟨ret_bool (by simp), rfl⟩

set_option maxHeartbeats 1000000 in
theorem indexBad_any (lv : Value) (vss : List (List (List Tm))) (w : World) (hm : vss.length ≤ 1000) (hs : Wl w lv vss) :
    Calls Tryz.prog 117 #[lv, .func (.func 90) #[] #[]] w fun e w' => ∃ r : Int, e = .returned (.int .i64 r) ∧ decide (0 ≤ r) = vss.any badR ∧ w' = w := by
  have HS := hid hs
  obtain ⟨la, lc, rfl, _⟩ := hs
  go_enter Tryz.func117, Tryz.ntmps117
  go_wp2
  go_loop [8] (fun i => ∃ k : Nat, k ≤ vss.length ∧ i = .int .i64 k ∧ (vss.take k).any badR = false) (fun i => vss.length - (intOf i).toNat)
  case atStart => exact ⟨0, Nat.zero_le _, rfl, by simp⟩
  case round =>
    obtain ⟨k, hk, rfl, hn⟩ := hrel
    have HN := hid hn
    clear hn
    by_cases hlt : k < vss.length
    · obtain ⟨b, off, va, vc, rfl, _, c0, _⟩ := wl_at HS.out k hlt
      have H1 := hid (any_takeV badR vss k hlt HN.out)
      have H2 := hid (any_atV badR vss k hlt)
      generalize vss.getD k [] = fss at c0 H1 H2
      cases hy : badR fss
      · go_wp2_with (go_at_call 90; refine (badFn_any _ _ fss _).mono ?_; rw [hy]; rintro e w' ⟨rfl, rfl⟩)
        go_round
        case rel => exact ⟨k + 1, by omega, by go_num, H1.out hy⟩
        case measure => simp [intOf]; omega
      · go_wp2_with (go_at_call 90; refine (badFn_any _ _ fss _).mono ?_; rw [hy]; rintro e w' ⟨rfl, rfl⟩)
        go_ret
        exact ⟨(k : Int), rfl, by rw [H2.out hy]; simp, rfl⟩
    · go_wp2
      go_ret
      exact ⟨-1, rfl, by have := HN.out; rw [List.take_of_length_le (by omega)] at this; rw [this]; simp, rfl⟩
set_option maxHeartbeats 1000000 in
theorem indexUnl_any (la : Option Addr) (lc vb : Nat) (vss : List (List (List Tm))) (w : World) (hm : vss.length ≤ 1000) (hb : w.cell? ⟨vb, 0, none⟩ = some (.slice la vss.length lc)) (hs : Wl w (.slice la vss.length lc) vss) :
    Calls Tryz.prog 117 #[.slice la vss.length lc, .func (.func 91) #[] #[.pointer (some ⟨vb, 0, none⟩)]] w fun e w' => ∃ r : Int, e = .returned (.int .i64 r) ∧ decide (0 ≤ r) = vss.any (unlV (vss.getD 0 []).length) ∧ w' = w := by
  have HS := hid hs
  have HB := hid hb
  have HUN : Hid (0 < vss.length → ∀ va vc fss, Calls Tryz.prog 91 #[.slice va fss.length vc, .pointer (some ⟨vb, 0, none⟩)] w fun e w' => e = .returned (.bool (unlV (vss.getD 0 []).length fss)) ∧ w' = w) := fun hp va vc fss => unlFn_any va vc vb fss la lc vss w hp hb hs
  obtain ⟨m, hmm⟩ : ∃ m, (vss.getD 0 []).length = m := ⟨_, rfl⟩
  rw [hmm] at HUN ⊢
  clear hs hb hmm
  go_enter Tryz.func117, Tryz.ntmps117
  go_wp2
  go_loop [8] (fun i => ∃ k : Nat, k ≤ vss.length ∧ i = .int .i64 k ∧ (vss.take k).any (unlV m) = false) (fun i => vss.length - (intOf i).toNat)
  case atStart => exact ⟨0, Nat.zero_le _, rfl, by simp⟩
  case round =>
    obtain ⟨k, hk, rfl, hn⟩ := hrel
    have HN := hid hn
    clear hn
    by_cases hlt : k < vss.length
    · obtain ⟨b, off, va, vc, rfl, _, c0, _⟩ := wl_at HS.out k hlt
      have H1 := hid (any_takeV (unlV m) vss k hlt HN.out)
      have H2 := hid (any_atV (unlV m) vss k hlt)
      generalize vss.getD k [] = fss at c0 H1 H2
      have HC := hid (HUN.out (by omega) va vc fss)
      cases hy : unlV m fss
      · go_wp2_with (go_at_call 91; refine HC.out.mono ?_; rw [hy]; rintro e w' ⟨rfl, rfl⟩)
        go_round
        case rel => exact ⟨k + 1, by omega, by go_num, H1.out hy⟩
        case measure => simp [intOf]; omega
      · go_wp2_with (go_at_call 91; refine HC.out.mono ?_; rw [hy]; rintro e w' ⟨rfl, rfl⟩)
        go_ret
        exact ⟨(k : Int), rfl, by rw [H2.out hy]; simp, rfl⟩
    · go_wp2
      go_ret
      exact ⟨-1, rfl, by have := HN.out; rw [List.take_of_length_le (by omega)] at this; rw [this]; simp, rfl⟩
set_option maxHeartbeats 1000000 in
theorem containsBad_any (lv : Value) (vss : List (List (List Tm))) (w : World) (hm : vss.length ≤ 1000) (hs : Wl w lv vss) :
    Calls Tryz.prog 89 #[lv, .func (.func 90) #[] #[]] w fun e w' => e = .returned (.bool (vss.any badR)) ∧ w' = w := by
  have HS := hid hs
  obtain ⟨la, lc, rfl, _⟩ := hs
  go_enter Tryz.func89, Tryz.ntmps89
  go_wp2_with (go_at_call 117; refine (indexBad_any _ vss _ hm HS.out).mono ?_; rintro e w' ⟨r, rfl, hr, rfl⟩)
  go_ret
  exact ⟨by rw [← hr]; rfl, rfl⟩
set_option maxHeartbeats 1000000 in
theorem containsUnl_any (la : Option Addr) (lc vb : Nat) (vss : List (List (List Tm))) (w : World) (hm : vss.length ≤ 1000) (hb : w.cell? ⟨vb, 0, none⟩ = some (.slice la vss.length lc)) (hs : Wl w (.slice la vss.length lc) vss) :
    Calls Tryz.prog 89 #[.slice la vss.length lc, .func (.func 91) #[] #[.pointer (some ⟨vb, 0, none⟩)]] w fun e w' => e = .returned (.bool (vss.any (unlV (vss.getD 0 []).length))) ∧ w' = w := by
  have HI := hid (indexUnl_any la lc vb vss w hm hb hs)
  clear hs hb
  go_enter Tryz.func89, Tryz.ntmps89
  go_wp2_with (go_at_call 117; refine HI.out.mono ?_; rintro e w' ⟨r, rfl, hr, rfl⟩; have HRR := hid hr; clear hr)
  go_ret
  exact ⟨by rw [← HRR.out]; rfl, rfl⟩

set_option maxRecDepth 100000 in
set_option maxHeartbeats 2000000 in
theorem vecAll_any (p n o v : Int) (lv : Value) (vss : List (List (List Tm))) (w : World) (hm : vss.length ≤ 1000) (hs : Wl w lv vss) :
    Calls Tryz.prog 52 #[ringV p n o v, lv] w fun e w' => e = .returned (.int .i64 (errAlike p n o v vss)) ∧ Below w.heap.size w w' := by
  have HS := hid hs
  obtain ⟨la, lc, rfl, _⟩ := hs
  obtain ⟨w2, hw2⟩ : ∃ w2, w2 = (w.alloc (.cells #[.int .i64 p, .int .i64 n, .int .i64 o, .int .i64 v] 23)).alloc (.cells #[.slice la vss.length lc] 26) := ⟨_, rfl⟩
  have hb2 : Below w.heap.size w w2 := by rw [hw2]; exact below_two
  have hbx : BoxAt w2 w.heap.size p n o v := by rw [hw2]; exact (BoxAt.new w p n o v _).below below_oneG
  have hcf : w2.cell? ⟨w.heap.size + 1, 0, none⟩ = some (.slice la vss.length lc) := by rw [hw2]; simp [go_sem]
  have HB2 := hid hb2
  have HBX := hid hbx
  have HCF := hid hcf
  obtain ⟨_, bx0, bx1, bx2, bx3⟩ := hbx
  clear hb2
  cases hR : (errR p n o v != 0)
  · have hR0 : errR p n o v = 0 := by simpa using hR
    have HR := hid hR0
    have HE : Hid (errAlike p n o v vss = if vss.any badR then 3 else if vss.any (unlV (vss.getD 0 []).length) then 1 else firstZ (firstOne p n o) vss) := by show _ = _; unfold errAlike; rw [if_neg (by simpa using hR0)]
    clear hR0
    go_enter Tryz.func52, Tryz.ntmps52
    go_wp2_with fail
    try rw [← hw2]
    refine (ring_any p n o v w2).mono ?_
    rintro e w3 ⟨rfl, hb3⟩
    have HB3 := hid (HB2.out.trans (hb3.mono HB2.out.size))
    have HBX3 := hid (HBX.out.below hb3)
    have hcf3 := cell_keep HCF.out hb3
    have HCF3 := hid hcf3
    have HS3 := hid (HS.out.below HB3.out)
    clear hb3 bx0 bx1 bx2 bx3 hcf hw2
    obtain ⟨_, bx0, bx1, bx2, bx3⟩ := HBX3.out
    have HCB := hid (containsBad_any _ vss w3 hm HS3.out)
    have HCU := hid (containsUnl_any la lc (w.heap.size + 1) vss w3 hm HCF3.out HS3.out)
    cases hab : vss.any badR
    · have HE2 : Hid (errAlike p n o v vss = if vss.any (unlV (vss.getD 0 []).length) then 1 else firstZ (firstOne p n o) vss) := by show _ = _; rw [HE.out, if_neg (by rw [hab]; simp)]
      have HAB := hid hab
      cases hun : vss.any (unlV (vss.getD 0 []).length)
      · rw [hun] at HCU
        have HUN := hid hun
        have HE3 : Hid (errAlike p n o v vss = firstZ (firstOne p n o) vss) := by show _ = _; rw [HE2.out, if_neg (by rw [hun]; simp)]
        clear HE HE2 hun
        go_wp2_with fail
        refine HCB.out.mono ?_
        rw [HAB.out]
        rintro e w4 ⟨rfl, rfl⟩
        go_wp2_with fail
        refine HCU.out.mono ?_
        rintro e w4 ⟨rfl, rfl⟩
        go_wp2_with fail
        obtain ⟨wo, hwo⟩ : ∃ wo, wo = w4 := ⟨_, rfl⟩
        subst hwo
        clear bx0 bx1 bx2 bx3 hcf3
        go_loopw [21] (fun i wr => ∃ k : Nat, k ≤ vss.length ∧ i = .int .i64 k ∧ firstZ (firstOne p n o) vss = firstZ (firstOne p n o) (vss.drop k) ∧ Below wo.heap.size wo wr) (fun i _ => vss.length - (intOf i).toNat)
        case atStart => exact ⟨0, Nat.zero_le _, rfl, rfl, Below.refl _ _⟩
        case round =>
          obtain ⟨k, hk, rfl, her, hbr⟩ := hrel
          have HBR := hid hbr
          have HER0 := hid her
          clear hbr her
          by_cases hk2 : k < vss.length
          · have HER := hid (HER0.out.trans (firstZ_drop (firstOne p n o) vss k hk2))
            obtain ⟨b, off, va, vc, rfl, hlt, c0, hvl⟩ := wl_at HS3.out k hk2
            have HFLs : Hid ((vss.getD k []).length ≤ 1200000000000) := badR_len HAB.out (getD_memV vss k hk2)
            generalize vss.getD k [] = fss at c0 hvl HER HFLs
            have HVL := hid (hvl.below HBR.out)
            have d0 := cell_keep c0 HBR.out
            obtain ⟨_, bx0, bx1, bx2, bx3⟩ := HBX3.out.below HBR.out
            clear c0 hvl
            cases hz : (firstOne p n o fss != 0)
            · have HZ : Hid (firstOne p n o fss = 0) := by simpa [Hid] using hz
              go_wp2_with (go_at_call 48; refine (vecPolys_any p n o v _ fss _ HR.out HFLs.out HVL.out).mono ?_; rintro e w4 ⟨rfl, hb4⟩; have HB4 := hid (HBR.out.trans (hb4.mono HBR.out.size)); clear hb4)
              go_roundw
              case rel => exact ⟨k + 1, by omega, by go_num, by rw [HER.out, if_pos HZ.out], HB4.out⟩
              case measure => simp [intOf]; omega
            · have HZ : Hid (firstOne p n o fss ≠ 0) := by simpa [Hid] using hz
              go_wp2_with (go_at_call 48; refine (vecPolys_any p n o v _ fss _ HR.out HFLs.out HVL.out).mono ?_; rintro e w4 ⟨rfl, hb4⟩; have HB4 := hid (HBR.out.trans (hb4.mono HBR.out.size)); clear hb4)
              go_ret
              exact ⟨ret_int (by rw [HE3.out, HER.out, if_neg HZ.out]), HB3.out.trans (HB4.out.mono HB3.out.size)⟩
          · go_wp2
            go_ret
            exact ⟨ret_int (by rw [HE3.out, HER0.out, List.drop_eq_nil_of_le (by omega)]; rfl), HB3.out.trans (HBR.out.mono HB3.out.size)⟩
      · rw [hun] at HCU
        have HE3 : Hid (errAlike p n o v vss = 1) := by show _ = _; rw [HE2.out, if_pos hun]
        clear hun
        clear HE HE2
        go_wp2_with fail
        refine HCB.out.mono ?_
        rw [HAB.out]
        rintro e w4 ⟨rfl, rfl⟩
        go_wp2_with fail
        refine HCU.out.mono ?_
        rintro e w4 ⟨rfl, rfl⟩
        go_wp2_with fail
        go_ret
        exact ⟨ret_int HE3.out.symm, HB3.out⟩
    · have HE3 : Hid (errAlike p n o v vss = 3) := by show _ = _; rw [HE.out, if_pos hab]
      clear HE
      go_wp2_with (go_at_call 89; refine (containsBad_any _ vss _ hm HS3.out).mono ?_; rw [hab]; rintro e w' ⟨rfl, rfl⟩)
      go_ret
      exact ⟨ret_int HE3.out.symm, HB3.out⟩
  · have HE : Hid (errAlike p n o v vss = errR p n o v) := by show _ = _; unfold errAlike; rw [if_pos (by simpa using hR)]
    rw [HE.out]
    go_enter Tryz.func52, Tryz.ntmps52
    go_wp2_with fail
    try rw [← hw2]
    refine (ring_any p n o v w2).mono ?_
    rintro e w3 ⟨rfl, hb3⟩
    have HB3 := hid (HB2.out.trans (hb3.mono HB2.out.size))
    clear hb3
    go_wp2
    go_ret
    exact ⟨rfl, HB3.out⟩

end Go.Proofs.YtkmjmmnnnbjghaaGreat

/- vector.each. -/
namespace Go.Proofs.YtkmjmmnnnbjghaaGreat
set_option linter.unusedSimpArgs false
set_option linter.unusedVariables false
open Go.RowKit

theorem slk_full {w : World} {B g n : Nat} {T : TypeId} {xs : List Value} (h : w.ownsRow B T 1 (.slice (some ⟨g, 0, none⟩) n n) n xs) (hs : ∀ u ∈ xs, ∃ a n c, u = .slice a n c) : SlK w g := by
  rcases h.2 with ⟨h1, _⟩ | ⟨g', cap, cur, h1, hb, hg, hn, hm, hcs, ht⟩
  · simp at h1
  · simp only [Value.slice.injEq, Option.some.injEq, Addr.mk.injEq, and_true, true_and] at h1
    obtain ⟨rfl, rfl⟩ := h1
    refine slk_row hg (fun u hu => hs u ?_)
    rw [← ht, List.take_of_length_le (by rw [Array.length_toList, hcs]; exact Nat.le_refl _)]
    exact hu
/-- A row of n polynomials, the first ones of which are made. -/
structure VHalf (w wr : World) (g n : Nat) (us : List Value) (fss : List (List Tm)) : Prop where
  own : ∃ rest, wr.ownsRow w.heap.size 54 1 (.slice (some ⟨g, 0, none⟩) n n) n (us ++ rest) ∧ (us ++ rest).length = n ∧ ∀ u ∈ us ++ rest, ∃ a n c, u = .slice a n c
  len : us.length = fss.length
  pls : ∀ i, i < fss.length → Pl wr (us.getD i nilV) (fss.getD i [])
  below : Below w.heap.size w wr
  ge : w.heap.size ≤ g
theorem VHalf.next {w wr w' : World} {g n : Nat} {us : List Value} {fss : List (List Tm)} (h : VHalf w wr g n us fss) (hb : Below wr.heap.size wr w') : VHalf w w' g n us fss := by
  obtain ⟨rest, h1, h2, h3⟩ := h.own
  exact ⟨⟨rest, ownBlock_lt h1 hb, h2, h3⟩, h.len, fun i hi => (h.pls i hi).below hb, h.below.trans (hb.mono h.below.size), h.ge⟩
theorem VHalf.cells {w wr : World} {g n : Nat} {us : List Value} {fss : List (List Tm)} (h : VHalf w wr g n us fss) (hk : us.length < n) :
    ∃ a, wr.cell? ⟨g, us.length, none⟩ = some a ∧ wr.frozen? ⟨g, us.length, none⟩ = false := by
  obtain ⟨rest, h1, h2, _⟩ := h.own
  have e1 := h1.cellAt us.length (by omega)
  rw [List.getElem?_eq_getElem (by omega)] at e1
  exact ⟨_, e1, h1.frozenAt _⟩
theorem set_one (l : List Value) (a : Value) : ∀ r : List Value, 1 ≤ r.length → (l ++ r).set l.length a = l ++ [a] ++ r.drop 1
  | [], h => by simp at h
  | x :: r, _ => by simp [List.set_append_right]
/-- The next one is laid. -/
theorem VHalf.put {w wr : World} {g n : Nat} {us : List Value} {fss : List (List Tm)} (h : VHalf w wr g n us fss) (hk : us.length < n) (u : Value) (f : List Tm) (hu : Pl wr u f) :
    VHalf w (wr.setCell ⟨g, us.length, none⟩ u) g n (us ++ [u]) (fss ++ [f]) := by
  obtain ⟨rest, h1, h2, h3⟩ := h.own
  have s1 := h1.stored us.length u
  have hk2 := slk_full h1 h3
  have hus : ∃ a n c, u = .slice a n c := by obtain ⟨a, c, e, _⟩ := hu; exact ⟨_, _, _, e⟩
  rw [List.length_append] at h2
  have e := set_one us u rest (by omega)
  refine ⟨⟨rest.drop 1, by rw [← e]; exact s1.1, by rw [List.length_append, List.length_append, List.length_drop]; simp; omega, fun x hx => ?_⟩, by simp [h.len], fun i hi => ?_, h.below.trans (grown_below s1.2 h.ge h.below.size), h.ge⟩
  · rcases List.mem_append.1 hx with hx | hx
    · rcases List.mem_append.1 hx with hx | hx
      · exact h3 x (List.mem_append.2 (Or.inl hx))
      · rw [List.mem_singleton] at hx; rw [hx]; exact hus
    · exact h3 x (List.mem_append.2 (Or.inr (List.mem_of_mem_drop hx)))
  · rw [List.length_append] at hi
    simp only [List.length_cons, List.length_nil] at hi
    rcases Nat.lt_or_ge i fss.length with hl | hl
    · have e1 : (us ++ [u]).getD i nilV = us.getD i nilV := by simp [List.getD_eq_getElem?_getD, List.getElem?_append_left (show i < us.length by rw [h.len]; exact hl)]
      have e2 : (fss ++ [f]).getD i [] = fss.getD i [] := by simp [List.getD_eq_getElem?_getD, List.getElem?_append_left hl]
      rw [e1, e2]
      exact pl_keep hk2 s1.2 (h.pls i hl)
    · have e : i = fss.length := by omega
      subst e
      have e1 : (us ++ [u]).getD fss.length nilV = u := by rw [← h.len]; simp [List.getD_eq_getElem?_getD]
      have e2 : (fss ++ [f]).getD fss.length [] = f := by simp [List.getD_eq_getElem?_getD]
      rw [e1, e2]
      exact pl_keep hk2 s1.2 hu
theorem VHalf.done {w wr : World} {g n : Nat} {us : List Value} {fss : List (List Tm)} (h : VHalf w wr g n us fss) (hn : us.length = n) : Vl wr (.slice (some ⟨g, 0, none⟩) n n) fss := by
  obtain ⟨rest, h1, h2, _⟩ := h.own
  have hlt := (World.ownsRow.lt h1 g rfl).2
  refine ⟨_, n, by rw [← h.len, hn], fun _ => ⟨g, 0, rfl, hlt, fun i hi => ⟨us.getD i nilV, ?_, h.pls i hi⟩⟩⟩
  have hi2 : i < us.length := by rw [h.len]; exact hi
  rw [Nat.zero_add, h1.cellAt i (by omega), List.getElem?_append_left hi2]
  simp [List.getD_eq_getElem?_getD, hi2]
theorem VHalf.made {w w' : World} {n : Nat} (h : w'.ownsRow w.heap.size 54 1 (.slice (some ⟨w.heap.size, 0, none⟩) n n) n (madeCells (Value.cells (.slice none 0 0)) (n * 1)).toList) (hg : w.grownBy w' none) : VHalf w w' w.heap.size n [] [] := by
  refine ⟨⟨_, h, by simp [size_madeCells], fun u hu => ?_⟩, rfl, fun i hi => by simp at hi, ⟨hg.os, hg.tape, hg.output, hg.size, fun k hk => hg.block k hk (by simp)⟩, Nat.le_refl _⟩
  simp [madeCells, Value.cells] at hu
  obtain ⟨l, _, hx⟩ := hu
  rw [Nat.mod_one] at hx
  exact ⟨none, 0, 0, by rw [← hx]; rfl⟩
def eachR (E : Nat → Int) (R : Nat → List Tm) (n : Nat) : List (List Tm) := if firstN E n 0 = 0 then (List.range n).map R else []
theorem eachR_ok {E : Nat → Int} {R : Nat → List Tm} {n : Nat} (h : firstN E n 0 = 0) : eachR E R n = (List.range n).map R := by unfold eachR; rw [if_pos h]
theorem eachR_bad {E : Nat → Int} {R : Nat → List Tm} {n : Nat} (h : firstN E n 0 ≠ 0) : eachR E R n = [] := by unfold eachR; rw [if_neg h]
theorem range_snoc {α : Type} (R : Nat → α) (k : Nat) : (List.range (k + 1)).map R = (List.range k).map R ++ [R k] := by
  rw [List.range_succ, List.map_append]; rfl

set_option maxRecDepth 100000 in
set_option maxHeartbeats 2000000 in
theorem eachA_any (rb wb : Nat) (x : Value) (fss : List (List Tm)) (E : Nat → Int) (R : Nat → List Tm) (w : World) (hm : fss.length ≤ 1000) (pf : Vl w x fss)
    (H : ∀ i w' fa fc, i < fss.length → Below w.heap.size w w' → Pl w' (.slice fa (fss.getD i []).length fc) (fss.getD i []) → Calls Tryz.prog 53 #[.int .i64 i, .slice fa (fss.getD i []).length fc, .pointer (some ⟨rb, 0, none⟩), .pointer (some ⟨wb, 0, none⟩)] w' fun e w'' => ∃ u, e = .returned (.tuple #[u, .int .i64 (E i)]) ∧ Pl w'' u (R i) ∧ Below w'.heap.size w' w'') :
    Calls Tryz.prog 49 #[x, .func (.func 53) #[] #[.pointer (some ⟨rb, 0, none⟩), .pointer (some ⟨wb, 0, none⟩)]] w fun e w' => ∃ u, e = .returned (.tuple #[u, .int .i64 (firstN E fss.length 0)]) ∧ Vl w' u (eachR E R fss.length) ∧ Below w.heap.size w w' := by
  have HX := hid pf
  have HH := hid H
  obtain ⟨ax, cx, rfl, _⟩ := pf
  obtain ⟨i0, hi, hz0, hz1, hz2⟩ := info_parts Tryz.infoPolyW
  clear H
  go_enter Tryz.func49, Tryz.ntmps49
  go_wp2_with (at_make; refine wpList_make_full _ rfl _ _ 25 rfl w.heap.size 54 i0 _ 1 Tryz.underlying25 hi hz0 hz1 .i64 .i64 _ _ fss.length rfl rfl rfl rfl (by rw [hz2]; omega) (by unfold maxLen; omega) (Nat.le_refl _) ?_; intro w1 hown hgrow; have HV0 := hid (VHalf.made hown hgrow); clear hown hgrow)
  clear hi hz0 hz1 hz2
  go_loopw [16] (fun i wr => ∃ (k : Nat) (us : List Value), k ≤ fss.length ∧ i = .int .i64 k ∧ us.length = k ∧ (∀ j, j < k → E j = 0) ∧ VHalf w wr w.heap.size fss.length us ((List.range k).map R)) (fun i _ => fss.length - (intOf i).toNat)
  case atStart => exact ⟨0, [], Nat.zero_le _, rfl, rfl, fun j hj => by omega, HV0.out⟩
  case round =>
    clear HV0
    obtain ⟨k, us, hk, rfl, hul, hz, hv⟩ := hrel
    have HZ := hid hz
    have HV := hid hv
    have HUL := hid hul
    clear hz hv hul
    by_cases hk2 : k < fss.length
    · obtain ⟨b, off, fa, fc, rfl, hlt, c0, hpf⟩ := vl_at HX.out k hk2
      have d0 := cell_keep c0 HV.out.below
      have HC := hid (HH.out k wr fa fc hk2 HV.out.below (hpf.below HV.out.below))
      have HHIT := hid (fun h => firstN_hit (E := E) hk2 HZ.out h)
      generalize fss.getD k [] = f at c0 d0 hpf HC
      clear c0 hpf
      cases he : (E k != 0)
      · have HE0 : Hid (E k = 0) := by simpa [Hid] using he
        go_wp2_with (go_at_call 53; refine HC.out.mono ?_; rintro e w2 ⟨u, rfl, hu, hb2⟩; have HV2 := hid (HV.out.next hb2); have HU := hid hu; obtain ⟨ua, uc, rfl, _, _⟩ := hu; obtain ⟨ov, x0, x1⟩ := HV2.out.cells (by have := HUL.out; omega); rw [HUL.out] at x0 x1; clear hb2)
        go_roundw
        case rel =>
          refine ⟨k + 1, us ++ [.slice ua (R k).length uc], by omega, by go_num, by rw [len_snoc, HUL.out], fun j hj => ?_, ?_⟩
          · rcases Nat.lt_or_ge j k with h | h
            · exact HZ.out j h
            · rw [show j = k by omega]; exact HE0.out
          · rw [range_snoc]
            have h := HV2.out.put (by have := HUL.out; omega) _ _ HU.out
            rw [HUL.out] at h
            exact h
        case measure => simp [intOf]; omega
      · have HF : Hid (firstN E fss.length 0 = E k) := HHIT.out (by simpa using he)
        have HNE : Hid (E k ≠ 0) := by simpa [Hid] using he
        go_wp2_with (go_at_call 53; refine HC.out.mono ?_; rintro e w2 ⟨u, rfl, hu, hb2⟩; have HV2 := hid (HV.out.next hb2); obtain ⟨ua, uc, rfl, _, _⟩ := hu; clear hb2)
        go_ret2
        refine ⟨.slice none 0 0, by rw [HF.out]; rfl, ?_, HV2.out.below⟩
        rw [eachR_bad (by rw [HF.out]; exact HNE.out)]
        exact ⟨none, 0, rfl, fun h => by simp at h⟩
    · have e : k = fss.length := by omega
      subst e
      have HF : Hid (firstN E fss.length 0 = 0) := firstN_all HZ.out
      have HD := hid (HV.out.done HUL.out)
      go_wp2
      go_ret2
      refine ⟨.slice (some ⟨w.heap.size, 0, none⟩) fss.length fss.length, by rw [HF.out]; rfl, ?_, HV.out.below⟩
      rw [eachR_ok HF.out]
      exact HD.out

end Go.Proofs.YtkmjmmnnnbjghaaGreat

/- VGreat, SameVector of the reference; vectorIs. -/
namespace Go.Proofs.YtkmjmmnnnbjghaaGreat
set_option linter.unusedSimpArgs false
set_option linter.unusedVariables false
open Go.RowKit

def OkP (ws : List Tm) : Prop := ws.length ≤ 2400000000000 ∧ ∀ t ∈ ws, 0 < t.2.length ∧ t.2.length ≤ 3 ∧ ∀ x ∈ t.2, 0 ≤ x ∧ x ≤ 40000
theorem any_takeP (f : List Tm → Bool) (fss : List (List Tm)) (k : Nat) (h : k < fss.length) (h0 : (fss.take k).any f = false) (h1 : f (fss.getD k []) = false) : (fss.take (k + 1)).any f = false := by
  rw [take_snocL _ _ h, List.any_append, h0]; simpa using h1
theorem any_atP (f : List Tm → Bool) (fss : List (List Tm)) (k : Nat) (h : k < fss.length) (h1 : f (fss.getD k []) = true) : fss.any f = true := by
  rw [List.any_eq_true]; exact ⟨_, getD_memL fss k h, h1⟩

set_option maxRecDepth 100000 in
set_option maxHeartbeats 1000000 in
theorem vgreat_any (x : Value) (fss : List (List Tm)) (w : World) (hm : fss.length ≤ 1000) (hf : ∀ f ∈ fss, OkP f) (pf : Vl w x fss) :
    Calls Tryz.prog 10 #[x] w fun e w' => e = .returned (.bool (fss.any greatB)) ∧ w' = w := by
  have HX := hid pf
  have HF := hid hf
  obtain ⟨ax, cx, rfl, _⟩ := pf
  clear hf
  go_enter Tryz.func10, Tryz.ntmps10
  go_wp2
  go_loop [3] (fun i => ∃ k : Nat, k ≤ fss.length ∧ i = .int .i64 k ∧ (fss.take k).any greatB = false) (fun i => fss.length - (intOf i).toNat)
  case atStart => exact ⟨0, Nat.zero_le _, rfl, by simp⟩
  case round =>
    obtain ⟨k, hk, rfl, hn⟩ := hrel
    have HN := hid hn
    clear hn
    by_cases hk2 : k < fss.length
    · obtain ⟨b, off, fa, fc, rfl, hlt, c0, hpf⟩ := vl_at HX.out k hk2
      have H1 := hid (any_takeP greatB fss k hk2 HN.out)
      have H2 := hid (any_atP greatB fss k hk2)
      have HK := hid (HF.out _ (getD_memL fss k hk2))
      generalize fss.getD k [] = f at c0 hpf H1 H2 HK
      have HG := hid (great_any _ f w HK.out.1 HK.out.2 hpf)
      clear hpf
      cases hg : greatB f
      · go_wp2_with (go_at_call 40; refine HG.out.mono ?_; rw [hg]; rintro e w' ⟨rfl, rfl⟩)
        go_round
        case rel => exact ⟨k + 1, by omega, by go_num, H1.out hg⟩
        case measure => simp [intOf]; omega
      · go_wp2_with (go_at_call 40; refine HG.out.mono ?_; rw [hg]; rintro e w' ⟨rfl, rfl⟩)
        go_ret
        exact ⟨ret_bool (H2.out hg).symm, rfl⟩
    · go_wp2
      go_ret
      refine ⟨ret_bool ?_, rfl⟩
      have h := HN.out
      rw [List.take_of_length_le (by omega)] at h
      exact h.symm

set_option maxRecDepth 100000 in
set_option maxHeartbeats 1000000 in
theorem sameVector_any (x y : Value) (fss : List (List Tm)) (w : World) (hm : fss.length ≤ 1000) (hf : ∀ f ∈ fss, OkP f) (pf : Vl w x fss) (pg : Vl w y fss) :
    Calls Tryz.prog 12 #[x, y] w fun e w' => e = .returned (.bool true) ∧ Below w.heap.size w w' := by
  have HX := hid pf
  have HY := hid pg
  have HF := hid hf
  obtain ⟨ax, cx, rfl, _⟩ := pf
  obtain ⟨ay, cy, rfl, _⟩ := pg
  clear hf
  go_enter Tryz.func12, Tryz.ntmps12
  go_wp2
  go_loopw [5] (fun i wr => ∃ k : Nat, k ≤ fss.length ∧ i = .int .i64 k ∧ Below w.heap.size w wr) (fun i _ => fss.length - (intOf i).toNat)
  case atStart => exact ⟨0, Nat.zero_le _, rfl, Below.refl _ _⟩
  case round =>
    obtain ⟨k, hk, rfl, hbr⟩ := hrel
    have HBR := hid hbr
    clear hbr
    by_cases hk2 : k < fss.length
    · obtain ⟨b, off, fa, fc, rfl, hlt, c0, hpf⟩ := vl_at HX.out k hk2
      obtain ⟨b2, off2, ga, gc, rfl, hlt2, d0, hpg⟩ := vl_at HY.out k hk2
      have HK := hid (HF.out _ (getD_memL fss k hk2))
      generalize fss.getD k [] = f at c0 hpf d0 hpg HK
      have HPF := hid (hpf.below HBR.out)
      have HPG := hid (hpg.below HBR.out)
      have k0 := cell_keep c0 HBR.out
      have k1 := cell_keep d0 HBR.out
      have KEEP : Hid (∀ W, Below wr.heap.size wr W → (Hid (Below wr.heap.size wr W) ∧ W.cell? ⟨b, off + k, none⟩ = some (.slice fa f.length fc) ∧ W.cell? ⟨b2, off2 + k, none⟩ = some (.slice ga f.length gc))) :=
        fun W hb => ⟨hb, cell_keep k0 hb, cell_keep k1 hb⟩
      have HB0 : Hid (Below wr.heap.size wr wr.drew) := (Below.refl _ _).drew
      have HL3 := hid (fun t ht => (HK.out.2 t ht).2.1)
      clear c0 d0 hpf hpg
      go_wp2_with fail
      go_region_held (fun W => Hid (Below wr.heap.size wr W) ∧ W.cell? ⟨b, off + k, none⟩ = some (.slice fa f.length fc) ∧ W.cell? ⟨b2, off2 + k, none⟩ = some (.slice ga f.length gc))
        (first | exact KEEP.out _ HB0.out | exact KEEP.out _ (HB0.out.trans (hb9.mono HB0.out.size)))
        (first | (go_at_call 44; refine (samePoly_any _ _ f f _ HK.out.1 HL3.out ?_ ?_).mono ?_; exact HPF.out.below HB0.out; exact HPG.out.below HB0.out; rw [decide_eq_true rfl]; rintro e w9 ⟨rfl, hb9⟩))
      have HB9 := hid (show Below wr.heap.size wr w9 from HB0.out.trans (hb9.mono HB0.out.size))
      clear hb9
      go_wp2_with fail
      go_roundw
      case rel => exact ⟨k + 1, by omega, by go_num, HBR.out.trans (HB9.out.mono HBR.out.size)⟩
      case measure => simp [intOf]; omega
    · go_wp2
      go_ret
      exact ⟨rfl, HBR.out⟩

def visE (E : Int) (wss : List (List Tm)) : Int := if E ≠ 0 then E else if wss.any greatB then 2 else 0
def visR (E : Int) (wss : List (List Tm)) : List (List Tm) := if visE E wss = 0 then wss else []
theorem Vl.empty (w : World) : Vl w (.slice none 0 0) [] := ⟨none, 0, rfl, fun h => absurd h (by simp)⟩

end Go.Proofs.YtkmjmmnnnbjghaaGreat

/- vector.Check, Add, Scale. -/
namespace Go.Proofs.YtkmjmmnnnbjghaaGreat
set_option linter.unusedSimpArgs false
set_option linter.unusedVariables false
open Go.RowKit

set_option maxRecDepth 100000 in
set_option maxHeartbeats 2000000 in
theorem vecCheck_any (p n o v rank : Int) (lv : Value) (vss : List (List (List Tm))) (w : World) (hs : Wl w lv vss) :
    Calls Tryz.prog 47 #[ringV p n o v, .int .i64 rank, lv] w fun e w' => e = .returned (.int .i64 (errVecs p n o v rank vss)) ∧ Below w.heap.size w w' := by
  have HS := hid hs
  obtain ⟨la, lc, rfl, _⟩ := hs
  cases hR : (errR p n o v != 0)
  · have hR0 : errR p n o v = 0 := by simpa using hR
    have HR := hid hR0
    have HE : Hid (errVecs p n o v rank vss = errList p n o rank vss) := by show _ = _; unfold errVecs; rw [if_neg (by simpa using hR0)]
    clear hR0
    cases hbt : betweenB rank 1 40
    · have HE2 : Hid (errVecs p n o v rank vss = 3) := by show _ = _; rw [HE.out]; unfold errList; rw [if_pos hbt]
      rw [HE2.out]
      go_enter Tryz.func47, Tryz.ntmps47
      go_wp2_with (first
        | (go_at_call 84; refine (ring_any _ _ _ _ _).mono ?_; rintro e w1 ⟨rfl, hb1⟩; have HB1 := hid (show Below w.heap.size w w1 from below_oneG.trans (hb1.mono (by simp))); clear hb1)
        | (go_at_call 85; refine (isRank_any _ _).mono ?_; rw [hbt]; rintro e w' ⟨rfl, rfl⟩))
      go_ret
      exact ⟨rfl, HB1.out⟩
    · by_cases hlen : 60 < vss.length
      · have HE2 : Hid (errVecs p n o v rank vss = 2) := by show _ = _; rw [HE.out]; unfold errList; rw [if_neg (by rw [hbt]; simp), if_pos hlen]
        rw [HE2.out]
        go_enter Tryz.func47, Tryz.ntmps47
        go_wp2_with (first
          | (go_at_call 84; refine (ring_any _ _ _ _ _).mono ?_; rintro e w1 ⟨rfl, hb1⟩; have HB1 := hid (show Below w.heap.size w w1 from below_oneG.trans (hb1.mono (by simp))); clear hb1)
          | (go_at_call 85; refine (isRank_any _ _).mono ?_; rw [hbt]; rintro e w' ⟨rfl, rfl⟩))
        go_ret
        exact ⟨rfl, HB1.out⟩
      · have HE2 : Hid (errVecs p n o v rank vss = firstZ (errVec p n o rank) vss) := by show _ = _; rw [HE.out]; unfold errList; rw [if_neg (by rw [hbt]; simp), if_neg hlen]
        rw [HE2.out]
        have HRK : Hid (1 ≤ rank ∧ rank ≤ 40) := by simpa [betweenB, Hid] using hbt
        clear HE HE2
        go_enter Tryz.func47, Tryz.ntmps47
        go_wp2_with fail
        refine (ring_any _ _ _ _ _).mono ?_
        rintro e w1 ⟨rfl, hb1⟩
        have HB1 := hid (show Below w.heap.size w w1 from below_oneG.trans (hb1.mono (by simp)))
        have HBX := hid ((BoxAt.new w p n o v 23).below hb1)
        clear hb1
        go_wp2_with fail
        refine (isRank_any _ _).mono ?_
        rw [hbt]
        rintro e w2 ⟨rfl, rfl⟩
        have HS1 := hid (HS.out.below HB1.out)
        go_wp2_with fail
        obtain ⟨wo, hwo⟩ : ∃ wo, wo = w2 := ⟨_, rfl⟩
        subst hwo
        clear hbt
        go_loopw [24] (fun i wr => ∃ k : Nat, k ≤ vss.length ∧ i = .int .i64 k ∧ firstZ (errVec p n o rank) vss = firstZ (errVec p n o rank) (vss.drop k) ∧ Below wo.heap.size wo wr) (fun i _ => vss.length - (intOf i).toNat)
        case atStart => exact ⟨0, Nat.zero_le _, rfl, rfl, Below.refl _ _⟩
        case round =>
          obtain ⟨k, hk, rfl, her, hbr⟩ := hrel
          have HBR := hid hbr
          have HER0 := hid her
          clear hbr her
          by_cases hk2 : k < vss.length
          · have HER := hid (HER0.out.trans (firstZ_drop (errVec p n o rank) vss k hk2))
            obtain ⟨b, off, va, vc, rfl, hlt, c0, hvl⟩ := wl_at HS1.out k hk2
            generalize vss.getD k [] = fss at c0 hvl HER
            have HVL := hid (hvl.below HBR.out)
            have d0 := cell_keep c0 HBR.out
            obtain ⟨_, bx0, bx1, bx2, bx3⟩ := HBX.out.below HBR.out
            clear c0 hvl
            cases hln : ((fss.length : Int) != rank)
            · have hrk : (fss.length : Int) = rank := by simpa using hln
              subst hrk
              have HEV : Hid (errVec p n o (fss.length : Int) fss = firstOne p n o fss) := by show _ = _; unfold errVec; rw [if_neg (by simp)]
              have hf40 : fss.length ≤ 40 := by have := HRK.out; omega
              have HVP := hid (vecPolys_any p n o v _ fss wr HR.out (by omega) HVL.out)
              clear hln
              cases hz : (firstOne p n o fss != 0)
              · have HZ : Hid (firstOne p n o fss = 0) := by simpa [Hid] using hz
                go_wp2_with (go_at_call 48; refine HVP.out.mono ?_; rintro e w4 ⟨rfl, hb4⟩; have HB4 := hid (HBR.out.trans (hb4.mono HBR.out.size)); clear hb4)
                go_roundw
                case rel => exact ⟨k + 1, by omega, by go_num, by rw [HER.out, HEV.out, if_pos HZ.out], HB4.out⟩
                case measure => simp [intOf]; omega
              · have HZ : Hid (firstOne p n o fss ≠ 0) := by simpa [Hid] using hz
                go_wp2_with (go_at_call 48; refine HVP.out.mono ?_; rintro e w4 ⟨rfl, hb4⟩; have HB4 := hid (HBR.out.trans (hb4.mono HBR.out.size)); clear hb4)
                go_ret
                exact ⟨ret_int (by rw [HER.out, HEV.out, if_neg HZ.out]), HB1.out.trans (HB4.out.mono HB1.out.size)⟩
            · have HEV : Hid (errVec p n o rank fss = 1) := by show _ = _; unfold errVec; rw [if_pos (by simpa using hln)]
              go_wp2_with fail
              go_ret
              exact ⟨ret_int (by rw [HER.out, HEV.out]; simp), HB1.out.trans (HBR.out.mono HB1.out.size)⟩
          · go_wp2
            go_ret
            exact ⟨ret_int (by rw [HER0.out, List.drop_eq_nil_of_le (by omega)]; rfl), HB1.out.trans (HBR.out.mono HB1.out.size)⟩
  · have HE : Hid (errVecs p n o v rank vss = errR p n o v) := by show _ = _; unfold errVecs; rw [if_pos (by simpa using hR)]
    rw [HE.out]
    go_enter Tryz.func47, Tryz.ntmps47
    go_wp2_with (go_at_call 84; refine (ring_any _ _ _ _ _).mono ?_; rintro e w1 ⟨rfl, hb1⟩; have HB1 := hid (show Below w.heap.size w w1 from below_oneG.trans (hb1.mono (by simp))); clear hb1)
    go_ret
    exact ⟨rfl, HB1.out⟩

/-! What each tells of sums that may be too great. -/
def grE (zs : List (List Tm)) (i : Nat) : Int := if greatB (zs.getD i []) then 2 else 0
def grR (zs : List (List Tm)) (i : Nat) : List Tm := if greatB (zs.getD i []) then [] else zs.getD i []
theorem grE_first (zs : List (List Tm)) : ∀ (m k : Nat), k + m = zs.length → firstN (grE zs) m k = if (zs.drop k).any greatB then 2 else 0
  | 0, k, h => by rw [List.drop_eq_nil_of_le (by omega)]; rfl
  | m + 1, k, h => by
    have hk : k < zs.length := by omega
    have hu : firstN (grE zs) (m + 1) k = if grE zs k ≠ 0 then grE zs k else firstN (grE zs) m (k + 1) := rfl
    have e : zs.getD k [] = zs[k] := by simp [List.getD_eq_getElem?_getD, hk]
    rw [hu, grE_first zs m (k + 1) (by omega), List.drop_eq_getElem_cons hk, List.any_cons]
    unfold grE
    rw [e]
    cases hg : greatB zs[k] <;> simp
theorem gr_vis (zs : List (List Tm)) : firstN (grE zs) zs.length 0 = visE 0 zs ∧ eachR (grE zs) (grR zs) zs.length = visR 0 zs := by
  have h := grE_first zs zs.length 0 (by omega)
  rw [List.drop_zero] at h
  have e1 : firstN (grE zs) zs.length 0 = visE 0 zs := by rw [h]; unfold visE; simp
  refine ⟨e1, ?_⟩
  unfold eachR visR
  rw [e1]
  by_cases hz : visE 0 zs = 0
  · rw [if_pos hz, if_pos hz]
    have hany : zs.any greatB = false := by
      unfold visE at hz
      rw [if_neg (by simp)] at hz
      cases hg : zs.any greatB
      · rfl
      · rw [hg] at hz; simp at hz
    apply List.ext_getElem?
    intro i
    by_cases hi : i < zs.length
    · have hn := List.any_eq_false.1 hany _ (List.getElem_mem hi)
      simp [hi, grR, hn]
    · rw [List.getElem?_eq_none (by simp; omega), List.getElem?_eq_none (by omega)]
  · rw [if_neg hz, if_neg hz]
theorem wl_two {w : World} {x y : Value} {fss gss : List (List Tm)} {b c : Nat} (hf : Vl w x fss) (hg : Vl w y gss) (hlt : b < w.heap.size) (c0 : w.cell? ⟨b, 0, none⟩ = some x) (c1 : w.cell? ⟨b, 1, none⟩ = some y) : Wl w (.slice (some ⟨b, 0, none⟩) 2 c) [fss, gss] := by
  refine ⟨_, c, rfl, fun _ => ⟨b, 0, rfl, hlt, fun i hi => ?_⟩⟩
  simp only [List.length_cons, List.length_nil] at hi
  rcases i with _ | _ | i
  · exact ⟨x, c0, hf⟩
  · exact ⟨y, c1, hg⟩
  · omega
theorem wl_one {w : World} {x : Value} {fss : List (List Tm)} {b c : Nat} (hf : Vl w x fss) (hlt : b < w.heap.size) (c0 : w.cell? ⟨b, 0, none⟩ = some x) : Wl w (.slice (some ⟨b, 0, none⟩) 1 c) [fss] := by
  refine ⟨_, c, rfl, fun _ => ⟨b, 0, rfl, hlt, fun i hi => ?_⟩⟩
  simp only [List.length_cons, List.length_nil] at hi
  rcases i with _ | i
  · exact ⟨x, c0, hf⟩
  · omega
/-- What may go together. -/
theorem alike_ok {p n o v : Int} {vss : List (List (List Tm))} (h : errAlike p n o v vss = 0) : errR p n o v = 0 ∧ ∀ fss ∈ vss, (1 ≤ fss.length ∧ fss.length ≤ 40) ∧ fss.length = (vss.getD 0 []).length ∧ ∀ f ∈ fss, errOne p n o f = 0 := by
  unfold errAlike at h
  by_cases hr : errR p n o v = 0
  · rw [if_neg (by simpa using hr)] at h
    cases h1 : vss.any badR
    · rw [h1, if_neg (by simp)] at h
      cases h2 : vss.any (unlV (vss.getD 0 []).length)
      · rw [h2, if_neg (by simp)] at h
        refine ⟨hr, fun fss hf => ?_⟩
        have a1 := List.any_eq_false.1 h1 fss hf
        have a2 := List.any_eq_false.1 h2 fss hf
        simp [badR, betweenB] at a1
        simp only [unlV, decide_eq_true_eq, Decidable.not_not] at a2
        exact ⟨by omega, a2, firstOne_ok (firstZ_ok h fss hf)⟩
      · rw [h2, if_pos rfl] at h; omega
    · rw [h1, if_pos rfl] at h; omega
  · rw [if_pos hr] at h; exact absurd h hr
theorem cur_zero {p n o v : Int} {fss : List (List Tm)} (hR : errR p n o v = 0) (h : ∀ f ∈ fss, errOne p n o f = 0) : cur p n o v fss = 0 := cur_mk (fun f hf => cur_iff.2 ⟨hR, h f hf⟩)
theorem addE_gr {p o : Int} {f g : List Tm} : addE 0 p o f g = if greatB (colL p o (f ++ g)) then 2 else 0 := by unfold addE; simp
theorem addR_gr {p o : Int} {f g : List Tm} : addR 0 p o f g = if greatB (colL p o (f ++ g)) then [] else colL p o (f ++ g) := by
  unfold addR; rw [addE_gr]; cases greatB (colL p o (f ++ g)) <;> simp
theorem mulE_gr {p o : Int} {f g : List Tm} : mulE 0 p o f g = if greatB (colL p o (prodL p f g)) then 2 else 0 := by unfold mulE; simp
theorem mulR_gr {p o : Int} {f g : List Tm} : mulR 0 p o f g = if greatB (colL p o (prodL p f g)) then [] else colL p o (prodL p f g) := by
  unfold mulR; rw [mulE_gr]; cases greatB (colL p o (prodL p f g)) <;> simp

set_option maxRecDepth 100000 in
set_option maxHeartbeats 1000000 in
theorem vaddFn_any (p n o v : Int) (i rb wb : Nat) (fv : Value) (f : List Tm) (ya : Option Addr) (yc : Nat) (gss : List (List Tm)) (w : World) (hi : i < gss.length) (hE : cur p n o v [f, gss.getD i []] = 0) (bx : BoxAt w rb p n o v) (hc : w.cell? ⟨wb, 0, none⟩ = some (.slice ya gss.length yc)) (pf : Pl w fv f) (pg : Vl w (.slice ya gss.length yc) gss) :
    Calls Tryz.prog 53 #[.int .i64 i, fv, .pointer (some ⟨rb, 0, none⟩), .pointer (some ⟨wb, 0, none⟩)] w fun e w' => ∃ u, e = .returned (.tuple #[u, .int .i64 (addE 0 p o f (gss.getD i []))]) ∧ Pl w' u (addR 0 p o f (gss.getD i [])) ∧ Below w.heap.size w w' := by
  have HP := hid pf
  have HT := hid (tells p n o v)
  obtain ⟨b, off, ga, gc, rfl, hlt, c0, hpg⟩ := vl_at pg i hi
  obtain ⟨_, bx0, bx1, bx2, bx3⟩ := bx
  generalize gss.getD i [] = g at c0 hpg hE
  have HG := hid hpg
  have HE := hid hE
  obtain ⟨fa, fc, rfl, _, _⟩ := pf
  have KEEP : Hid (∀ W, Below w.heap.size w W → (Hid (Below w.heap.size w W) ∧ W.cell? ⟨rb, 0, none⟩ = some (.int .i64 p) ∧ W.cell? ⟨rb, 1, none⟩ = some (.int .i64 n) ∧ W.cell? ⟨rb, 2, none⟩ = some (.int .i64 o) ∧ W.cell? ⟨rb, 3, none⟩ = some (.int .i64 v) ∧ W.cell? ⟨wb, 0, none⟩ = some (.slice (some ⟨b, off, none⟩) gss.length yc) ∧ W.cell? ⟨b, off + i, none⟩ = some (.slice ga g.length gc))) :=
    fun W hb => ⟨hb, cell_keep bx0 hb, cell_keep bx1 hb, cell_keep bx2 hb, cell_keep bx3 hb, cell_keep hc hb, cell_keep c0 hb⟩
  have HB0 : Hid (Below w.heap.size w w.drew) := (Below.refl _ _).drew
  clear bx0 bx1 bx2 bx3 hc c0 hpg pg hE
  go_enter Tryz.func53, Tryz.ntmps53
  go_wp2_with fail
  go_region_held (fun W => Hid (Below w.heap.size w W) ∧ W.cell? ⟨rb, 0, none⟩ = some (.int .i64 p) ∧ W.cell? ⟨rb, 1, none⟩ = some (.int .i64 n) ∧ W.cell? ⟨rb, 2, none⟩ = some (.int .i64 o) ∧ W.cell? ⟨rb, 3, none⟩ = some (.int .i64 v) ∧ W.cell? ⟨wb, 0, none⟩ = some (.slice (some ⟨b, off, none⟩) gss.length yc) ∧ W.cell? ⟨b, off + i, none⟩ = some (.slice ga g.length gc))
    (first | exact KEEP.out _ HB0.out | exact KEEP.out _ HB9.out)
    (first | (go_at_call 54; refine (polyAdd_any p n o v _ HT.out _ _ f g _ ?_ ?_).mono ?_; exact HP.out.below HB0.out; exact HG.out.below HB0.out; rw [HE.out]; rintro e w9 ⟨u9, rfl, hu9, hb9⟩; have HU9 := hid hu9; have HB9 := hid (show Below w.heap.size w w9 from HB0.out.trans (hb9.mono HB0.out.size)); obtain ⟨ua9, uc9, rfl, _, _⟩ := hu9; clear hb9))
  go_wp2
  go_ret2
  exact ⟨_, rfl, HU9.out, HB9.out⟩
set_option maxRecDepth 100000 in
set_option maxHeartbeats 1000000 in
theorem vecAdd_any (p n o v : Int) (x y : Value) (fss gss : List (List Tm)) (w : World) (pf : Vl w x fss) (pg : Vl w y gss) :
    Calls Tryz.prog 15 #[ringV p n o v, x, y] w fun e w' => ∃ u, e = .returned (.tuple #[u, .int .i64 (visE (errAlike p n o v [fss, gss]) (sums p o fss gss))]) ∧ Vl w' u (visR (errAlike p n o v [fss, gss]) (sums p o fss gss)) ∧ Below w.heap.size w w' := by
  have HX := hid pf
  have HY := hid pg
  obtain ⟨ax, cx, rfl, _⟩ := pf
  obtain ⟨ay, cy, rfl, _⟩ := pg
  obtain ⟨w2, hw2⟩ : ∃ w2, w2 = (w.alloc (.cells #[.int .i64 p, .int .i64 n, .int .i64 o, .int .i64 v] 23)).alloc (.cells #[.slice ay gss.length cy] 25) := ⟨_, rfl⟩
  have hb2 : Below w.heap.size w w2 := by rw [hw2]; exact below_two
  have hbx : BoxAt w2 w.heap.size p n o v := by rw [hw2]; exact (BoxAt.new w p n o v _).below below_oneG
  have hcf : w2.cell? ⟨w.heap.size + 1, 0, none⟩ = some (.slice ay gss.length cy) := by rw [hw2]; simp [go_sem]
  have HB2 := hid hb2
  have HBX := hid hbx
  have HCF := hid hcf
  have HS2 : Hid (w2.heap.size = w.heap.size + 2) := by show _ = _; rw [hw2]; simp
  have HW2 : Hid (∀ T, Wl (w2.alloc (.cells #[.slice ax fss.length cx, .slice ay gss.length cy] T)) (.slice (some ⟨w2.heap.size, 0, none⟩) 2 2) [fss, gss]) := fun T => wl_two ((HX.out.below hb2).below below_oneG) ((HY.out.below hb2).below below_oneG) (by simp) (by simp [go_sem]) (by simp [go_sem])
  rw [HS2.out] at HW2
  clear hb2 hbx hcf
  cases hz : (errAlike p n o v [fss, gss] != 0)
  · have hz0 : errAlike p n o v [fss, gss] = 0 := by simpa using hz
    obtain ⟨hR, hall⟩ := alike_ok hz0
    obtain ⟨h1, _, h3⟩ := hall fss (by simp)
    obtain ⟨g1, g2, g3⟩ := hall gss (by simp)
    have hl : fss.length = gss.length := by simpa using g2.symm
    have HL := hid hl
    have HZ := hid hz0
    have HV := gr_vis (sums p o fss gss)
    have HK : Hid (∀ i, i < fss.length → cur p n o v [fss.getD i [], gss.getD i []] = 0) := fun i hi => cur_zero hR (fun f hf => by
      simp only [List.mem_cons, List.not_mem_nil, or_false] at hf
      rcases hf with rfl | rfl
      · exact h3 _ (getD_memL fss i hi)
      · exact g3 _ (getD_memL gss i (by omega)))
    have HEI : Hid (∀ i, i < fss.length → addE 0 p o (fss.getD i []) (gss.getD i []) = grE (sums p o fss gss) i ∧ addR 0 p o (fss.getD i []) (gss.getD i []) = grR (sums p o fss gss) i) := fun i hi => by
      unfold grE grR
      rw [sums_at hl hi]
      exact ⟨addE_gr, addR_gr⟩
    have HEA := hid (fun (W : World) (hb : Below w2.heap.size w2 W) => eachA_any w.heap.size (w.heap.size + 1) _ fss (grE (sums p o fss gss)) (grR (sums p o fss gss)) W (by omega) ((HX.out.below HB2.out).below hb) (fun i w' fa fc hi hb' hpf => by
      have h := vaddFn_any p n o v i w.heap.size (w.heap.size + 1) _ (fss.getD i []) ay cy gss w' (by omega) (HK.out i hi) ((HBX.out.below hb).below hb') (cell_keep (cell_keep HCF.out hb) hb') hpf (((HY.out.below HB2.out).below hb).below hb')
      rw [(HEI.out i hi).1, (HEI.out i hi).2] at h
      exact h))
    have hsl := sums_len (p := p) (o := o) hl
    rw [hsl] at HV
    rw [hz0, ← HV.1, ← HV.2]
    have hf40 : fss.length ≤ 40 := h1.2
    clear hR hall h1 h3 g1 g2 g3 hl hz0 HV hsl HK HEI
    obtain ⟨_, bx0, bx1, bx2, bx3⟩ := HBX.out
    have hcf := HCF.out
    go_enter Tryz.func15, Tryz.ntmps15
    go_wp2_with fail
    try rw [← hw2]
    refine (vecAll_any p n o v _ [fss, gss] _ (by simp) (HW2.out _)).mono ?_
    rw [HZ.out]
    rintro e w3 ⟨rfl, hb3⟩
    have HB3 := hid (show Below w2.heap.size w2 w3 from below_oneG.trans (hb3.mono (by simp)))
    clear hb3 bx0 bx1 bx2 bx3 hcf hw2
    go_wp2_with fail
    refine (HEA.out _ HB3.out).mono ?_
    rintro e w4 ⟨u, rfl, hu, hb4⟩
    have HU := hid hu
    have HB4 := hid (HB2.out.trans ((HB3.out.trans (hb4.mono HB3.out.size)).mono HB2.out.size))
    obtain ⟨ua, uc, rfl, _⟩ := hu
    clear hb4
    go_wp2
    go_ret2
    exact ⟨_, rfl, HU.out, HB4.out⟩
  · have hz0 : errAlike p n o v [fss, gss] ≠ 0 := by simpa using hz
    have he : visE (errAlike p n o v [fss, gss]) (sums p o fss gss) = errAlike p n o v [fss, gss] := by unfold visE; rw [if_pos hz0]
    have hr : visR (errAlike p n o v [fss, gss]) (sums p o fss gss) = [] := by unfold visR; rw [he, if_neg hz0]
    rw [he, hr]
    clear he hr hz0
    obtain ⟨_, bx0, bx1, bx2, bx3⟩ := HBX.out
    have hcf := HCF.out
    go_enter Tryz.func15, Tryz.ntmps15
    go_wp2_with fail
    try rw [← hw2]
    refine (vecAll_any p n o v _ [fss, gss] _ (by simp) (HW2.out _)).mono ?_
    rintro e w3 ⟨rfl, hb3⟩
    have HB3 := hid (HB2.out.trans ((show Below w2.heap.size w2 w3 from below_oneG.trans (hb3.mono (by simp))).mono HB2.out.size))
    clear hb3
    go_wp2
    go_ret2
    exact ⟨_, rfl, Vl.empty _, HB3.out⟩

end Go.Proofs.YtkmjmmnnnbjghaaGreat
