/- Digits, PrintOf of the reference. -/
import Derived.Test.YtilogbggilchaaaDoorPQ
import Derived.Laws.IdiomStrings
namespace Go.Proofs.YtilogbggilchaaaDoor
set_option linter.unusedSimpArgs false
set_option linter.unusedVariables false
open Go.RowKit
theorem digits_step {n : Nat} (h : ¬ n < 10) : Lib.decDigits n = Lib.decDigits (n / 10) ++ Lib.decDigits (n % 10) := by
  rw [Lib.decDigits_one (i := n % 10) (by omega)]
  conv => lhs; rw [Lib.decDigits, dif_neg h]
theorem digs_ne (n : Nat) : Lib.decDigits n ≠ [] := by
  rw [Lib.decDigits]; split <;> simp
theorem conv1 (W : World) (k : Nat) (x : Int) (hx : x = (k : Int)) (hk : k < 256) :
    (convert 75 9 (.slice (some ⟨W.heap.size, 0, none⟩) 1 1)).run Tryd.prog (W.alloc (.cells #[.int .u8 x] 5)) = .ok (.string ⟨#[UInt8.ofNat k]⟩) (W.alloc (.cells #[.int .u8 x] 5)) := by
  have h := run_convert_bytes_back (P := Tryd.prog) (W.alloc (.cells #[.int .u8 x] 5)) 75 9 5 ⟨W.heap.size, 0, none⟩ 1 [UInt8.ofNat k] Tryd.underlying75 Tryd.underlying5 Tryd.underlying9 (fun j hj => by
    have e : j = 0 := by simpa using hj
    subst e
    have e2 : k % 256 = k := Nat.mod_eq_of_lt hk
    simp [Addr.add, go_sem, hx, e2])
  exact h

set_option maxRecDepth 100000 in
set_option maxHeartbeats 1000000 in
theorem digit_any (n : Nat) (w : World) (h10 : n < 10) : Calls Tryd.prog 47 #[.int .i64 n] w fun e w' => e = .returned (mkS (Lib.decDigits n)) ∧ Below w.heap.size w w' := by
  have HD := hid (Lib.decDigits_one h10)
  have hcv := conv1 w (48 + n) (48 + (n : Int)) (by omega) (by omega)
  go_enter Tryd.func47, Tryd.ntmps47
  go_wp2
  go_ret
  have e : UInt8.ofNat (48 + n) = 48 + UInt8.ofNat n := by simp
  exact ⟨by rw [HD.out, e]; rfl, below_oneG⟩

set_option maxRecDepth 100000 in
set_option maxHeartbeats 1000000 in
theorem digits_any : ∀ (K n : Nat) (w : World), n ≤ K → n < 1000 → Calls Tryd.prog 47 #[.int .i64 n] w fun e w' => e = .returned (mkS (Lib.decDigits n)) ∧ Below w.heap.size w w' := by
  intro K
  induction K with
  | zero =>
    intro n w hK hn
    exact digit_any n w (by omega)
  | succ K ih =>
    intro n w hK hn
    by_cases h10 : n < 10
    · exact digit_any n w h10
    · obtain ⟨q, hq⟩ : ∃ q, n / 10 = q := ⟨_, rfl⟩
      obtain ⟨r, hr⟩ : ∃ r, n % 10 = r := ⟨_, rfl⟩
      have hd := digits_step h10
      rw [hq, hr] at hd
      have HD := hid hd
      have H1 := hid (fun W => ih q W (by omega) (by omega))
      have H2 := hid (fun W => digit_any r W (by omega))
      have hqI : (n : Int) / 10 = (q : Int) := by omega
      have hrI : (n : Int) % 10 = (r : Int) := by omega
      have hcat := bs_app (Lib.decDigits q) (Lib.decDigits r)
      have hl1 := digs_len (i := q) (by omega)
      have hl2 := digs_len (i := r) (by omega)
      have hln : ¬ 9223372036854775807 < (Lib.decDigits q).length + (Lib.decDigits r).length := by omega
      clear ih hl1 hl2 hd hq hr
      go_enter Tryd.func47, Tryd.ntmps47
      go_wp2_with fail
      refine (H1.out _).mono ?_
      rintro e w1 ⟨rfl, hb1⟩
      unfold mkS
      go_wp2_with fail
      refine (H2.out _).mono ?_
      rintro e w2 ⟨rfl, hb2⟩
      unfold mkS
      have HB := hid (hb1.trans (hb2.mono hb1.size))
      clear hb1 hb2
      go_wp2
      go_ret
      exact ⟨by rw [HD.out]; rfl, HB.out⟩

theorem join_snoc (l : List (List UInt8)) (x sep : List UInt8) : Lib.join (l ++ [x]) sep = if l = [] then x else Lib.join l sep ++ (sep ++ x) := by
  cases l with
  | nil => simp [Lib.join_one]
  | cons y r =>
    rw [if_neg (by simp), List.cons_append, Lib.join_cons, Lib.join_cons]
    simp [Lib.joinTail]
theorem join_ne {F : List (List UInt8)} {sep : List UInt8} (h : ∀ x ∈ F, x ≠ []) (hF : F ≠ []) : Lib.join F sep ≠ [] := by
  cases F with
  | nil => exact absurd rfl hF
  | cons y r => rw [Lib.join_cons]; have := h y (by simp); simp [this]
theorem powB_ne (k : Nat) (e : Int) : powB k e ≠ [] := by
  have h := varB_len k
  unfold powB
  split
  · intro e; rw [List.append_eq_nil_iff] at e; rw [e.1] at h; simp at h
  · intro e; rw [e] at h; simp at h
theorem pows_ne (es : List Int) : ∀ k, ∀ x ∈ pows es k, x ≠ []
  | 0, x, hx => by simp [pows] at hx
  | k + 1, x, hx => by
    simp only [pows] at hx
    rcases List.mem_append.1 hx with hx | hx
    · exact pows_ne es k x hx
    · split at hx
      · simp at hx
      · rw [List.mem_singleton] at hx; rw [hx]; exact powB_ne _ _
theorem facs_ne (c : Nat) (es : List Int) (k : Nat) : ∀ x ∈ facs c es ++ pows es k, x ≠ [] := by
  intro x hx
  rcases List.mem_append.1 hx with hx | hx
  · unfold facs at hx
    split at hx
    · rw [List.mem_singleton] at hx; rw [hx]; exact digs_ne c
    · simp at hx
  · exact pows_ne es k x hx
def ptx (c : Nat) (es : List Int) (k : Nat) : List UInt8 := Lib.join (facs c es ++ pows es k) [42]
theorem ptx_zero {c : Nat} {es : List Int} {k : Nat} (h : es.getD k 0 = 0) : ptx c es (k + 1) = ptx c es k := by
  unfold ptx; simp only [pows]; rw [if_pos h, List.append_nil]
theorem ptx_step {c : Nat} {es : List Int} {k : Nat} (h : es.getD k 0 ≠ 0) : ptx c es (k + 1) = if ptx c es k = [] then powB k (es.getD k 0) else ptx c es k ++ ([42] ++ powB k (es.getD k 0)) := by
  have e : facs c es ++ pows es (k + 1) = (facs c es ++ pows es k) ++ [powB k (es.getD k 0)] := by
    simp only [pows]; rw [if_neg h, List.append_assoc]
  unfold ptx
  rw [e, join_snoc]
  by_cases hF : facs c es ++ pows es k = []
  · rw [if_pos hF, if_pos (by rw [hF]; rfl)]
  · rw [if_neg hF, if_neg (join_ne (facs_ne c es k) hF)]
theorem ptx_len {c : Nat} {es : List Int} {k : Nat} (hc : c ≤ 101) (h3 : es.length ≤ 3) (he : ∀ e ∈ es, 0 ≤ e ∧ e ≤ 200) (hk : k ≤ es.length) : (ptx c es k).length ≤ 1000 := by
  unfold ptx
  have h0 : ∀ x ∈ facs c es ++ pows es k, x.length ≤ 5 := by
    intro x hx
    rcases List.mem_append.1 hx with hx | hx
    · unfold facs at hx
      split at hx
      · rw [List.mem_singleton] at hx; subst hx
        have := digs_len (i := c) (by omega); omega
      · simp at hx
    · exact pows_mem he k hk x hx
  have h1 := join_le (m := 5) [42] _ h0
  have h2 := pows_len es k
  have h4 : (facs c es).length ≤ 1 := by unfold facs; split <;> simp
  rw [List.length_append] at h1
  simp only [List.length_cons, List.length_nil] at h1
  omega
theorem ptx_all {t : Tm} : ptx t.1.toNat t.2 t.2.length = ptB t := rfl
def stx (fs : List Tm) (k : Nat) : List UInt8 := Lib.join ((fs.take k).map ptB) [32, 43, 32]
def sty (fs : List Tm) (k : Nat) : List UInt8 := if k = 0 then [] else stx fs k ++ [32, 43, 32]
theorem stx_step {fs : List Tm} {k : Nat} (h : k < fs.length) : stx fs (k + 1) = sty fs k ++ ptB (fs.getD k noT) := by
  unfold stx sty
  have e : (fs.take (k + 1)).map ptB = (fs.take k).map ptB ++ [ptB (fs.getD k noT)] := by
    rw [List.take_succ_eq_append_getElem h, List.map_append]
    simp [List.getD_eq_getElem?_getD, h]
  rw [e, join_snoc]
  rcases Nat.eq_zero_or_pos k with rfl | hk
  · simp
  · have hne : (fs.take k).map ptB ≠ [] := by
      intro e2
      have h1 : ((fs.take k).map ptB).length = 0 := by rw [e2]; rfl
      rw [List.length_map, List.length_take] at h1
      omega
    rw [if_neg hne, if_neg (by omega)]
    show _ = (Lib.join ((fs.take k).map ptB) [32, 43, 32] ++ [32, 43, 32]) ++ _
    rw [List.append_assoc]
theorem stx_len {fs : List Tm} (h : ∀ t ∈ fs, (ptB t).length ≤ 1000) (k : Nat) : (stx fs k).length ≤ 1003 * k := by
  unfold stx
  have h1 := join_le (m := 1000) [32, 43, 32] ((fs.take k).map ptB) (fun x hx => by
    obtain ⟨t, ht, rfl⟩ := List.mem_map.1 hx
    exact h t (List.mem_of_mem_take ht))
  have h2 := List.length_take_le k fs
  rw [List.length_map] at h1
  simp only [List.length_cons, List.length_nil] at h1
  omega
theorem varD {k : Nat} (h : k < 3) : [UInt8.ofNat (120 + k)] = varB k := by
  rcases k with _ | _ | _ | k
  · rfl
  · rfl
  · rfl
  · omega
end Go.Proofs.YtilogbggilchaaaDoor
