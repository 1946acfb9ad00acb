/- What DivideOf's walk needs. -/
import Derived.Test.YtkmjmmnnnbjghaaGreatQO
import Derived.Test.YtkmjmmnnnbjghaaGreatQS
namespace Go.Proofs.YtkmjmmnnnbjghaaGreat
set_option linter.unusedSimpArgs false
set_option linter.unusedVariables false
open Go.RowKit

set_option maxHeartbeats 1000000 in
theorem putOverF_any (xs ys : List Int) (b off cap b2 off2 cap2 : Nat) (w : World) (hm : xs.length ≤ 3) (hxy : xs.length = ys.length)
    (hbx : ∀ x ∈ xs, 0 ≤ x ∧ x ≤ 20000) (hby : ∀ x ∈ ys, 0 ≤ x ∧ x ≤ 20000) (hlt : b < w.heap.size) (hlt2 : b2 < w.heap.size) (hc : IntsAt w b off xs) (hc2 : IntsAt w b2 off2 ys) :
    Calls Tryz.prog 36 #[.slice (some ⟨b, off, none⟩) xs.length cap, .slice (some ⟨b2, off2, none⟩) ys.length cap2, .int .i64 2] w fun e w' =>
      ∃ u, e = .returned u ∧ w'.ownsRow w.heap.size 3 1 u (zipI (· - ·) xs ys).length ((zipI (· - ·) xs ys).map (Value.int .i64)) ∧ Below w.heap.size w w' := by
  have HC := hid hc
  have HC2 := hid hc2
  have HBX := hid hbx
  have HBY := hid hby
  have HLZ := hid (zipI_len (· - ·) xs ys hxy)
  rw [← hxy]
  have HXY := hid hxy
  clear hc hc2 hbx hby hxy
  obtain ⟨i0, hi, hz0, hz1, hz2⟩ := info_parts Tryz.info_int
  go_enter Tryz.func36, Tryz.ntmps36
  go_wp2
  go_loopw [7, 8] (fun v i wr => ∃ k : Nat, k ≤ xs.length ∧ i = .int .i64 k ∧ wr.ownsRow w.heap.size 3 1 v k (((zipI (· - ·) xs ys).take k).map (Value.int .i64)) ∧ Below w.heap.size w wr) (fun _ i _ => xs.length - (intOf i).toNat)
  case atStart => exact ⟨0, Nat.zero_le _, rfl, World.ownsRow_nil _ _ _ _, Below.refl _ _⟩
  case round =>
    obtain ⟨k, hk, rfl, hown, hbr⟩ := hrel
    have HOWN := hid hown
    have HBR := hid hbr
    by_cases hk2 : k < xs.length
    · have hcell := HC.out k hk2
      have hcell2 := HC2.out k (by rw [← HXY.out]; exact hk2)
      have HZ := hid (zipI_at (· - ·) xs ys HXY.out k hk2)
      have hx := HBX.out _ (getD_mem xs k hk2)
      have hy := HBY.out _ (getD_mem ys k (by rw [← HXY.out]; exact hk2))
      generalize xs.getD k 0 = x at hcell HZ hx
      generalize ys.getD k 0 = y at hcell2 HZ hy
      rw [← hbr.cell (p := ⟨b, off + k, none⟩) hlt] at hcell
      rw [← hbr.cell (p := ⟨b2, off2 + k, none⟩) hlt2] at hcell2
      have hsz := hbr.size
      obtain ⟨hx1, hx2⟩ := hx
      obtain ⟨hy1, hy2⟩ := hy
      clear hown hbr
      go_wp2_with (at_builtin; refine wpList_append_own _ rfl _ _ 55 rfl w.heap.size 3 i0 (.int .i64 0) 1 8 Tryz.underlying55 hi hz0 hz1 hz2 rfl (by decide) _ _ _ rfl (HOWN.out.alloc _) ⟨wr.heap.size, 0, none⟩ 1 1 [.int .i64 (x - y)] rfl rfl (cell_one_new _ _ _) (one_cell1 _) (by unfold maxLen; omega) (by omega) (by simp; omega) ?_)
      intro v' w1 hown' hgrow _
      rw [← List.map_take] at hown'
      have R := put_step (zs := zipI (· - ·) xs ys) (by rw [HLZ.out]; exact hk2) (HZ.out.trans rfl) HBR.out HOWN.out hown' hgrow
      have R2 := hid R
      clear hown' hgrow R
      go_wp2
      go_roundw
      case rel => exact ⟨k + 1, by omega, by go_num, R2.out.1, R2.out.2⟩
      case measure => simp [intOf]; omega
    · go_wp2
      go_ret
      have e1 : k = (zipI (· - ·) xs ys).length := by rw [HLZ.out]; omega
      subst e1
      have h2 := HOWN.out
      rw [List.take_of_length_le (Nat.le_refl _)] at h2
      exact ⟨_, rfl, h2, HBR.out⟩

/-- A term of its own block. -/
theorem one_cells (w : World) (c : Int) (ev : Value) (e : List Int) : ∀ i u, (flat [((c, ev, e) : TV)])[i]? = some u → (w.alloc (.cells #[.int .i64 c, ev] 57)).cell? ⟨w.heap.size, 0 + i, none⟩ = some u := by
  intro i u hi
  obtain ⟨h0, h1⟩ := tb_new w c ev
  match i, hi with
  | 0, hi => simp [flat] at hi; subst hi; exact h0
  | 1, hi => simp [flat] at hi; subst hi; exact h1
  | n + 2, hi => simp [flat] at hi
theorem one_pl {w : World} {g : Nat} {c : Int} {ev : Value} {e : List Int} (hlt : g < w.heap.size) (h : TB w g c ev) (hs : Sl w ev e) : Pl w (.slice (some ⟨g, 0, none⟩) 1 1) [(c, e)] :=
  ⟨_, 1, rfl, Nat.le_refl _, fun _ => ⟨g, 0, rfl, hlt, fun i hi => by
    have : i = 0 := by simp at hi; omega
    subst this
    exact ⟨h.1, ev, h.2, hs⟩⟩⟩

theorem col_self {p o : Int} {N : Nat} (hp : 2 ≤ p) {l : List Tm} (h : Canon p o N l) : colL p o l = l :=
  (col_of_canon hp h.len (fun t ht => by have := h.coef t ht; omega) h (fun φ => ⟨0, by omega⟩)).symm
theorem inverseI_any {p a : Int} (hpr : errP p = 0) (ha : 0 < a ∧ a < p) (w : World) : Calls Tryz.prog 35 #[.int .i64 p, .int .i64 a] w fun e w' => e = .returned (.int .i64 (invI p a)) ∧ Below w.heap.size w w' := by
  obtain ⟨hp1, hp2, hd⟩ := errP_ok hpr
  obtain ⟨pn, rfl⟩ : ∃ n : Nat, p = n := ⟨p.toNat, by omega⟩
  obtain ⟨an, rfl⟩ : ∃ n : Nat, a = n := ⟨a.toNat, by omega⟩
  have h := invOk_of (p := pn) (a := an) (by omega) (by omega) (by simpa [primeB] using hd) (by omega) (by omega)
  refine (inverseOf_any pn an w (by omega) (by omega) (by omega) h).mono ?_
  rintro e w' ⟨rfl, n, rfl⟩
  exact ⟨by simp [invI], below_drewN (Below.refl _ _) n⟩
theorem putOverS_any {N : Nat} {xv yv : Value} {xs ys : List Int} (w : World) (hN0 : 0 < N) (hN : N ≤ 3) (lx : xs.length = N) (ly : ys.length = N) (bx : ∀ x ∈ xs, 0 ≤ x ∧ x ≤ 8000) (by' : ∀ x ∈ ys, 0 ≤ x ∧ x ≤ 8000) (hx : Sl w xv xs) (hy : Sl w yv ys) :
    Calls Tryz.prog 36 #[xv, yv, .int .i64 2] w fun e w' => ∃ u, e = .returned u ∧ w'.ownsRow w.heap.size 3 1 u (zipI (· - ·) xs ys).length ((zipI (· - ·) xs ys).map (Value.int .i64)) ∧ Below w.heap.size w w' := by
  obtain ⟨a, c, rfl, ha⟩ := hx
  obtain ⟨a2, c2, rfl, ha2⟩ := hy
  obtain ⟨b, off, rfl, hlt, hc⟩ := ha (by omega)
  obtain ⟨b2, off2, rfl, hlt2, hc2⟩ := ha2 (by omega)
  exact putOverF_any xs ys b off c b2 off2 c2 w (by omega) (by omega) (fun x hx => by have := bx x hx; omega) (fun x hx => by have := by' x hx; omega) hlt hlt2 hc hc2
theorem prods_sm {p o : Int} {N : Nat} (hp : 2 ≤ p) {c : Tm} {g : List (List Tm)} (hc : Rg2 p o N [c]) (hg : ∀ f ∈ g, Right p o N f) : ∀ f ∈ prods p o [c] g, Sm p N f := by
  intro f hf
  unfold prods at hf
  obtain ⟨g2, hg2, rfl⟩ := List.mem_map.1 hf
  have hr := hg g2 hg2
  have htk := prodL_tok hp hc.canon.len hr.canon.len hc.bd hr.bd
  have hcn := col_canon (o := o) hp (n := N) (l := prodL p [c] g2) (fun t ht => (htk t ht).1) (fun t ht => (htk t ht).2.2)
  refine ⟨fun t ht => ?_, ?_⟩
  · obtain ⟨y, hy, ey⟩ := col_mem ht
    have h1 := htk y hy
    exact ⟨hcn.len t ht, by rw [ey]; exact h1.2.1, by have := hcn.coef t ht; omega, (hcn.coef t ht).2⟩
  · have h1 := col_len (p := p) (o := o) (prodL p [c] g2)
    have h2 : (prodL p [c] g2).length = g2.length := by simp [Go.Proofs.YtkmjmmnnnbjghaaGreat.prodL, prodT]
    have h3 := hr.len
    omega

theorem own_past {w : World} {B g : Nat} {T : TypeId} {v : Value} {n : Nat} {xs : List Value} (h : w.ownsRow B T 1 v n xs) (hz : TZ w g) (hg : g < B) (c ev : Value) : ((w.setCell ⟨g, 0, none⟩ c).setCell ⟨g, 1, none⟩ ev).ownsRow B T 1 v n xs := by
  have hne : v.ownBlock ≠ some g := fun e => by have := (World.ownsRow.lt h g e).1; omega
  have s1 := World.ownsRow.stored hz 0 c
  have s2 := s1.1.stored 1 ev
  exact (h.kept s1.2 (Or.inr hne)).kept s2.2 (Or.inr hne)

end Go.Proofs.YtkmjmmnnnbjghaaGreat
