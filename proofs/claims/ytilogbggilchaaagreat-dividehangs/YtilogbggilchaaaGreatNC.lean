/- What DivideOf's walk needs. -/
import Derived.Test.YtilogbggilchaaaGreatQY
import Derived.Test.YtilogbggilchaaaGreatQN
namespace Go.Proofs.YtilogbggilchaaaGreat
set_option linter.unusedSimpArgs false
set_option linter.unusedVariables false
open Go.RowKit
set_option maxHeartbeats 1000000 in
theorem putOverF_any (xs ys : List Int) (b off cap b2 off2 cap2 : Nat) (w : World) (hm : xs.length ≤ 3) (hxy : xs.length = ys.length)
    (hbx : ∀ x ∈ xs, 0 ≤ x ∧ x ≤ 20000) (hby : ∀ x ∈ ys, 0 ≤ x ∧ x ≤ 20000) (hlt : b < w.heap.size) (hlt2 : b2 < w.heap.size) (hc : IntsAt w b off xs) (hc2 : IntsAt w b2 off2 ys) :
    Calls Tryz.prog 36 #[.slice (some ⟨b, off, none⟩) xs.length cap, .slice (some ⟨b2, off2, none⟩) ys.length cap2, .int .i64 2] w fun e w' =>
      ∃ u, e = .returned u ∧ w'.ownsRow w.heap.size 3 1 u (zipI (· - ·) xs ys).length ((zipI (· - ·) xs ys).map (Value.int .i64)) ∧ Below w.heap.size w w' := by
  have HC := hid hc
  have HC2 := hid hc2
  have HBX := hid hbx
  have HBY := hid hby
  have HLZ := hid (zipI_len (· - ·) xs ys hxy)
  rw [← hxy]
  have HXY := hid hxy
  clear hc hc2 hbx hby hxy
  obtain ⟨i0, hi, hz0, hz1, hz2⟩ := info_parts Tryz.info_int
  go_enter Tryz.func36, Tryz.ntmps36
  go_wp2
  go_loopw [7, 8] (fun v i wr => ∃ k : Nat, k ≤ xs.length ∧ i = .int .i64 k ∧ wr.ownsRow w.heap.size 3 1 v k (((zipI (· - ·) xs ys).take k).map (Value.int .i64)) ∧ Below w.heap.size w wr) (fun _ i _ => xs.length - (intOf i).toNat)
  case atStart => exact ⟨0, Nat.zero_le _, rfl, World.ownsRow_nil _ _ _ _, Below.refl _ _⟩
  case round =>
    obtain ⟨k, hk, rfl, hown, hbr⟩ := hrel
    have HOWN := hid hown
    have HBR := hid hbr
    by_cases hk2 : k < xs.length
    · have hcell := HC.out k hk2
      have hcell2 := HC2.out k (by rw [← HXY.out]; exact hk2)
      have HZ := hid (zipI_at (· - ·) xs ys HXY.out k hk2)
      have hx := HBX.out _ (getD_mem xs k hk2)
      have hy := HBY.out _ (getD_mem ys k (by rw [← HXY.out]; exact hk2))
      generalize xs.getD k 0 = x at hcell HZ hx
      generalize ys.getD k 0 = y at hcell2 HZ hy
      rw [← hbr.cell (p := ⟨b, off + k, none⟩) hlt] at hcell
      rw [← hbr.cell (p := ⟨b2, off2 + k, none⟩) hlt2] at hcell2
      have hsz := hbr.size
      obtain ⟨hx1, hx2⟩ := hx
      obtain ⟨hy1, hy2⟩ := hy
      clear hown hbr
      go_wp2_with (at_builtin; refine wpList_append_own _ rfl _ _ 55 rfl w.heap.size 3 i0 (.int .i64 0) 1 8 Tryz.underlying55 hi hz0 hz1 hz2 rfl (by decide) _ _ _ rfl (HOWN.out.alloc _) ⟨wr.heap.size, 0, none⟩ 1 1 [.int .i64 (x - y)] rfl rfl (cell_one_new _ _ _) (one_cell1 _) (by unfold maxLen; omega) (by omega) (by simp; omega) ?_)
      intro v' w1 hown' hgrow _
      rw [← List.map_take] at hown'
      have R := put_step (zs := zipI (· - ·) xs ys) (by rw [HLZ.out]; exact hk2) (HZ.out.trans rfl) HBR.out HOWN.out hown' hgrow
      have R2 := hid R
      clear hown' hgrow R
      go_wp2
      go_roundw
      case rel => exact ⟨k + 1, by omega, by go_num, R2.out.1, R2.out.2⟩
      case measure => simp [intOf]; omega
    · go_wp2
      go_ret
      have e1 : k = (zipI (· - ·) xs ys).length := by rw [HLZ.out]; omega
      subst e1
      have h2 := HOWN.out
      rw [List.take_of_length_le (Nat.le_refl _)] at h2
      exact ⟨_, rfl, h2, HBR.out⟩

theorem one_cells (w : World) (c : Int) (ev : Value) (e : List Int) : ∀ i u, (flat [((c, ev, e) : TV)])[i]? = some u → (w.alloc (.cells #[.int .i64 c, ev] 57)).cell? ⟨w.heap.size, 0 + i, none⟩ = some u := by
  intro i u hi
  obtain ⟨h0, h1⟩ := tb_new w c ev
  match i, hi with
  | 0, hi => simp [flat] at hi; subst hi; exact h0
  | 1, hi => simp [flat] at hi; subst hi; exact h1
  | n + 2, hi => simp [flat] at hi
theorem one_pl {w : World} {g : Nat} {c : Int} {ev : Value} {e : List Int} (hlt : g < w.heap.size) (h : TB w g c ev) (hs : Sl w ev e) : Pl w (.slice (some ⟨g, 0, none⟩) 1 1) [(c, e)] :=
  ⟨_, 1, rfl, Nat.le_refl _, fun _ => ⟨g, 0, rfl, hlt, fun i hi => by
    have : i = 0 := by simp at hi; omega
    subst this
    exact ⟨h.1, ev, h.2, hs⟩⟩⟩

theorem col_self {p o : Int} {N : Nat} (hp : 2 ≤ p) {l : List Tm} (h : Canon p o N l) : colL p o l = l :=
  (col_of_canon hp h.len (fun t ht => by have := h.coef t ht; omega) h (fun φ => ⟨0, by omega⟩)).symm
theorem inverseI_any {p a : Int} (hpr : errP p = 0) (ha : 0 < a ∧ a < p) (w : World) : Calls Tryz.prog 35 #[.int .i64 p, .int .i64 a] w fun e w' => e = .returned (.int .i64 (invI p a)) ∧ Below w.heap.size w w' := by
  obtain ⟨hp1, hp2, hd⟩ := errP_ok hpr
  obtain ⟨pn, rfl⟩ : ∃ n : Nat, p = n := ⟨p.toNat, by omega⟩
  obtain ⟨an, rfl⟩ : ∃ n : Nat, a = n := ⟨a.toNat, by omega⟩
  have h := invOk_of (p := pn) (a := an) (by omega) (by omega) (by simpa [primeB] using hd) (by omega) (by omega)
  refine (inverseOf_any pn an w (by omega) (by omega) (by omega) h).mono ?_
  rintro e w' ⟨rfl, n, rfl⟩
  exact ⟨by simp [invI], below_drewN (Below.refl _ _) n⟩
theorem putOverS_any {N : Nat} {xv yv : Value} {xs ys : List Int} (w : World) (hN0 : 0 < N) (hN : N ≤ 3) (lx : xs.length = N) (ly : ys.length = N) (bx : ∀ x ∈ xs, 0 ≤ x ∧ x ≤ 8000) (by' : ∀ x ∈ ys, 0 ≤ x ∧ x ≤ 8000) (hx : Sl w xv xs) (hy : Sl w yv ys) :
    Calls Tryz.prog 36 #[xv, yv, .int .i64 2] w fun e w' => ∃ u, e = .returned u ∧ w'.ownsRow w.heap.size 3 1 u (zipI (· - ·) xs ys).length ((zipI (· - ·) xs ys).map (Value.int .i64)) ∧ Below w.heap.size w w' := by
  obtain ⟨a, c, rfl, ha⟩ := hx
  obtain ⟨a2, c2, rfl, ha2⟩ := hy
  obtain ⟨b, off, rfl, hlt, hc⟩ := ha (by omega)
  obtain ⟨b2, off2, rfl, hlt2, hc2⟩ := ha2 (by omega)
  exact putOverF_any xs ys b off c b2 off2 c2 w (by omega) (by omega) (fun x hx => by have := bx x hx; omega) (fun x hx => by have := by' x hx; omega) hlt hlt2 hc hc2
theorem prods_sm {p o : Int} {N : Nat} (hp : 2 ≤ p) {c : Tm} {g : List (List Tm)} (hc : Rg2 p o N [c]) (hg : ∀ f ∈ g, Right p o N f) : ∀ f ∈ prods p o [c] g, Sm p N f := by
  intro f hf
  unfold prods at hf
  obtain ⟨g2, hg2, rfl⟩ := List.mem_map.1 hf
  have hr := hg g2 hg2
  have htk := prodL_tok hp hc.canon.len hr.canon.len hc.bd hr.bd
  have hcn := col_canon (o := o) hp (n := N) (l := prodL p [c] g2) (fun t ht => (htk t ht).1) (fun t ht => (htk t ht).2.2)
  refine ⟨fun t ht => ?_, ?_⟩
  · obtain ⟨y, hy, ey⟩ := col_mem ht
    have h1 := htk y hy
    exact ⟨hcn.len t ht, by rw [ey]; exact h1.2.1, by have := hcn.coef t ht; omega, (hcn.coef t ht).2⟩
  · have h1 := col_len (p := p) (o := o) (prodL p [c] g2)
    have h2 : (prodL p [c] g2).length = g2.length := by simp [Go.Proofs.YtilogbggilchaaaGreat.prodL, prodT]
    have h3 := hr.len
    omega

theorem own_past {w : World} {B g : Nat} {T : TypeId} {v : Value} {n : Nat} {xs : List Value} (h : w.ownsRow B T 1 v n xs) (hz : TZ w g) (hg : g < B) (c ev : Value) : ((w.setCell ⟨g, 0, none⟩ c).setCell ⟨g, 1, none⟩ ev).ownsRow B T 1 v n xs := by
  have hne : v.ownBlock ≠ some g := fun e => by have := (World.ownsRow.lt h g e).1; omega
  have s1 := World.ownsRow.stored hz 0 c
  have s2 := s1.1.stored 1 ev
  exact (h.kept s1.2 (Or.inr hne)).kept s2.2 (Or.inr hne)
set_option maxRecDepth 100000 in
set_option maxHeartbeats 8000000 in
theorem divideOf_inv (p o ov : Int) (N R : Nat) (x lv : Value) (v0 : List (List Tm)) (lss : List (List (List Tm))) (w : World) (hx : RCx p o ov N R) (hl : LOk p o N R lss) (hL : lss.length ≤ 60) (hr : ∀ g ∈ lss, ∀ f ∈ g, Right p o N f) (hvl : v0.length = R) (hR1 : 1 ≤ R) (hst0 : DInv p o ov N R lss ⟨v0, List.replicate lss.length [], List.replicate R []⟩) (hxv : Vl w x v0) (hlv : Wl w lv lss) :
    Calls Tryz.prog 8 #[ringV p N o ov, x, lv] w fun e w' => ∃ qv xv s, e = .returned (.tuple #[qv, xv]) ∧ Vl w' qv s.q ∧ Vl w' xv s.l ∧ Dv p o ov lss ⟨v0, List.replicate lss.length [], List.replicate R []⟩ s ∧ DInv p o ov N R lss s ∧ leadF o ov s.v s.v.length = none ∧ Below w.heap.size w w' := by
  obtain ⟨msV, hmsV⟩ := msV_ex o ov
  have HMV := hid hmsV
  clear hmsV
  have HX := hid hx
  have HLK := hid hl
  have HRR := hid hr
  have HY := hid hlv
  have HS0 := hid hst0
  have HV0 := hid hxv
  have HN0 := hid hx.n0
  have HN3 := hid hx.n3
  obtain ⟨hp1, hp2⟩ := errP_bd hx.pr
  have hR40 := hx.r
  have HVB := hid (vbk_lt hxv (by omega))
  obtain ⟨ly, lc, rfl, _⟩ := hlv
  obtain ⟨xa, xc, hxe, _⟩ := hxv
  rw [hvl] at hxe
  subst hxe
  obtain ⟨w1, hw1⟩ : ∃ w1, w1 = w.alloc (.cells #[.int .i64 p, .int .i64 N, .int .i64 o, .int .i64 ov] 23) := ⟨_, rfl⟩
  have hs1 : w1.heap.size = w.heap.size + 1 := by rw [hw1]; simp
  have HB1 : Hid (Below w.heap.size w w1) := by rw [hw1]; exact belowNew
  have HX1 : Hid (BoxAt w1 w.heap.size p N o ov) := by rw [hw1]; exact BoxAt.new w p N o ov _
  obtain ⟨i0, hi0, hz0, hz1, hz2⟩ := info_parts Tryz.infoPolyW
  have HI := hid (And.intro hi0 (And.intro hz0 (And.intro hz1 hz2)))
  obtain ⟨s0, hs0⟩ : ∃ s0 : DS, s0 = ⟨v0, List.replicate lss.length [], List.replicate R []⟩ := ⟨_, rfl⟩
  have e0v : s0.v = v0 := by rw [hs0]
  have e0q : s0.q = List.replicate lss.length [] := by rw [hs0]
  have e0l : s0.l = List.replicate R [] := by rw [hs0]
  rw [← hs0] at HS0 ⊢
  have HE0 := hid (And.intro e0v (And.intro e0q e0l))
  have HS1 := hid hs1
  clear hx hl hr hi0 hz0 hz1 hz2 hs0 hst0 e0v e0q e0l hs1 hvl
  unfold ringV
  go_enter Tryz.func8, Tryz.ntmps8
  go_upto_region 1 with fail
  rw [← hw1]
  clear hw1
  go_upto_region 2 with (at_make; refine wpList_make_full _ rfl _ _ 24 rfl w1.heap.size 54 i0 _ 1 Tryz.underlying24 HI.out.1 HI.out.2.1 HI.out.2.2.1 .i64 .i64 _ _ lss.length rfl rfl rfl rfl (by rw [HI.out.2.2.2]; omega) (by unfold maxLen; omega) (Nat.le_refl _) ?_; intro w2 hown hgrow; have HQ2 := hid (prow_made hown); have HB2 : Hid (Below w1.heap.size w1 w2) := ⟨hgrow.os, hgrow.tape, hgrow.output, hgrow.size, fun k hk => hgrow.block k hk (by simp)⟩; have HZ2 := hid (World.ownsRow.lt hown w1.heap.size rfl); clear hown hgrow)
  go_wp2_with (at_make; refine wpList_make_full _ rfl _ _ 25 rfl w2.heap.size 54 i0 _ 1 Tryz.underlying25 HI.out.1 HI.out.2.1 HI.out.2.2.1 .i64 .i64 _ _ R rfl rfl rfl rfl (by rw [HI.out.2.2.2]; omega) (by unfold maxLen; omega) (Nat.le_refl _) ?_; intro w3 hown hgrow; have HL3 := hid (prow_made hown); have HB23 : Hid (Below w2.heap.size w2 w3) := ⟨hgrow.os, hgrow.tape, hgrow.output, hgrow.size, fun k hk => hgrow.block k hk (by simp)⟩; have HZ3 := hid (World.ownsRow.lt hown w2.heap.size rfl); clear hown hgrow)
  have HB3 : Hid (Below w1.heap.size w1 w3) := HB2.out.trans (HB23.out.mono HB2.out.size)
  have HD0 : Hid (DoR p o ov N R lss w1 w3 w1.heap.size w2.heap.size (.slice xa R xc) s0 s0) := by
    refine ⟨by rw [HE0.out.1]; exact (HV0.out.below HB1.out).below HB3.out, fun e => ?_, fun e => ?_, ⟨_, by rw [HE0.out.2.1]; exact HQ2.out.next HB23.out⟩, ⟨_, by rw [HE0.out.2.2]; exact HL3.out.mono HB2.out.size⟩, Dv.refl _, HS0.out, HB3.out⟩
    · have := HVB.out _ e; have := HS1.out; omega
    · have := HVB.out _ e; have := HS1.out; have := HB2.out.size; omega
  have hqla : w1.heap.size ≠ w2.heap.size := by have := HZ2.out.2; omega
  obtain ⟨qa, hqa⟩ : ∃ qa, w1.heap.size = qa := ⟨_, rfl⟩
  obtain ⟨la, hla⟩ : ∃ la, w2.heap.size = la := ⟨_, rfl⟩
  have HQA : Hid (w1.heap.size ≤ qa ∧ w1.heap.size ≤ la ∧ qa ≠ la) := ⟨by omega, by have := HB2.out.size; omega, by omega⟩
  rw [hla, hqa] at HD0
  rw [hla, hqa]
  clear hqla HQ2 HL3 HB2 HB23 HZ2 HZ3 hqa hla HE0 HV0 HVB HS0
  go_loopw [1] (fun x wr => ∃ s : DS, DoR p o ov N R lss w1 wr qa la x s0 s) (fun x wr => msV x wr)
  case atStart => exact ⟨s0, HD0.out⟩
  case round =>
    clear HD0 HB3
    obtain ⟨s, hd⟩ := hrel
    have HD := hid hd
    have hvl2 := hd.inv.vl
    obtain ⟨xa2, xc2, hxe, _⟩ := hd.vl
    rw [hvl2] at hxe
    subst hxe
    have HLE := hid (leadOf_big wr p N o ov N _ s.v wr (Below.refl _ _) HX.out.ov HX.out.o HN0.out HN3.out (by rw [hvl2]; omega) (rgb_of HX.out hd.inv.vok hvl2) hd.vl)
    have HLF : Hid (∀ j t, leadF o ov s.v s.v.length = some (j, t) → j < R ∧ t ∈ s.v.getD j [] ∧ t.2.length = N ∧ (1 ≤ t.1 ∧ t.1 < p) ∧ (∀ x ∈ t.2, 0 ≤ x ∧ x ≤ 8000)) := fun j t h => by
      obtain ⟨h1, us, h2⟩ := leadF_at h
      have hm : t ∈ s.v.getD j [] := by rw [h2]; simp
      have hk := vok_bd HX.out hd.inv.vok hvl2 _ (getD_memL s.v j h1)
      exact ⟨by omega, hm, hk.1.len t hm, hk.1.coef t hm, hk.2.1 t hm⟩
    have HMS := hid (HMV.out _ _ _ hd.vl)
    obtain ⟨_, bx0, bx1, bx2, bx3⟩ := HX1.out.below hd.below
    unfold ringV at HLE
    generalize hLd : leadF o ov s.v s.v.length = L at HLE HLF
    have HLD := hid hLd
    clear hd hvl2 hLd
    go_upto_region 4 with (go_at_call 33; refine HLE.out.mono ?_; rintro e w4 ⟨ea, ec, rfl, hsl, hb4⟩; have HSL := hid hsl; have HB4 := hid hb4; clear hsl hb4)
    clear bx0 bx1 bx2 bx3 HLE
    cases L with
    | none =>
      obtain ⟨mm, hm1⟩ : ∃ mm : Int, plc none = mm := ⟨_, rfl⟩
      have hm0 : mm < 0 := by rw [← hm1]; decide
      have hd : decide (mm < 0) = true := decide_eq_true hm0
      rw [hm1]
      clear hm1
      obtain ⟨w5, hw5⟩ : ∃ w5, w5 = w4.alloc (.cells #[.int .i64 (ldC none), .slice ea (ldE none).length ec] 57) := ⟨_, rfl⟩
      have HB5 : Hid (Below wr.heap.size wr w5) := by rw [hw5]; exact HB4.out.trans (belowNew.mono HB4.out.size)
      rw [← hw5]
      clear hw5
      obtain ⟨uq, hq⟩ := HD.out.q
      obtain ⟨ul, hl⟩ := HD.out.l
      have HVQ := hid (hq.next HB5.out).vl
      have HVL := hid (hl.next HB5.out).vl
      have HBF : Hid (Below w.heap.size w w5) := HB1.out.trans ((HD.out.below.trans (HB5.out.mono HD.out.below.size)).mono HB1.out.size)
      clear hq hl
      go_wp2
      go_ret2
      exact ⟨_, _, s, rfl, HVQ.out, HVL.out, HD.out.dv, HD.out.inv, HLD.out, HBF.out⟩
    | some q =>
      obtain ⟨j, t⟩ := q
      have HJ := hid (HLF.out j t rfl)
      have hjR := HJ.out.1
      have htc := HJ.out.2.2.2.1
      rw [plc_some]
      have hd : decide ((j : Int) < 0) = false := decide_eq_false (by omega)
      obtain ⟨w5, hw5⟩ : ∃ w5, w5 = w4.alloc (.cells #[.int .i64 t.1, .slice ea t.2.length ec] 57) := ⟨_, rfl⟩
      have HB45 : Hid (Below w4.heap.size w4 w5) := by rw [hw5]; exact belowNew
      have HB5 : Hid (Below wr.heap.size wr w5) := HB4.out.trans (HB45.out.mono HB4.out.size)
      have HT5 : Hid (TB w5 w4.heap.size t.1 (.slice ea t.2.length ec)) := by
        show TB _ _ _ _
        rw [hw5]; exact tb_new w4 _ _
      have HSL2 : Hid (Sl wr (.slice ea t.2.length ec) t.2) := HSL.out
      simp only [ldC, ldE]
      rw [← hw5]
      clear hw5 HSL HLF
      go_upto_region 7 with (at_make; refine wpList_make_full _ rfl _ _ 25 rfl w5.heap.size 54 i0 _ 1 Tryz.underlying25 HI.out.1 HI.out.2.1 HI.out.2.2.1 .i64 .i64 _ _ R rfl rfl rfl rfl (by rw [HI.out.2.2.2]; omega) (by unfold maxLen; omega) (Nat.le_refl _) ?_; intro w6 hown hgrow; have HA6 := hid (prow_made hown); have HB56 : Hid (Below w5.heap.size w5 w6) := ⟨hgrow.os, hgrow.tape, hgrow.output, hgrow.size, fun k hk => hgrow.block k hk (by simp)⟩; have HZ6 := hid (World.ownsRow.lt hown w5.heap.size rfl); clear hown hgrow)
      have HB6 : Hid (Below wr.heap.size wr w6) := HB5.out.trans (HB56.out.mono HB5.out.size)
      have HT6 := hid (HT5.out.below HB56.out)
      have HD6 : Hid (Below w1.heap.size w1 w6) := HD.out.below.trans (HB6.out.mono HD.out.below.size)
      have HSL6 := hid (HSL2.out.below HB6.out)
      obtain ⟨_, bx0, bx1, bx2, bx3⟩ := HX1.out.below HD6.out
      obtain ⟨t0, t1⟩ := HT6.out
      have HDI := hid (divisor_any p N o ov N j (.slice ly lss.length lc) (.slice ea t.2.length ec) t.1 lss t.2 w6 HX.out.ov HX.out.o HN0.out HN3.out hL (fun g hg => ⟨by rw [HLK.out.len g hg]; omega, HRR.out g hg⟩) ((HY.out.below HB1.out).below HD6.out) HJ.out.2.2.1 HSL6.out)
      unfold ringV at HDI
      cases hdv : dvI o ov lss j t.2 with
      | none =>
        rw [dsV_none hdv] at HDI
        have HDV := hid hdv
        clear hdv
        go_upto_region 8 with (go_at_call 34; refine HDI.out.mono ?_; rintro e w7 ⟨rfl, hb7⟩; have HB7 := hid hb7; clear hb7)
        clear bx0 bx1 bx2 bx3 t0 t1 HDI
        have HB67 : Hid (Below wr.heap.size wr w7) := HB6.out.trans (HB7.out.mono HB6.out.size)
        have HD7 : Hid (Below w1.heap.size w1 w7) := HD6.out.trans (HB7.out.mono HD6.out.size)
        obtain ⟨ul, hl⟩ := HD.out.l
        have hl7 := hl.next HB67.out
        have hlj : j < s.l.length := by rw [HD.out.inv.ll]; exact hjR
        have HLL := hid HD.out.inv.ll
        have HL7 := hid hl7
        have HLA := hid (World.ownsRow.lt hl.own la rfl)
        obtain ⟨_, hla, _, _, hcl⟩ := own_at1 (by have h := hl7.own; rw [HLL.out] at h; exact h) j hjR
        simp only [Option.some.injEq, Addr.mk.injEq, and_true] at hla
        subst hla
        have hpf := hl7.pls j hlj
        have huj : ul[j]? = some (ul.getD j nilV) := by simp [List.getD_eq_getElem?_getD, show j < ul.length by rw [hl.len]; exact hlj]
        rw [huj] at hcl
        have HSZ : Hid ((s.l.getD j []).length ≤ 600000000000) := (vok_bd HX.out HD.out.inv.lok HD.out.inv.ll _ (getD_memL s.l j hlj)).2.2
        obtain ⟨uj, huj2⟩ : ∃ uj, uj = ul.getD j nilV := ⟨_, rfl⟩
        rw [← huj2] at hcl hpf
        obtain ⟨fa, fc, us, huv, _, hus, hue, hucs⟩ := hpf.tvs
        subst huv
        have hul : us.length ≤ 600000000000 := by have h := congrArg List.length hus; rw [List.length_map] at h; rw [h]; exact HSZ.out
        have HUS := hid (And.intro hus hue)
        have hT7 : TB w7 w4.heap.size t.1 (.slice ea t.2.length ec) := HT6.out.below HB7.out
        have HT7 := hid hT7
        have HSL7 := hid (HSL6.out.below HB7.out)
        obtain ⟨iT, hiT, hzT0, hzT1, hzT2⟩ := info_parts Tryz.infoTerm
        have HIT := hid (And.intro hiT (And.intro hzT0 (And.intro hzT1 hzT2)))
        have CU : Hid (∀ W, Below w7.heap.size w7 W → 0 < us.length → ∃ b off, fa = some ⟨b, off, none⟩ ∧ ∀ i u, (flat us)[i]? = some u → W.cell? ⟨b, off + i, none⟩ = some u) := fun W hb h => by
          obtain ⟨b, off, e, hlt, hc⟩ := hucs h
          exact ⟨b, off, e, fun i u hi => cell_keep (hc i u hi) hb⟩
        have HO7 : Hid (∀ W, Below w7.heap.size w7 W → W.ownsRow w1.heap.size 54 1 (.slice (some ⟨la, 0, none⟩) R R) R ul) := fun W hb => by
          have h := (HL7.out.next hb).own
          rw [HLL.out] at h; exact h
        have HTN : Hid (w4.heap.size ≠ la) := fun e => by have := HLA.out.2; have := HB4.out.size; omega
        have HCL : Hid (∀ W, Below w7.heap.size w7 W → W.cell? ⟨la, j, none⟩ = some (.slice fa us.length fc)) := fun W hb => cell_keep hcl hb
        have HET : Hid (Es w7 [((t.1, .slice ea t.2.length ec, t.2) : TV)]) := fun x hx => by rw [List.mem_singleton] at hx; rw [hx]; exact HSL7.out
        have APP : Hid (∀ w9 v9, Below w7.heap.size w7 w9 → w9.ownsRow w7.heap.size 57 2 v9 (us.length + 1) (flat us ++ flat [((t.1, .slice ea t.2.length ec, t.2) : TV)]) → Pl w9 v9 (s.l.getD j [] ++ [t])) := fun w9 v9 hb h => by
          have e : s.l.getD j [] ++ [t] = (us ++ [((t.1, .slice ea t.2.length ec, t.2) : TV)]).map tm := by rw [List.map_append, HUS.out.1]; rfl
          rw [e]
          exact own_pl (B := w7.heap.size) (by rw [flat_append, List.length_append]; exact h) (fun x hx => ((List.mem_append.1 hx).elim (HUS.out.2 x) (HET.out x)).below hb)
        obtain ⟨t0, t1⟩ := hT7
        have hcl7 := hcl
        clear hl hl7 hcl hpf huj huj2 hus hue hucs hiT hzT0 hzT1 hzT2
        go_upto_region 9 with fail
        go_cut [] from 43 to 54 (fun wx => ∃ w9 z, wx = w9.setCell ⟨la, j, none⟩ z ∧ Below w7.heap.size w7 w9 ∧ Pl w9 z (s.l.getD j [] ++ [t]))
        case first =>
          have B0 : Hid (Below w7.heap.size w7 w7.drew) := (Below.refl _ _).drew
          have B1 : Hid (Below w7.heap.size w7 (w7.alloc (.cells #[] 57)).drew) := belowNew.drew
          have B2 : Hid (Below w7.heap.size w7 ((w7.alloc (.cells #[] 57)).alloc (.cells #[.int .i64 t.1, .slice ea t.2.length ec] 57)).drew) := (belowNew.trans (belowNew.mono (by simp))).drew
          have B3 : Hid (Below w7.heap.size w7 (w7.alloc (.cells #[.int .i64 t.1, .slice ea t.2.length ec] 57)).drew) := belowNew.drew
          have B4 : Hid (Below w7.heap.size w7 ((w7.alloc (.cells #[.int .i64 t.1, .slice ea t.2.length ec] 57)).alloc (.cells #[] 57)).drew) := (belowNew.trans (belowNew.mono (by simp))).drew
          have O0 : (w7.alloc (.cells #[] 57)).ownsRow w7.heap.size 57 2 (.slice (some ⟨w7.heap.size, 0, none⟩) 0 0) 0 [] := World.ownsRow_made w7 #[] 0 (Nat.le_refl _) (by decide) (by simp)
          have O1 : Hid ((w7.alloc (.cells #[] 57)).drew.ownsRow w7.heap.size 57 2 (.slice (some ⟨w7.heap.size, 0, none⟩) 0 0) 0 []) := ownBlock_lt O0 (Below.refl _ _).drew
          have O2 : Hid (((w7.alloc (.cells #[] 57)).alloc (.cells #[.int .i64 t.1, .slice ea t.2.length ec] 57)).drew.ownsRow w7.heap.size 57 2 (.slice (some ⟨w7.heap.size, 0, none⟩) 0 0) 0 []) := ownBlock_lt (ownBlock_lt O0 belowNew) (Below.refl _ _).drew
          have O4 : Hid (((w7.alloc (.cells #[.int .i64 t.1, .slice ea t.2.length ec] 57)).alloc (.cells #[] 57)).drew.ownsRow w7.heap.size 57 2 (.slice (some ⟨w7.heap.size + 1, 0, none⟩) 0 0) 0 []) := by
            have h : ((w7.alloc (.cells #[.int .i64 t.1, .slice ea t.2.length ec] 57)).alloc (.cells #[] 57)).ownsRow w7.heap.size 57 2 (.slice (some ⟨(w7.alloc (.cells #[.int .i64 t.1, .slice ea t.2.length ec] 57)).heap.size, 0, none⟩) 0 0) 0 [] := World.ownsRow_made _ #[] 0 (by simp) (by decide) (by simp)
            have e : (w7.alloc (.cells #[.int .i64 t.1, .slice ea t.2.length ec] 57)).heap.size = w7.heap.size + 1 := by simp
            rw [e] at h
            exact ownBlock_lt h (Below.refl _ _).drew
          have CO2 : Hid (∀ i u, (flat [((t.1, .slice ea t.2.length ec, t.2) : TV)])[i]? = some u → ((w7.alloc (.cells #[] 57)).alloc (.cells #[.int .i64 t.1, .slice ea t.2.length ec] 57)).drew.cell? ⟨w7.heap.size + 1, 0 + i, none⟩ = some u) := fun i u hi => by
            have h := one_cells (w7.alloc (.cells #[] 57)) t.1 (.slice ea t.2.length ec) t.2 i u hi
            have e : (w7.alloc (.cells #[] 57)).heap.size = w7.heap.size + 1 := by simp
            rw [e] at h
            exact h
          have CO4 : Hid (∀ i u, (flat [((t.1, .slice ea t.2.length ec, t.2) : TV)])[i]? = some u → ((w7.alloc (.cells #[.int .i64 t.1, .slice ea t.2.length ec] 57)).alloc (.cells #[] 57)).drew.cell? ⟨w7.heap.size, 0 + i, none⟩ = some u) := fun i u hi =>
            cell_keep (one_cells w7 t.1 (.slice ea t.2.length ec) t.2 i u hi) (belowNew.drew)
          have b1 : Below w7.heap.size w7 (w7.alloc (.cells #[] 57)) := belowNew
          have b2 : Below w7.heap.size w7 ((w7.alloc (.cells #[] 57)).alloc (.cells #[.int .i64 t.1, .slice ea t.2.length ec] 57)) := b1.trans (belowNew.mono b1.size)
          have b3 : Below w7.heap.size w7 (w7.alloc (.cells #[.int .i64 t.1, .slice ea t.2.length ec] 57)) := belowNew
          have b4 : Below w7.heap.size w7 ((w7.alloc (.cells #[.int .i64 t.1, .slice ea t.2.length ec] 57)).alloc (.cells #[] 57)) := b3.trans (belowNew.mono b3.size)
          have d1 := HCL.out _ b1
          have d2 := HCL.out _ b2
          have d3 := HCL.out _ b3
          have d4 := HCL.out _ b4
          have p1 := cell_keep t0 b1
          have p2 := cell_keep t0 b2
          have p3 := cell_keep t0 b3
          have p4 := cell_keep t0 b4
          have q1 := cell_keep t1 b1
          have q2 := cell_keep t1 b2
          have q3 := cell_keep t1 b3
          have q4 := cell_keep t1 b4
          clear b1 b2 b3 b4
          clear O0
          go_region_law (first
            | (refine step_append_tvsA rfl (.tmp 45) (.tmp 49) 54 54 rfl w7.heap.size 57 iT _ Tryz.underlying54 Tryz.underlying54 HIT.out.1 HIT.out.2.1 HIT.out.2.2.1 HIT.out.2.2.2 rfl (.slice (some ⟨w7.heap.size, 0, none⟩) 0 0) 0 [] (by simp [Act.eval, Act.put]) O1.out us us.length rfl fa fc (by simp [Act.eval, Act.put]) (CU.out _ B1.out) (flat_one HUS.out.2) (by omega) B1.out.size ?_; intro v8 w8 r1 r2 _; rw [Nat.zero_add, List.nil_append] at r1; have OWN8 := hid r1; have HB8 := hid (show Below w7.heap.size w7 w8 from own_grown O1.out B1.out r2 (Nat.le_refl _)); obtain ⟨va8, vc8, hv8⟩ := own_sl' r1; subst hv8; have c8 := HCL.out _ HB8.out; have t80 := cell_keep t0 HB8.out; have t81 := cell_keep t1 HB8.out; have c8a := cell_keep c8 (belowNew (A := .cells #[.int .i64 t.1, .slice ea t.2.length ec] 57)); clear r1 r2)
            | (refine step_append_tvsA rfl (.tmp 45) (.tmp 49) 54 54 rfl w7.heap.size 57 iT _ Tryz.underlying54 Tryz.underlying54 HIT.out.1 HIT.out.2.1 HIT.out.2.2.1 HIT.out.2.2.2 rfl (.slice (some ⟨w7.heap.size, 0, none⟩) 0 0) 0 [] (by simp [Act.eval, Act.put]) O2.out us us.length rfl fa fc (by simp [Act.eval, Act.put]) (CU.out _ B2.out) (flat_one HUS.out.2) (by omega) B2.out.size ?_; intro v8 w8 r1 r2 _; rw [Nat.zero_add, List.nil_append] at r1; have OWN8 := hid r1; have HB8 := hid (show Below w7.heap.size w7 w8 from own_grown O2.out B2.out r2 (Nat.le_refl _)); obtain ⟨va8, vc8, hv8⟩ := own_sl' r1; subst hv8; have c8 := HCL.out _ HB8.out; have t80 := cell_keep t0 HB8.out; have t81 := cell_keep t1 HB8.out; have c8a := cell_keep c8 (belowNew (A := .cells #[.int .i64 t.1, .slice ea t.2.length ec] 57)); have ONE8 : Hid (∀ i u, (flat [((t.1, .slice ea t.2.length ec, t.2) : TV)])[i]? = some u → w8.cell? ⟨w7.heap.size + 1, 0 + i, none⟩ = some u) := (fun i u hi => r2.cell (CO2.out i u hi) (by simp [Value.ownBlock])); clear r1 r2)
            | (refine step_append_tvsA rfl (.tmp 45) (.tmp 49) 54 54 rfl w7.heap.size 57 iT _ Tryz.underlying54 Tryz.underlying54 HIT.out.1 HIT.out.2.1 HIT.out.2.2.1 HIT.out.2.2.2 rfl (.slice (some ⟨w7.heap.size + 1, 0, none⟩) 0 0) 0 [] (by simp [Act.eval, Act.put]) O4.out us us.length rfl fa fc (by simp [Act.eval, Act.put]) (CU.out _ B4.out) (flat_one HUS.out.2) (by omega) B4.out.size ?_; intro v8 w8 r1 r2 _; rw [Nat.zero_add, List.nil_append] at r1; have OWN8 := hid r1; have HB8 := hid (show Below w7.heap.size w7 w8 from own_grown O4.out B4.out r2 (Nat.le_refl _)); obtain ⟨va8, vc8, hv8⟩ := own_sl' r1; subst hv8; have c8 := HCL.out _ HB8.out; have t80 := cell_keep t0 HB8.out; have t81 := cell_keep t1 HB8.out; have c8a := cell_keep c8 (belowNew (A := .cells #[.int .i64 t.1, .slice ea t.2.length ec] 57)); have ONE8 : Hid (∀ i u, (flat [((t.1, .slice ea t.2.length ec, t.2) : TV)])[i]? = some u → w8.cell? ⟨w7.heap.size, 0 + i, none⟩ = some u) := (fun i u hi => r2.cell (CO4.out i u hi) (by simp [Value.ownBlock])); clear r1 r2)
            | (refine step_append_tvsA rfl (.tmp 50) (.tmp 52) 54 54 rfl w7.heap.size 57 iT _ Tryz.underlying54 Tryz.underlying54 HIT.out.1 HIT.out.2.1 HIT.out.2.2.1 HIT.out.2.2.2 rfl (.slice va8 us.length vc8) us.length (flat us) (by simp [Act.eval, Act.put]) (ownBlock_lt OWN8.out belowNew) [((t.1, .slice ea t.2.length ec, t.2) : TV)] 1 rfl (some ⟨w8.heap.size, 0, none⟩) 1 (by simp [Act.eval, Act.put]) (fun _ => ⟨w8.heap.size, 0, rfl, one_cells w8 _ _ _⟩) (flat_one HET.out) (by omega) (HB8.out.trans (belowNew.mono HB8.out.size)).size ?_; intro v9 w9 r1 r2 _; have HB9 := hid (show Below w7.heap.size w7 w9 from own_grown (ownBlock_lt OWN8.out belowNew) (HB8.out.trans (belowNew.mono HB8.out.size)) r2 (Nat.le_refl _)); have PL9 := hid (APP.out w9 v9 HB9.out r1); obtain ⟨va9, vc9, hv9⟩ := own_sl' r1; subst hv9; have c9 := HCL.out _ HB9.out; have f9 := World.ownsRow.frozenAt (HO7.out _ HB9.out) j; clear r1 r2)
            | (refine step_append_tvsA rfl (.tmp 50) (.tmp 52) 54 54 rfl w7.heap.size 57 iT _ Tryz.underlying54 Tryz.underlying54 HIT.out.1 HIT.out.2.1 HIT.out.2.2.1 HIT.out.2.2.2 rfl (.slice va8 us.length vc8) us.length (flat us) (by simp [Act.eval, Act.put]) OWN8.out [((t.1, .slice ea t.2.length ec, t.2) : TV)] 1 rfl (some ⟨w7.heap.size + 1, 0, none⟩) 1 (by simp [Act.eval, Act.put]) (fun _ => ⟨w7.heap.size + 1, 0, rfl, ONE8.out⟩) (flat_one HET.out) (by omega) HB8.out.size ?_; intro v9 w9 r1 r2 _; have HB9 := hid (show Below w7.heap.size w7 w9 from own_grown OWN8.out HB8.out r2 (Nat.le_refl _)); have PL9 := hid (APP.out w9 v9 HB9.out r1); obtain ⟨va9, vc9, hv9⟩ := own_sl' r1; subst hv9; have c9 := HCL.out _ HB9.out; have f9 := World.ownsRow.frozenAt (HO7.out _ HB9.out) j; clear r1 r2)
            | (refine step_append_tvsA rfl (.tmp 50) (.tmp 52) 54 54 rfl w7.heap.size 57 iT _ Tryz.underlying54 Tryz.underlying54 HIT.out.1 HIT.out.2.1 HIT.out.2.2.1 HIT.out.2.2.2 rfl (.slice va8 us.length vc8) us.length (flat us) (by simp [Act.eval, Act.put]) OWN8.out [((t.1, .slice ea t.2.length ec, t.2) : TV)] 1 rfl (some ⟨w7.heap.size, 0, none⟩) 1 (by simp [Act.eval, Act.put]) (fun _ => ⟨w7.heap.size, 0, rfl, ONE8.out⟩) (flat_one HET.out) (by omega) HB8.out.size ?_; intro v9 w9 r1 r2 _; have HB9 := hid (show Below w7.heap.size w7 w9 from own_grown OWN8.out HB8.out r2 (Nat.le_refl _)); have PL9 := hid (APP.out w9 v9 HB9.out r1); obtain ⟨va9, vc9, hv9⟩ := own_sl' r1; subst hv9; have c9 := HCL.out _ HB9.out; have f9 := World.ownsRow.frozenAt (HO7.out _ HB9.out) j; clear r1 r2))
          all_goals
            go_wp2_with fail
            go_meet
            exact ⟨w9, _, rfl, HB9.out, PL9.out⟩
        case rest =>
          obtain ⟨w9, z, hwc, hb9, hz⟩ := hcut
          have HD9 : Hid (Below w1.heap.size w1 w9) := HD7.out.trans (hb9.mono HD7.out.size)
          have HR9 : Hid (Below wr.heap.size wr w9) := HB67.out.trans (hb9.mono HB67.out.size)
          have hl9 := HL7.out.next hb9
          have hk9 := hl9.kind la rfl
          obtain ⟨hpr, hgr⟩ := hl9.put (i := j) HLL.out.symm hlj hz
          rw [← hwc] at hpr hgr
          have HLA2 := hid HQA.out
          have HSZ5 : Hid (wr.heap.size ≤ w5.heap.size ∧ w5.heap.size < w9.heap.size ∧ w.heap.size < w1.heap.size ∧ w4.heap.size < w5.heap.size) := ⟨HB5.out.size, by have := HZ6.out.2; have := HB7.out.size; have := hb9.size; omega, by have := HS1.out; omega, by have := HT5.out.1; exact World.block_lt_of_cell? w5 _ this⟩
          obtain ⟨uq, hq⟩ := HD.out.q
          have HQZ := hid (World.ownsRow.lt hq.own qa rfl)
          have HV10 := hid (Vl.far (HD.out.vl.below HR9.out) hk9 hgr HD.out.nl)
          have HQ10 := hid ((hq.next HR9.out).far hk9 hgr (by simpa [Value.ownBlock] using HQA.out.2.2))
          have HA10 := hid (((HA6.out.next HB7.out).next hb9).far hk9 hgr (by have := HSZ5.out; have := HLA.out.2; simp [Value.ownBlock]; omega))
          have HL10 := hid hpr
          have HS10 := hid (sl_keep hk9 hgr (HSL7.out.below hb9))
          have HD10 : Hid (Below w1.heap.size w1 wc) := HD9.out.trans (grown_below hgr HQA.out.2.1 HD9.out.size)
          obtain ⟨_, bx0, _, _, _⟩ := HX1.out.below HD10.out
          have t0c := hgr.cell (cell_keep t0 hb9) (by simpa using HTN.out)
          have t1c := hgr.cell (cell_keep t1 hb9) (by simpa using HTN.out)
          have HBZ := hid (And.intro hgr.size hb9.size)
          clear hq hl9 hk9 hpr hgr hwc hb9 hz t0 t1 hcl7
          obtain ⟨w11, hw11⟩ : ∃ w11, w11 = wc.alloc (.cells #[.int .i64 (p - t.1), .slice ea t.2.length ec] 57) := ⟨_, rfl⟩
          have HB11 : Hid (Below wc.heap.size wc w11) := by rw [hw11]; exact belowNew
          have HT11 : Hid (TB w11 wc.heap.size (p - t.1) (.slice ea t.2.length ec)) := by
            show TB _ _ _ _
            rw [hw11]; exact tb_new wc _ _
          have HZ11 : Hid (w11.heap.size = wc.heap.size + 1) := by show _ = _; rw [hw11]; simp
          have HA11 := hid (HA10.out.next HB11.out)
          have HO11 : Hid (w11.ownsRow w5.heap.size 54 1 (.slice (some ⟨w5.heap.size, 0, none⟩) R R) R (List.replicate R (.slice none 0 0))) := by
            have h := HA11.out.own
            rw [List.length_replicate] at h; exact h
          have c11 := World.ownsRow.cellAt HO11.out j (by omega)
          have f11 := World.ownsRow.frozenAt HO11.out j
          simp only [List.getElem?_replicate, hjR, if_true] at c11
          rw [hw11] at c11 f11
          go_upto_region 15 with fail
          rw [← hw11]
          clear hw11 c11 f11
          have HPU : Hid (Pl w11 (.slice (some ⟨wc.heap.size, 0, none⟩) 1 1) [(p - t.1, t.2)]) := one_pl (by rw [HZ11.out]; omega) HT11.out (HS10.out.below HB11.out)
          obtain ⟨hpa, hga⟩ := HA11.out.put (i := j) (by rw [List.length_replicate]) (by rw [List.length_replicate]; exact hjR) HPU.out
          have hka := HA11.out.kind w5.heap.size rfl
          obtain ⟨w12, hw12⟩ : ∃ w12, w12 = w11.setCell ⟨w5.heap.size, j, none⟩ (.slice (some ⟨wc.heap.size, 0, none⟩) 1 1) := ⟨_, rfl⟩
          rw [← hw12] at hpa hga
          have HVA := hid hpa.vl
          have HV12 := hid (Vl.far (HV10.out.below HB11.out) hka hga (fun e => by have h1 := vbk_lt HD.out.vl (by rw [HD.out.inv.vl]; omega) _ e; have := HSZ5.out; omega))
          have HQ12 := hid ((HQ10.out.next HB11.out).far hka hga (by have := HQZ.out.2; have := HSZ5.out; simp [Value.ownBlock]; omega))
          have HL12 := hid ((HL10.out.next HB11.out).far hka hga (by have := HLA.out.2; have := HSZ5.out; simp [Value.ownBlock]; omega))
          have HD11 : Hid (Below w1.heap.size w1 w11) := HD10.out.trans (HB11.out.mono HD10.out.size)
          have HD12 : Hid (Below w1.heap.size w1 w12) := HD11.out.trans (grown_below hga (by have := HD.out.below.size; have := HSZ5.out; omega) HD11.out.size)
          have HZ12 : Hid (qa < w12.heap.size ∧ la < w12.heap.size) := ⟨by have := HQZ.out.2; have := HSZ5.out; have := HBZ.out; have := HB11.out.size; have := hga.size; omega, by have := HLA.out.2; have := HSZ5.out; have := HBZ.out; have := HB11.out.size; have := hga.size; omega⟩
          have HST := hid (dstep_none (p := p) HLD.out HDV.out)
          have HIN := hid (dinv_step HX.out HLK.out HD.out.inv HST.out)
          have HVS := hid (vsumF_any p N o ov N (.slice xa2 R xc2) (.slice (some ⟨w5.heap.size, 0, none⟩) R R) s.v (atPl R j [(p - t.1, t.2)]) w12 ⟨hp1, hp2⟩ HX.out.o HN0.out HN3.out (by rw [HD.out.inv.vl]; simp [atPl]) (by rw [HD.out.inv.vl]; omega) (sm_of HX.out HD.out.inv.vok HD.out.inv.vl) (fun g hg => by
            unfold atPl at hg
            rcases List.mem_or_eq_of_mem_set hg with h | h
            · rw [List.eq_of_mem_replicate h]; exact ⟨fun x hx => by simp at hx, by simp⟩
            · rw [h]
              refine ⟨fun x hx => ?_, by simp⟩
              rw [List.mem_singleton] at hx
              rw [hx]
              exact ⟨HJ.out.2.2.1, fun y hy => by have := HJ.out.2.2.2.2 y hy; omega, by simp only; omega, by simp only; omega⟩) HV12.out HVA.out)
          obtain ⟨_, r0, r1, r2, r3⟩ := HX1.out.below HD12.out
          unfold ringV at HVS
          rw [← hw12]
          clear hw12 hpa hga hka bx0 t0c t1c
          go_wp2_with (go_at_call 39; refine HVS.out.mono ?_; rintro e w13 ⟨u, us13, rfl, hpu, hb13⟩; have HPU13 := hid hpu; have HB13 := hid hb13; clear hpu hb13)
          have HSV : Hid (s.v.length = R) := HD.out.inv.vl
          go_roundw
          case rel =>
            have hst := HST.out
            rw [HSV.out] at hst
            have hin := HIN.out.1
            rw [HSV.out] at hin
            exact ⟨⟨sums p o s.v (atPl R j [(p - t.1, t.2)]), s.q, s.l.set j (s.l.getD j [] ++ [t])⟩, HPU13.out.vl, fun e => by have := prow_vbk HPU13.out _ e; have := HZ12.out; omega, fun e => by have := prow_vbk HPU13.out _ e; have := HZ12.out; omega, ⟨_, HQ12.out.next HB13.out⟩, ⟨_, HL12.out.next HB13.out⟩, HD.out.dv.step hst, hin, HD12.out.trans (HB13.out.mono HD12.out.size)⟩
          case measure =>
            have h := dms_lt HX.out HLK.out HD.out.inv HST.out
            rw [HSV.out] at h
            rw [HMV.out _ _ _ HPU13.out.vl, HMS.out]
            exact h
      | some i =>
        rw [dsV_some hdv] at HDI
        have HDV := hid hdv
        have HST := hid (dstep_some (p := p) HLD.out hdv)
        have HBY := hid (by_ok HX.out HLK.out HJ.out.2.2.1 htc hdv)
        obtain ⟨hil, hgm, hdt⟩ := dvI_some hdv
        obtain ⟨hlg, _⟩ := isDv_true hdt
        clear hdv hdt
        go_upto_region 8 with (go_at_call 34; refine HDI.out.mono ?_; rintro e w7 ⟨rfl, hb7⟩; have HB7 := hid hb7; clear hb7)
        clear bx0 bx1 bx2 bx3 t0 t1 HDI
        have HB67 : Hid (Below wr.heap.size wr w7) := HB6.out.trans (HB7.out.mono HB6.out.size)
        have HD7 : Hid (Below w1.heap.size w1 w7) := HD6.out.trans (HB7.out.mono HD6.out.size)
        have HT7 := hid (HT6.out.below HB7.out)
        have HSL7 := hid (HSL6.out.below HB7.out)
        have HIN := hid (dinv_step HX.out HLK.out HD.out.inv HST.out)
        obtain ⟨b2, off2, va, vc, rfl, hlt2, d0, hpv⟩ := wl_at HY.out i hil
        have HGR := hid (HRR.out _ hgm)
        have HGL := hid (HLK.out.len _ hgm)
        generalize lss.getD i [] = g at d0 hpv HGR HGL HST HBY hlg hgm HIN
        generalize ldT o ov g = u at HST HBY hlg HIN
        generalize hbt : byT p t u = b at HST HBY HIN
        have hb1 : t.1 * invI p u.1 % p = b.1 := by rw [← hbt]; rfl
        have hb2 : zipI (· - ·) t.2 u.2 = b.2 := by rw [← hbt]; rfl
        have HB12 := hid (And.intro hb1 hb2)
        clear hbt hb1 hb2
        have huc : 1 ≤ u.1 ∧ u.1 < p ∧ u.2.length = N ∧ ∀ x ∈ u.2, 0 ≤ x ∧ x ≤ 200 := by
          have hr := HGR.out _ (getD_memL g j (getD_lt HBY.out.mem))
          exact ⟨(hr.canon.coef u HBY.out.mem).1, (hr.canon.coef u HBY.out.mem).2, hr.canon.len u HBY.out.mem, fun x hx => by have := hr.bd u HBY.out.mem x hx; have h1 := HX.out.r; have h2 := le_sumI (fun y hy => (hr.bd u HBY.out.mem y hy).1) x hx; have h3 : sumI u.2 ≤ 200 := (right_vok (fun f hf => HGR.out f hf)).deg j u HBY.out.mem; omega⟩
        have HUC := hid huc
        clear huc
        have hlv7 : Vl w7 (.slice va g.length vc) g := (hpv.below HB1.out).below HD7.out
        have HLV := hid hlv7
        have hd07 := cell_keep (cell_keep d0 HB1.out) HD7.out
        obtain ⟨_, bx0, bx1, bx2, bx3⟩ := HX1.out.below HD7.out
        have HLE : Hid (∀ W, Below w7.heap.size w7 W → Calls Tryz.prog 33 #[ringV p N o ov, .slice va g.length vc] W fun e w' => ∃ ea2 ec2, e = .returned (.tuple #[.int .i64 (j : Int), .agg #[.int .i64 u.1, .slice ea2 u.2.length ec2]]) ∧ Sl w7 (.slice ea2 u.2.length ec2) u.2 ∧ Below W.heap.size W w') := fun W hb => by
          have h := leadOf_old w7 p N o ov N _ g W hb HX.out.ov HX.out.o HN0.out HN3.out (by rw [HGL.out]; omega) HGR.out hlv7
          rw [hlg] at h
          exact h
        unfold ringV at HLE
        have KEEP : Hid (∀ W, Below w7.heap.size w7 W → (Hid (Below w7.heap.size w7 W) ∧ W.cell? ⟨w.heap.size, 0, none⟩ = some (.int .i64 p) ∧ W.cell? ⟨w.heap.size, 1, none⟩ = some (.int .i64 N) ∧ W.cell? ⟨w.heap.size, 2, none⟩ = some (.int .i64 o) ∧ W.cell? ⟨w.heap.size, 3, none⟩ = some (.int .i64 ov) ∧ W.cell? ⟨b2, off2 + i, none⟩ = some (.slice va g.length vc))) :=
          fun W hb => ⟨hb, cell_keep bx0 hb, cell_keep bx1 hb, cell_keep bx2 hb, cell_keep bx3 hb, cell_keep hd07 hb⟩
        have hiI : (i : Int) < (lss.length : Int) := by omega
        have HD00 := hid d0
        have HPV0 := hid hpv
        clear bx0 bx1 bx2 bx3 d0 hd07 hpv hlv7 hlg
        go_upto_region 11 with fail
        go_cut [14, 15] from 67 to 75 (fun s14 s15 wx => ∃ (bb : Nat) (ea2 : Option Addr) (ec2 : Nat), s14 = .int .i64 (j : Int) ∧ s15 = .pointer (some ⟨bb, 0, none⟩) ∧ Below w7.heap.size w7 wx ∧ TB wx bb u.1 (.slice ea2 u.2.length ec2) ∧ Sl w7 (.slice ea2 u.2.length ec2) u.2)
        case first =>
          have HB0 : Hid (Below w7.heap.size w7 w7.drew) := (Below.refl _ _).drew
          have HBA : Hid (Below w7.heap.size w7 (w7.drew.alloc (.cells #[.int .i64 0, .slice none 0 0] 57))) := HB0.out.trans (belowNew.mono (Nat.le_refl _))
          have HBB : Hid (Below w7.heap.size w7 (w7.alloc (.cells #[.int .i64 0, .slice none 0 0] 57)).drew) := belowNew.drew
          have HZA : Hid (TZ (w7.drew.alloc (.cells #[.int .i64 0, .slice none 0 0] 57)) w7.heap.size) := tz_new w7.drew
          have HZB : Hid (TZ (w7.alloc (.cells #[.int .i64 0, .slice none 0 0] 57)).drew w7.heap.size) := (tz_new w7).below (Below.refl _ _).drew
          have LAYB : Hid (∀ w8 (v0 v1 : Value), Below w7.heap.size w7 w8 → Below w7.heap.size w7 ((w8.setCell ⟨w7.heap.size, 0, none⟩ v0).setCell ⟨w7.heap.size, 1, none⟩ v1)) := fun w8 v0 v1 h => (h.setCell (Nat.le_refl _) _).setCell (Nat.le_refl _) _
          go_region_held (fun W => Hid (Below w7.heap.size w7 W) ∧ W.cell? ⟨w.heap.size, 0, none⟩ = some (.int .i64 p) ∧ W.cell? ⟨w.heap.size, 1, none⟩ = some (.int .i64 N) ∧ W.cell? ⟨w.heap.size, 2, none⟩ = some (.int .i64 o) ∧ W.cell? ⟨w.heap.size, 3, none⟩ = some (.int .i64 ov) ∧ W.cell? ⟨b2, off2 + i, none⟩ = some (.slice va g.length vc))
            (first | with_reducible exact KEEP.out _ HB0.out | with_reducible exact KEEP.out _ HBA.out | with_reducible exact KEEP.out _ HBB.out | with_reducible exact KEEP.out _ HB8.out | with_reducible exact KEEP.out _ (HB8.out.trans (belowNew.mono HB8.out.size)) | with_reducible exact KEEP.out _ (LAYB.out _ _ _ HB8.out))
            (first
              | (go_at_call 33; refine (HLE.out _ HB0.out).mono ?_; rintro e8 w8 ⟨ea2, ec2, rfl, hsl, hb8⟩; have HB8 := hid (HB0.out.trans (hb8.mono HB0.out.size)); have HSL := hid hsl; clear hb8 hsl)
              | (go_at_call 33; refine (HLE.out _ HBA.out).mono ?_; rintro e8 w8 ⟨ea2, ec2, rfl, hsl, hb8⟩; have HB8 := hid (HBA.out.trans (hb8.mono HBA.out.size)); have HSL := hid hsl; have HZ8 := hid (HZA.out.below hb8); clear hb8 hsl; have y0 := World.ownsRow.cellAt HZ8.out 0 (by simp); have y1 := World.ownsRow.cellAt HZ8.out 1 (by simp); have z0 := World.ownsRow.frozenAt HZ8.out 0; have z1 := World.ownsRow.frozenAt HZ8.out 1)
              | (go_at_call 33; refine (HLE.out _ HBB.out).mono ?_; rintro e8 w8 ⟨ea2, ec2, rfl, hsl, hb8⟩; have HB8 := hid (HBB.out.trans (hb8.mono HBB.out.size)); have HSL := hid hsl; have HZ8 := hid (HZB.out.below hb8); clear hb8 hsl; have y0 := World.ownsRow.cellAt HZ8.out 0 (by simp); have y1 := World.ownsRow.cellAt HZ8.out 1 (by simp); have z0 := World.ownsRow.frozenAt HZ8.out 0; have z1 := World.ownsRow.frozenAt HZ8.out 1))
          all_goals
            go_wp2_with fail
            go_meet
            first
              | exact ⟨_, ea2, ec2, rfl, rfl, HB8.out.trans (belowNew.mono HB8.out.size), tb_new _ _ _, HSL.out⟩
              | exact ⟨_, ea2, ec2, rfl, rfl, LAYB.out _ _ _ HB8.out, HZ8.out.put _ _, HSL.out⟩
        case rest =>
          obtain ⟨bb, ea2, ec2, rfl, rfl, hbx, htb, hsl⟩ := hcut
          obtain ⟨w8, hw8⟩ : ∃ w8, wc = w8 := ⟨_, rfl⟩
          subst hw8
          rename World => w8
          have HB8 := hid hbx
          have HL8 := hid htb
          have HSU8 := hid (hsl.below hbx)
          have HST8 := hid (HSL7.out.below hbx)
          have HD8 : Hid (Below w1.heap.size w1 w8) := HD7.out.trans (hbx.mono HD7.out.size)
          clear KEEP HLE hbx htb hsl
          have HT8 := hid (HT7.out.below HB8.out)
          obtain ⟨_, bx0, bx1, bx2, bx3⟩ := HX1.out.below HD8.out
          obtain ⟨t0, t1⟩ := HT8.out
          obtain ⟨l0, l1⟩ := HL8.out
          have hiv := invI_ok HX.out.pr (show 0 < u.1 ∧ u.1 < p by have := HUC.out; omega)
          have HIV : Hid (∀ W, Calls Tryz.prog 35 #[.int .i64 p, .int .i64 u.1] W fun e w' => e = .returned (.int .i64 (invI p u.1)) ∧ Below W.heap.size W w') := fun W => inverseI_any HX.out.pr (by have := HUC.out; omega) W
          have HPO : Hid (∀ W, Below w8.heap.size w8 W → Calls Tryz.prog 36 #[.slice ea t.2.length ec, .slice ea2 u.2.length ec2, .int .i64 2] W fun e w' => ∃ ea3 ec3, e = .returned (.slice ea3 b.2.length ec3) ∧ w'.ownsRow W.heap.size 3 1 (.slice ea3 b.2.length ec3) b.2.length (b.2.map (Value.int .i64)) ∧ Below W.heap.size W w') := fun W hb => by
            refine (putOverS_any W HN0.out HN3.out HJ.out.2.2.1 HUC.out.2.2.1 HJ.out.2.2.2.2 (fun x hx => by have := HUC.out.2.2.2 x hx; omega) (HST8.out.below hb) (HSU8.out.below hb)).mono ?_
            rintro e w' ⟨v3, rfl, h3, h4⟩
            rw [HB12.out.2] at h3
            have h5 := h3
            obtain ⟨a3, c3, rfl⟩ := own_sl h3
            exact ⟨a3, c3, rfl, h5, h4⟩
          have HCB : Hid (t.1 * invI p u.1 % p = b.1) := HB12.out.1
          generalize invI p u.1 = iv at HIV HCB hiv
          have hm1 : t.1 * iv ≤ 101 * 101 := Int.mul_le_mul (by omega) (by omega) (by omega) (by omega)
          have hm0 : 0 ≤ t.1 * iv := Int.mul_nonneg (by omega) (by omega)
          have HCT : Hid ((IntKind.i64.wrap (t.1 * iv)).tmod p = b.1) := by
            show _ = _
            have hw : IntKind.i64.wrap (t.1 * iv) = t.1 * iv := by rw [IntKind.wrap_i64]; omega
            rw [hw, Int.tmod_eq_emod_of_nonneg hm0]; exact HCB.out
          have KEEP : Hid (∀ W, Below w8.heap.size w8 W → (Hid (Below w8.heap.size w8 W) ∧ W.cell? ⟨w.heap.size, 0, none⟩ = some (.int .i64 p) ∧ W.cell? ⟨w4.heap.size, 0, none⟩ = some (.int .i64 t.1) ∧ W.cell? ⟨w4.heap.size, 1, none⟩ = some (.slice ea t.2.length ec) ∧ W.cell? ⟨bb, 0, none⟩ = some (.int .i64 u.1) ∧ W.cell? ⟨bb, 1, none⟩ = some (.slice ea2 u.2.length ec2))) :=
            fun W hb => ⟨hb, cell_keep bx0 hb, cell_keep t0 hb, cell_keep t1 hb, cell_keep l0 hb, cell_keep l1 hb⟩
          have hp0 : p ≠ 0 := by omega
          clear bx0 bx1 bx2 bx3 t0 t1 l0 l1
          go_upto_region 12 with fail
          go_cut [16] from 76 to 92 (fun s16 wx => ∃ (b16 : Nat) (ea3 : Option Addr) (ec3 : Nat), s16 = .pointer (some ⟨b16, 0, none⟩) ∧ w8.heap.size ≤ b16 ∧ Below w8.heap.size w8 wx ∧ TB wx b16 b.1 (.slice ea3 b.2.length ec3) ∧ Sl wx (.slice ea3 b.2.length ec3) b.2)
          case first =>
            have HB0 : Hid (Below w8.heap.size w8 w8.drew) := (Below.refl _ _).drew
            have HBA : Hid (Below w8.heap.size w8 (w8.drew.alloc (.cells #[.int .i64 0, .slice none 0 0] 57))) := HB0.out.trans (belowNew.mono (Nat.le_refl _))
            have HBB : Hid (Below w8.heap.size w8 (w8.alloc (.cells #[.int .i64 0, .slice none 0 0] 57)).drew) := belowNew.drew
            have HZA : Hid (TZ (w8.drew.alloc (.cells #[.int .i64 0, .slice none 0 0] 57)) w8.heap.size) := tz_new w8.drew
            have HZB : Hid (TZ (w8.alloc (.cells #[.int .i64 0, .slice none 0 0] 57)).drew w8.heap.size) := (tz_new w8).below (Below.refl _ _).drew
            have LAYB : Hid (∀ W g (v0 v1 : Value), w8.heap.size ≤ g → Below w8.heap.size w8 W → Below w8.heap.size w8 ((W.setCell ⟨g, 0, none⟩ v0).setCell ⟨g, 1, none⟩ v1)) := fun W g v0 v1 hg h => (h.setCell hg _).setCell hg _
            go_region_held (fun W => Hid (Below w8.heap.size w8 W) ∧ W.cell? ⟨w.heap.size, 0, none⟩ = some (.int .i64 p) ∧ W.cell? ⟨w4.heap.size, 0, none⟩ = some (.int .i64 t.1) ∧ W.cell? ⟨w4.heap.size, 1, none⟩ = some (.slice ea t.2.length ec) ∧ W.cell? ⟨bb, 0, none⟩ = some (.int .i64 u.1) ∧ W.cell? ⟨bb, 1, none⟩ = some (.slice ea2 u.2.length ec2))
              (first | with_reducible exact KEEP.out _ HB0.out | with_reducible exact KEEP.out _ HBA.out | with_reducible exact KEEP.out _ HBB.out | with_reducible exact KEEP.out _ HBP.out | with_reducible exact KEEP.out _ HBI.out | with_reducible exact KEEP.out _ (HBI.out.trans (belowNew.mono HBI.out.size)) | with_reducible exact KEEP.out _ (HBP.out.trans (belowNew.mono HBP.out.size)) | with_reducible exact KEEP.out _ (LAYB.out _ _ _ _ HGE.out HBP.out))
              (first
                | (go_at_call 35; refine (HIV.out _).mono ?_; rintro e9 wI ⟨rfl, hbI⟩; have HBI := hid (HB0.out.trans (hbI.mono HB0.out.size)); clear hbI)
                | (go_at_call 35; refine (HIV.out _).mono ?_; rintro e9 wI ⟨rfl, hbI⟩; have HBI := hid (HBA.out.trans (hbI.mono HBA.out.size)); have HZI := hid (HZA.out.below hbI); have HGE : Hid (w8.heap.size ≤ w8.heap.size) := Nat.le_refl _; clear hbI)
                | (go_at_call 35; refine (HIV.out _).mono ?_; rintro e9 wI ⟨rfl, hbI⟩; have HBI := hid (HBB.out.trans (hbI.mono HBB.out.size)); have HZI := hid (HZB.out.below hbI); have HGE : Hid (w8.heap.size ≤ w8.heap.size) := Nat.le_refl _; clear hbI)
                | (go_at_call 36; refine (HPO.out wI HBI.out).mono ?_; rintro e9 wP ⟨ea3, ec3, rfl, hsP, hbP⟩; have HBP := hid (HBI.out.trans (hbP.mono HBI.out.size)); have HSP := hid hsP; have HZP := hid (TZ.below HZI.out hbP); have HGL9 : Hid (w8.heap.size < wI.heap.size) := (World.ownsRow.lt HZI.out _ rfl).2; clear hbP hsP; have y0 := World.ownsRow.cellAt HZP.out 0 (by simp); have y1 := World.ownsRow.cellAt HZP.out 1 (by simp); have z0 := World.ownsRow.frozenAt HZP.out 0; have z1 := World.ownsRow.frozenAt HZP.out 1)
                | (go_at_call 36; refine (HPO.out wI HBI.out).mono ?_; rintro e9 wP ⟨ea3, ec3, rfl, hsP, hbP⟩; have HBP := hid (HBI.out.trans (hbP.mono HBI.out.size)); have HSP := hid hsP; clear hbP hsP)
                | (go_at_call 36; refine (HPO.out _ (HBI.out.trans (belowNew.mono HBI.out.size))).mono ?_; rintro e9 wP ⟨ea3, ec3, rfl, hsP, hbP⟩; have HBP := hid ((HBI.out.trans (belowNew.mono HBI.out.size)).trans (hbP.mono (HBI.out.trans (belowNew.mono HBI.out.size)).size)); have HSP := hid hsP; have HZP := hid ((tz_new wI).below hbP); have HGL9 : Hid (wI.heap.size < (wI.alloc (.cells #[.int .i64 0, .slice none 0 0] 57)).heap.size) := (by show _ < _; simp); have HGE := hid HBI.out.size; clear hbP hsP; have y0 := World.ownsRow.cellAt HZP.out 0 (by simp); have y1 := World.ownsRow.cellAt HZP.out 1 (by simp); have z0 := World.ownsRow.frozenAt HZP.out 0; have z1 := World.ownsRow.frozenAt HZP.out 1))
            all_goals
              go_wp2_with fail
              go_meet
              first
                | exact ⟨_, ea3, ec3, rfl, HBP.out.size, HBP.out.trans (belowNew.mono HBP.out.size), by rw [← HCT.out]; exact tb_new _ _ _, (ownsRow_sl HSP.out).below belowNew⟩
                | exact ⟨_, ea3, ec3, rfl, HGE.out, LAYB.out _ _ _ _ HGE.out HBP.out, by rw [← HCT.out]; exact HZP.out.put _ _, ownsRow_sl (own_past HSP.out HZP.out HGL9.out _ _)⟩
          case rest =>
            obtain ⟨b16, ea3, ec3, rfl, hge, hbx, htb, hsl⟩ := hcut
            have HG16 := hid hge
            clear hge
            rename World => w10
            have HB10 := hid hbx
            have HY10 := hid htb
            have HSY := hid hsl
            have HD10 : Hid (Below w1.heap.size w1 w10) := HD8.out.trans (hbx.mono HD8.out.size)
            have HR8 : Hid (Below wr.heap.size wr w8) := HB67.out.trans (HB8.out.mono HB67.out.size)
            have HR10 : Hid (Below wr.heap.size wr w10) := HR8.out.trans (hbx.mono HR8.out.size)
            clear KEEP HIV HPO hbx htb hsl hm1 hm0 hiv hp0 HCB HCT
            obtain ⟨uq, hq⟩ := HD.out.q
            have hq10 := hq.next HR10.out
            have HQ10 := hid hq10
            have HQZ := hid (World.ownsRow.lt hq.own qa rfl)
            have HQL := hid HD.out.inv.ql
            have hiq : i < s.q.length := by rw [HD.out.inv.ql]; exact hil
            have HO10 : Hid (∀ W, Below w10.heap.size w10 W → W.ownsRow w1.heap.size 54 1 (.slice (some ⟨qa, 0, none⟩) lss.length lss.length) lss.length uq) := fun W hb => by
              have h := (HQ10.out.next hb).own
              rw [HQL.out] at h; exact h
            have hcq := World.ownsRow.cellAt (HO10.out _ (Below.refl _ _)) i (by omega)
            have huj : uq[i]? = some (uq.getD i nilV) := by simp [List.getD_eq_getElem?_getD, show i < uq.length by rw [hq.len]; exact hiq]
            rw [huj] at hcq
            have hpf := hq10.pls i hiq
            have HQK := hid (HD.out.inv.qok i)
            have HQK2 : Hid (Canon p o N (s.q.getD i [] ++ [b])) := by
              have h := (HIN.out.1.qok i).1
              simp only [getD_set] at h
              rw [if_pos (by first | exact ⟨rfl, hiq⟩ | exact ⟨trivial, hiq⟩)] at h
              exact h
            have hts : sumI t.2 ≤ 8000 := by
              have h1 := HD.out.inv.vok.deg j t HJ.out.2.1
              have h2 := (Dg_bd (ov := ov) HX.out.r j hjR).2
              omega
            have HBB : Hid (∀ x ∈ b.2, 0 ≤ x ∧ x ≤ 8000) := fun x hx => by
              have h1 := le_sumI HBY.out.bn x hx
              have h2 := HBY.out.sum
              have h3 := HBY.out.un
              exact ⟨HBY.out.bn x hx, by omega⟩
            generalize s.q.getD i [] = f at hpf HQK HQK2 HST HIN
            generalize uq.getD i nilV = uj at hcq hpf
            have HPF := hid hpf
            obtain ⟨fa, fc, rfl, _, _⟩ := hpf
            have HFB : Hid (∀ t ∈ f, ∀ x ∈ t.2, 0 ≤ x ∧ x ≤ 8000) := fun t2 ht2 x hx => by
              have h1 := HQK.out.2.1 t2 ht2
              have h2 := le_sumI h1 x hx
              have h3 := HQK.out.2.2 t2 ht2
              exact ⟨h1 x hx, by omega⟩
            have HFL := hid (canon_short HN3.out HQK.out.1 HFB.out)
            have HSU : Hid (∀ W, Below w10.heap.size w10 W → Pl W (.slice (some ⟨w10.heap.size, 0, none⟩) 1 1) [b] → Calls Tryz.prog 37 #[ringV p N o ov, .slice fa f.length fc, .slice (some ⟨w10.heap.size, 0, none⟩) 1 1] W fun e w' => ∃ za zc, e = .returned (.slice za (f ++ [b]).length zc) ∧ Pl w' (.slice za (f ++ [b]).length zc) (f ++ [b]) ∧ Below W.heap.size W w') := fun W hb h1 => by
              refine (refSum_any p N o ov N _ _ f [b] W ⟨hp1, hp2⟩ HX.out.o HN0.out HN3.out (fun t2 ht2 => ⟨HQK.out.1.len t2 ht2, fun x hx => by have := HFB.out t2 ht2 x hx; omega, by have := HQK.out.1.coef t2 ht2; omega, (HQK.out.1.coef t2 ht2).2⟩) (fun t2 ht2 => by rw [List.mem_singleton] at ht2; rw [ht2]; exact ⟨HBY.out.bl, fun x hx => by have := HBB.out x hx; omega, by have := HBY.out.bc; omega, HBY.out.bc.2⟩) (by have := HFL.out; simp; omega) (HPF.out.below hb) h1).mono ?_
              rintro e w' ⟨z, rfl, h2, h3⟩
              rw [col_self hp1 HQK2.out] at h2
              have h4 := h2
              obtain ⟨za, zc, rfl, _, _⟩ := h2
              exact ⟨za, zc, rfl, h4, h3⟩
            unfold ringV at HSU
            obtain ⟨_, bx0, bx1, bx2, bx3⟩ := HX1.out.below HD10.out
            obtain ⟨y0, y1⟩ := HY10.out
            have hbA : Below w10.heap.size w10 (w10.alloc (.cells #[.int .i64 b.1, .slice ea3 b.2.length ec3] 57)) := belowNew
            have HBA := hid hbA.drew
            have a0 := cell_keep bx0 hbA
            have a1 := cell_keep bx1 hbA
            have a2 := cell_keep bx2 hbA
            have a3 := cell_keep bx3 hbA
            have a4 := cell_keep hcq hbA
            have HONE : Hid (Pl (w10.alloc (.cells #[.int .i64 b.1, .slice ea3 b.2.length ec3] 57)).drew (.slice (some ⟨w10.heap.size, 0, none⟩) 1 1) [b]) := by
              have h1 : Pl (w10.alloc (.cells #[.int .i64 b.1, .slice ea3 b.2.length ec3] 57)) (.slice (some ⟨w10.heap.size, 0, none⟩) 1 1) [(b.1, b.2)] := one_pl (by simp) (tb_new w10 _ _) (HSY.out.below belowNew)
              exact h1.below (Below.refl _ _).drew
            have HCQ := hid hcq
            clear hq hq10 huj hbA hts
            go_upto_region 13 with fail
            go_cut [] from 93 to 103 (fun wx => ∃ w11 z, wx = w11.setCell ⟨qa, i, none⟩ z ∧ Below w10.heap.size w10 w11 ∧ Pl w11 z (f ++ [b]))
            case first =>
              go_region_with (go_at_call 37; refine (HSU.out _ HBA.out HONE.out).mono ?_; rintro e11 w11 ⟨za, zc, rfl, hz, hb11⟩; have HB11 := hid (HBA.out.trans (hb11.mono HBA.out.size)); have HZ11 := hid hz; have c11 := cell_keep HCQ.out HB11.out; have f11 := World.ownsRow.frozenAt (HO10.out _ HB11.out) i; clear hz hb11)
              all_goals
                go_wp2_with fail
                go_meet
                exact ⟨w11, _, rfl, HB11.out, by have h := HZ11.out; rw [len_snoc] at h; exact h⟩
            case rest =>
              rename World => w12
              obtain ⟨w11, z, hwc, hb11, hz⟩ := hcut
              have HD11 : Hid (Below w1.heap.size w1 w11) := HD10.out.trans (hb11.mono HD10.out.size)
              have hq11 := HQ10.out.next hb11
              have hk11 := hq11.kind qa rfl
              obtain ⟨hpr, hgr⟩ := hq11.put (i := i) HQL.out.symm hiq hz
              rw [← hwc] at hpr hgr
              obtain ⟨ul, hl⟩ := HD.out.l
              have HLZ := hid (World.ownsRow.lt hl.own la rfl)
              have HV12 := hid (Vl.far ((HD.out.vl.below HR10.out).below hb11) hk11 hgr HD.out.nq)
              have HQ12 := hid hpr
              have HL12 := hid (((hl.next HR10.out).next hb11).far hk11 hgr (by simpa [Value.ownBlock] using HQA.out.2.2.symm))
              have HD12 : Hid (Below w1.heap.size w1 w12) := HD11.out.trans (grown_below hgr HQA.out.1 HD11.out.size)
              have HS12 := hid (sl_keep hk11 hgr (HSY.out.below hb11))
              have hbq : b16 ≠ qa := by have := HG16.out; have := HQZ.out.2; have := HR8.out.size; omega
              have HTB12 : Hid (TB w12 b16 b.1 (.slice ea3 b.2.length ec3)) := ⟨hgr.cell (cell_keep y0 hb11) (by simpa using hbq), hgr.cell (cell_keep y1 hb11) (by simpa using hbq)⟩
              have HZ12 : Hid (qa < w12.heap.size ∧ la < w12.heap.size) := ⟨by have := HQZ.out.2; have := HR10.out.size; have := hb11.size; have := hgr.size; omega, by have := HLZ.out.2; have := HR10.out.size; have := hb11.size; have := hgr.size; omega⟩
              clear bx0 bx1 bx2 bx3 y0 y1 a0 a1 a2 a3 a4 hcq HSU HONE HBA hq11 hk11 hpr hgr hl hwc hb11 hz hbq
              obtain ⟨y0, y1⟩ := HTB12.out
              obtain ⟨_, bx0, bx1, bx2, bx3⟩ := HX1.out.below HD12.out
              have hd12 := cell_keep (cell_keep HD00.out HB1.out) HD12.out
              have hbc := HBY.out.bc
              have HRG : Hid (Rg2 p o N [(p - b.1, b.2)]) := ⟨⟨fun x hx => by rw [List.mem_singleton] at hx; rw [hx]; exact HBY.out.bl, ⟨fun x hx => by simp at hx, trivial⟩, fun x hx => by rw [List.mem_singleton] at hx; rw [hx]; simp only; omega⟩, fun x hx y hy => by rw [List.mem_singleton] at hx; rw [hx] at hy; have := HBB.out y hy; omega, by simp⟩
              have HVT : Hid (∀ W, Below w12.heap.size w12 W → Pl W (.slice (some ⟨w12.heap.size, 0, none⟩) 1 1) [(p - b.1, b.2)] → Calls Tryz.prog 38 #[ringV p N o ov, .slice (some ⟨w12.heap.size, 0, none⟩) 1 1, .slice va g.length vc] W fun e w' => ∃ ua uc, e = .returned (.slice ua R uc) ∧ Vl w' (.slice ua R uc) (prods p o [(p - b.1, b.2)] g) ∧ Below W.heap.size W w') := fun W hb h1 => by
                refine (vtimes_big p N o ov N _ _ [(p - b.1, b.2)] g W ⟨hp1, hp2⟩ HX.out.o HN0.out HN3.out (by rw [HGL.out]; omega) HRG.out HGR.out h1 (((HPV0.out.below HB1.out).below HD12.out).below hb)).mono ?_
                rintro e w' ⟨z, rfl, h2, h3⟩
                have h4 := h2
                obtain ⟨ua, uc, rfl, _⟩ := h2
                have e1 : (prods p o [(p - b.1, b.2)] g).length = R := by unfold prods; rw [List.length_map, HGL.out]
                rw [e1] at h4
                exact ⟨ua, uc, by rw [e1], h4, h3⟩
              unfold ringV at HVT
              have KEEP : Hid (∀ W, Below w12.heap.size w12 W → (Hid (Below w12.heap.size w12 W) ∧ W.cell? ⟨w.heap.size, 0, none⟩ = some (.int .i64 p) ∧ W.cell? ⟨w.heap.size, 1, none⟩ = some (.int .i64 N) ∧ W.cell? ⟨w.heap.size, 2, none⟩ = some (.int .i64 o) ∧ W.cell? ⟨w.heap.size, 3, none⟩ = some (.int .i64 ov) ∧ W.cell? ⟨b16, 0, none⟩ = some (.int .i64 b.1) ∧ W.cell? ⟨b16, 1, none⟩ = some (.slice ea3 b.2.length ec3) ∧ W.cell? ⟨b2, off2 + i, none⟩ = some (.slice va g.length vc))) :=
                fun W hb => ⟨hb, cell_keep bx0 hb, cell_keep bx1 hb, cell_keep bx2 hb, cell_keep bx3 hb, cell_keep y0 hb, cell_keep y1 hb, cell_keep hd12 hb⟩
              have HONE : Hid (Pl (w12.alloc (.cells #[.int .i64 (p - b.1), .slice ea3 b.2.length ec3] 57)) (.slice (some ⟨w12.heap.size, 0, none⟩) 1 1) [(p - b.1, b.2)]) := one_pl (by simp) (tb_new w12 _ _) (HS12.out.below belowNew)
              clear bx0 bx1 bx2 bx3 y0 y1 hd12
              go_upto_region 14 with fail
              go_cut [12] from 104 to 118 (fun s12 wx => ∃ ua uc, s12 = .slice ua R uc ∧ Vl wx (.slice ua R uc) (prods p o [(p - b.1, b.2)] g) ∧ Below w12.heap.size w12 wx)
              case first =>
                have hwp : IntKind.i64.wrap (p - b.1) = p - b.1 := by rw [IntKind.wrap_i64]; omega
                have HB0 : Hid (Below w12.heap.size w12 w12.drew) := (Below.refl _ _).drew
                have HBA : Hid (Below w12.heap.size w12 (w12.drew.alloc (.cells #[.int .i64 (IntKind.i64.wrap (p - b.1)), .slice ea3 b.2.length ec3] 57))) := HB0.out.trans (belowNew.mono (Nat.le_refl _))
                have HBB2 : Hid (Below w12.heap.size w12 (w12.alloc (.cells #[.int .i64 (IntKind.i64.wrap (p - b.1)), .slice ea3 b.2.length ec3] 57)).drew) := belowNew.drew
                have HOA : Hid (Pl (w12.drew.alloc (.cells #[.int .i64 (IntKind.i64.wrap (p - b.1)), .slice ea3 b.2.length ec3] 57)) (.slice (some ⟨w12.heap.size, 0, none⟩) 1 1) [(p - b.1, b.2)]) := by
                  show Pl _ _ _
                  rw [hwp]; exact one_pl (by simp) (tb_new w12.drew _ _) ((HS12.out.below (Below.refl _ _).drew).below belowNew)
                have HOB : Hid (Pl (w12.alloc (.cells #[.int .i64 (IntKind.i64.wrap (p - b.1)), .slice ea3 b.2.length ec3] 57)).drew (.slice (some ⟨w12.heap.size, 0, none⟩) 1 1) [(p - b.1, b.2)]) := by
                  show Pl _ _ _
                  rw [hwp]; exact HONE.out.below (Below.refl _ _).drew
                clear hwp
                go_region_held (fun W => Hid (Below w12.heap.size w12 W) ∧ W.cell? ⟨w.heap.size, 0, none⟩ = some (.int .i64 p) ∧ W.cell? ⟨w.heap.size, 1, none⟩ = some (.int .i64 N) ∧ W.cell? ⟨w.heap.size, 2, none⟩ = some (.int .i64 o) ∧ W.cell? ⟨w.heap.size, 3, none⟩ = some (.int .i64 ov) ∧ W.cell? ⟨b16, 0, none⟩ = some (.int .i64 b.1) ∧ W.cell? ⟨b16, 1, none⟩ = some (.slice ea3 b.2.length ec3) ∧ W.cell? ⟨b2, off2 + i, none⟩ = some (.slice va g.length vc))
                  (first | with_reducible exact KEEP.out _ HB0.out | with_reducible exact KEEP.out _ HBA.out | with_reducible exact KEEP.out _ HBB2.out | with_reducible exact KEEP.out _ HB13.out)
                  (first
                    | (go_at_call 38; refine (HVT.out _ HBB2.out HOB.out).mono ?_; rintro e13 w13 ⟨ua, uc, rfl, hz, hb13⟩; have HB13 := hid (HBB2.out.trans (hb13.mono HBB2.out.size)); have HZ13 := hid hz; clear hz hb13)
                    | (go_at_call 38; refine (HVT.out _ HBA.out HOA.out).mono ?_; rintro e13 w13 ⟨ua, uc, rfl, hz, hb13⟩; have HB13 := hid (HBA.out.trans (hb13.mono HBA.out.size)); have HZ13 := hid hz; clear hz hb13))
                all_goals
                  go_wp2_with fail
                  go_meet
                  exact ⟨ua, uc, rfl, HZ13.out, HB13.out⟩
              case rest =>
                rename World => w13
                obtain ⟨ua, uc, rfl, hza, hb13⟩ := hcut
                have HZA := hid hza
                have HB13 := hid hb13
                have HD13 : Hid (Below w1.heap.size w1 w13) := HD12.out.trans (hb13.mono HD12.out.size)
                have HVS := hid (vsumF_any p N o ov N (.slice xa2 R xc2) (.slice ua R uc) s.v (prods p o [(p - b.1, b.2)] g) w13 ⟨hp1, hp2⟩ HX.out.o HN0.out HN3.out (by rw [HD.out.inv.vl]; unfold prods; rw [List.length_map, HGL.out]) (by rw [HD.out.inv.vl]; omega) (sm_of HX.out HD.out.inv.vok HD.out.inv.vl) (prods_sm hp1 HRG.out HGR.out) (HV12.out.below hb13) hza)
                obtain ⟨_, r0, r1, r2, r3⟩ := HX1.out.below HD13.out
                unfold ringV at HVS
                clear hza hb13 KEEP HVT HONE hbc
                go_wp2_with (go_at_call 39; refine HVS.out.mono ?_; rintro e w14 ⟨uu, us14, rfl, hpu, hb14⟩; have HPU14 := hid hpu; have HB14 := hid hb14; clear hpu hb14)
                go_roundw
                case rel =>
                  exact ⟨⟨sums p o s.v (prods p o [(p - b.1, b.2)] g), s.q.set i (f ++ [b]), s.l⟩, HPU14.out.vl, fun e => by have := prow_vbk HPU14.out _ e; have := HZ12.out; have := HB13.out.size; omega, fun e => by have := prow_vbk HPU14.out _ e; have := HZ12.out; have := HB13.out.size; omega, ⟨_, (HQ12.out.next HB13.out).next HB14.out⟩, ⟨_, (HL12.out.next HB13.out).next HB14.out⟩, HD.out.dv.step HST.out, HIN.out.1, HD13.out.trans (HB14.out.mono HD13.out.size)⟩
                case measure =>
                  have h := dms_lt HX.out HLK.out HD.out.inv HST.out
                  rw [HMV.out _ _ _ HPU14.out.vl, HMS.out]
                  exact h

theorem divideOf_any (p o ov : Int) (N R : Nat) (x lv : Value) (v0 : List (List Tm)) (lss : List (List (List Tm))) (w : World) (hx : RCx p o ov N R) (hl : LOk p o N R lss) (hL : lss.length ≤ 60) (hr : ∀ g ∈ lss, ∀ f ∈ g, Right p o N f) (hvl : v0.length = R) (hR1 : 1 ≤ R) (hv : ∀ f ∈ v0, Right p o N f) (hxv : Vl w x v0) (hlv : Wl w lv lss) :
    Calls Tryz.prog 8 #[ringV p N o ov, x, lv] w fun e w' => ∃ qv xv s, e = .returned (.tuple #[qv, xv]) ∧ Vl w' qv s.q ∧ Vl w' xv s.l ∧ Dv p o ov lss ⟨v0, List.replicate lss.length [], List.replicate R []⟩ s ∧ DInv p o ov N R lss s ∧ leadF o ov s.v s.v.length = none ∧ Below w.heap.size w w' :=
  divideOf_inv p o ov N R x lv v0 lss w hx hl hL hr hvl hR1 (dinv_start (lss := lss) hx.ov hvl hv) hxv hlv
end Go.Proofs.YtilogbggilchaaaGreat
