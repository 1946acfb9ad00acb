/- bare.Product. -/
import Derived.Test.YtilogbggilchaaaDoorPJ
namespace Go.Proofs.YtilogbggilchaaaDoor
set_option linter.unusedSimpArgs false
set_option linter.unusedVariables false
open Go.RowKit
def Bd2 (ts : List Tm) : Prop := ∀ t ∈ ts, ∀ x ∈ t.2, 0 ≤ x ∧ x ≤ 200
theorem Bd2.bd {ts : List Tm} (h : Bd2 ts) : Bd ts := fun t ht x hx => by have := h t ht x hx; omega
theorem getD_memT (ts : List Tm) (k : Nat) (h : k < ts.length) : ts.getD k noT ∈ ts := by
  rw [List.getD_eq_getElem?_getD, List.getElem?_eq_getElem h]; simp
theorem zip_bd : ∀ (a b : List Int), (∀ x ∈ a, 0 ≤ x ∧ x ≤ 200) → (∀ x ∈ b, 0 ≤ x ∧ x ≤ 200) → ∀ x ∈ zipI (· + ·) a b, 0 ≤ x ∧ x ≤ 400
  | [], _, _, _, x, hx => by simp [zipI] at hx
  | _ :: _, [], _, _, x, hx => by simp [zipI] at hx
  | a :: ar, b :: br, ha, hb, x, hx => by
    simp only [zipI, List.mem_cons] at hx
    rcases hx with rfl | hx
    · have := ha a (by simp); have := hb b (by simp); omega
    · exact zip_bd ar br (fun y hy => ha y (by simp [hy])) (fun y hy => hb y (by simp [hy])) x hx
theorem prodT_bd {p : Int} {t : Tm} {gs : List Tm} (ht : ∀ x ∈ t.2, 0 ≤ x ∧ x ≤ 200) (hg : Bd2 gs) : Bd (prodT p t gs) := by
  intro u hu
  simp only [prodT, List.mem_map] at hu
  obtain ⟨g, hgm, rfl⟩ := hu
  exact zip_bd _ _ ht (hg g hgm)

set_option maxRecDepth 100000 in
set_option maxHeartbeats 1000000 in
theorem prodFn_any (p n o v : Int) (N i rb fb gb : Nat) (fv gv : Value) (fs gs : List Tm) (w : World) (hp : 2 ≤ p ∧ p ≤ 101) (hN0 : 0 < N) (hN : N ≤ 3) (hf : Canon p o N fs) (hg : Canon p o N gs) (bf : Bd2 fs) (bg : Bd2 gs) (hm : gs.length ≤ 4000000) (hi : i < fs.length)
    (hbx : BoxAt w rb p n o v) (hcf : w.cell? ⟨fb, 0, none⟩ = some fv) (hcg : w.cell? ⟨gb, 0, none⟩ = some gv) (pf : Pl w fv fs) (pg : Pl w gv gs) :
    Calls Tryd.prog 58 #[.int .i64 i, .pointer (some ⟨rb, 0, none⟩), .pointer (some ⟨fb, 0, none⟩), .pointer (some ⟨gb, 0, none⟩)] w fun e w' => ∃ u, e = .returned u ∧ Pl w' u (prodT p (fs.getD i noT) gs) ∧ Below w.heap.size w w' := by
  have HPG := hid pg
  obtain ⟨fa, fc, rfl, _, hfc⟩ := pf
  obtain ⟨ga, gc, rfl, _, _⟩ := pg
  obtain ⟨b, off, rfl, hlt, hat⟩ := hfc (by omega)
  obtain ⟨c0, ev, c1, hse⟩ := hat i hi
  obtain ⟨bx, bx0, bx1, bx2, bx3⟩ := hbx
  have HT := hid (And.intro (hf.coef _ (getD_memT fs i hi)) (And.intro (hf.len _ (getD_memT fs i hi)) (bf _ (getD_memT fs i hi))))
  have HG : Hid (∀ t ∈ gs, t.2.length = N ∧ (∀ x ∈ t.2, 0 ≤ x ∧ x ≤ 200) ∧ 0 ≤ t.1 ∧ t.1 < p) := fun t ht => ⟨hg.len t ht, bg t ht, by have := hg.coef t ht; omega, (hg.coef t ht).2⟩
  generalize fs.getD i noT = t at c0 hse HT
  obtain ⟨tc, te⟩ := t
  have HSE := hid hse
  obtain ⟨ea, ec, rfl, _⟩ := hse
  have HP := hid hp
  simp only at c0 c1
  have hte0 : 0 < te.length := by have := HT.out.2.1; simp only at this; omega
  have hte3 : te.length ≤ 3 := by have := HT.out.2.1; simp only at this; omega
  have KEEP : Hid (∀ W, Below w.heap.size w W → (Hid (Below w.heap.size w W) ∧ W.cell? ⟨rb, 0, none⟩ = some (.int .i64 p) ∧ W.cell? ⟨rb, 1, none⟩ = some (.int .i64 n) ∧ W.cell? ⟨rb, 2, none⟩ = some (.int .i64 o) ∧ W.cell? ⟨rb, 3, none⟩ = some (.int .i64 v) ∧ W.cell? ⟨fb, 0, none⟩ = some (.slice (some ⟨b, off, none⟩) fs.length fc) ∧ W.cell? ⟨gb, 0, none⟩ = some (.slice ga gs.length gc) ∧ W.cell? ⟨b, off + i * 2, none⟩ = some (.int .i64 tc) ∧ W.cell? ⟨b, off + i * 2 + 1, none⟩ = some (.slice ea te.length ec))) :=
    fun W hb => ⟨hb, cell_keep bx0 hb, cell_keep bx1 hb, cell_keep bx2 hb, cell_keep bx3 hb, cell_keep hcf hb, cell_keep hcg hb, cell_keep c0 hb, cell_keep c1 hb⟩
  clear hf hg bf bg hfc hat hp
  go_enter Tryd.func58, Tryd.ntmps58
  go_wp2
  go_region_held (fun W => Hid (Below w.heap.size w W) ∧ W.cell? ⟨rb, 0, none⟩ = some (.int .i64 p) ∧ W.cell? ⟨rb, 1, none⟩ = some (.int .i64 n) ∧ W.cell? ⟨rb, 2, none⟩ = some (.int .i64 o) ∧ W.cell? ⟨rb, 3, none⟩ = some (.int .i64 v) ∧ W.cell? ⟨fb, 0, none⟩ = some (.slice (some ⟨b, off, none⟩) fs.length fc) ∧ W.cell? ⟨gb, 0, none⟩ = some (.slice ga gs.length gc) ∧ W.cell? ⟨b, off + i * 2, none⟩ = some (.int .i64 tc) ∧ W.cell? ⟨b, off + i * 2 + 1, none⟩ = some (.slice ea te.length ec))
    (first | exact KEEP.out _ (Below.refl _ _).drew | exact KEEP.out _ (below_step (by assumption) hb9 (Nat.le_refl _)))
    (first | (go_at_call 59; refine (bareScale_any p n o v tc _ te _ gs _ HP.out ⟨by have := HT.out.1; omega, HT.out.1.2⟩ hte0 hte3 HT.out.2.2 (fun t ht => ⟨(HG.out t ht).1.trans HT.out.2.1.symm, (HG.out t ht).2⟩) hm ?_ ?_).mono ?_; exact HSE.out.below (Below.refl _ _).drew; exact HPG.out.below (Below.refl _ _).drew; rintro e w9 ⟨u, rfl, hu, hb9⟩; have HU := hid hu; obtain ⟨ua, uc, rfl, _, _⟩ := hu))
  have hb19 : Below w.heap.size w w9 := Hid.out (And.left (by assumption))
  go_wp2
  go_ret
  exact ⟨_, rfl, HU.out, hb19⟩

structure Boxes (w w0 : World) (p n o v : Int) (fv gv : Value) : Prop where
  below : Below w.heap.size w w0
  box : BoxAt w0 w.heap.size p n o v
  cf : w0.cell? ⟨w.heap.size + 1, 0, none⟩ = some fv
  cg : w0.cell? ⟨w.heap.size + 1 + 1, 0, none⟩ = some gv

theorem prodDone {p n o v : Int} {N : Nat} {fv gv : Value} {fs gs : List Tm} {w w0 : World} (he : errP p = 0) (ho : o = 1 ∨ o = 2) (hN0 : 0 < N) (hN : N ≤ 3) (hf : Canon p o N fs) (hg : Canon p o N gs) (bf : Bd2 fs) (bg : Bd2 gs) (lf : fs.length ≤ 2000) (lg : gs.length ≤ 2000)
    (hb : Boxes w w0 p n o v fv gv) (pf : Pl w fv fs) (pg : Pl w gv gs) :
    Calls Tryd.prog 54 #[ringV p n o v, .int .i64 0, .int .i64 fs.length, .func (.func 58) #[] #[.pointer (some ⟨w.heap.size, 0, none⟩), .pointer (some ⟨w.heap.size + 1, 0, none⟩), .pointer (some ⟨w.heap.size + 1 + 1, 0, none⟩)]] w0 fun e w' =>
      ∃ u, e = .returned u ∧ Pl w' u (colL p o (prodL p fs gs)) ∧ Below w0.heap.size w0 w' := by
  have hp := errP_bd he
  have H : ∀ i w', i < fs.length → Below w0.heap.size w0 w' → Calls Tryd.prog 58 #[.int .i64 i, .pointer (some ⟨w.heap.size, 0, none⟩), .pointer (some ⟨w.heap.size + 1, 0, none⟩), .pointer (some ⟨w.heap.size + 1 + 1, 0, none⟩)] w' fun e w'' => ∃ u, e = .returned u ∧ Pl w'' u (prodT p (fs.getD i noT) gs) ∧ Below w'.heap.size w' w'' := by
    intro i w' hi hbw
    have hbb := hb.below.trans (hbw.mono hb.below.size)
    exact prodFn_any p n o v N i _ _ _ fv gv fs gs w' hp hN0 hN hf hg bf bg (by omega) hi (hb.box.below hbw) (cell_keep hb.cf hbw) (cell_keep hb.cg hbw) (pf.below hbb) (pg.below hbb)
  have hF : ∀ i, i < fs.length → Canon p o N (prodT p (fs.getD i noT) gs) ∧ Bd (prodT p (fs.getD i noT) gs) ∧ (prodT p (fs.getD i noT) gs).length ≤ 2000 := by
    intro i hi
    have hm := getD_memT fs i hi
    exact ⟨prodT_canon he (hf.coef _ hm) (hf.len _ hm) hg, prodT_bd (bf _ hm) bg, by simp [prodT]; omega⟩
  have hL : fs.length * 2000 ≤ 4000000 := by omega
  refine (sumOfP_any p n o v N fs.length 2000 (fun i => prodT p (fs.getD i noT) gs) _ _ _ w0 hp ho hN0 hN hF (by omega) hL H fs.length 0 fs.length w0 (by omega) (by omega) (Nat.le_refl _) (Below.refl _ _)).mono ?_
  rintro e w1 ⟨u, ts, rfl, hr, hb1⟩
  refine ⟨u, rfl, ?_, hb1⟩
  have hs := hr.same
  rw [Nat.sub_zero, cat_prod] at hs
  have ho := hf.okl.prod hp.1 hg.okl
  have e := col_of_canon hp.1 ho.len ho.coef hr.canon hs
  rw [← e]
  exact hr.pl

set_option maxRecDepth 100000 in
set_option maxHeartbeats 1000000 in
theorem bareProduct_any (p n o v : Int) (N : Nat) (fv gv : Value) (fs gs : List Tm) (w : World) (he : errP p = 0) (ho : o = 1 ∨ o = 2) (hN0 : 0 < N) (hN : N ≤ 3) (hf : Canon p o N fs) (hg : Canon p o N gs) (bf : Bd2 fs) (bg : Bd2 gs) (lf : fs.length ≤ 2000) (lg : gs.length ≤ 2000)
    (pf : Pl w fv fs) (pg : Pl w gv gs) :
    Calls Tryd.prog 27 #[ringV p n o v, fv, gv] w fun e w' => ∃ u, e = .returned u ∧ Pl w' u (colL p o (prodL p fs gs)) ∧ Below w.heap.size w w' := by
  have HPF := hid pf
  have HPG := hid pg
  have HALL := hid (And.intro he (And.intro ho (And.intro hf (And.intro hg (And.intro bf bg)))))
  obtain ⟨fa, fc, rfl, _, _⟩ := pf
  obtain ⟨ga, gc, rfl, _, _⟩ := pg
  clear he ho hf hg bf bg
  by_cases hlen : gs.length < fs.length
  · have HB : Hid (∀ T1 T2 T3, Boxes w ((((w.alloc (.cells #[.int .i64 p, .int .i64 n, .int .i64 o, .int .i64 v] T1)).alloc (.cells #[.slice ga gs.length gc] T2)).alloc (.cells #[.slice fa fs.length fc] T3))) p n o v (.slice ga gs.length gc) (.slice fa fs.length fc)) := by
      intro T1 T2 T3
      exact ⟨((below_two).alloc (by simp; omega) _), ⟨by simp; omega, by simp [go_sem], by simp [go_sem], by simp [go_sem], by simp [go_sem]⟩, by simp [go_sem], by simp [go_sem]⟩
    go_enter Tryd.func27, Tryd.ntmps27
    go_wp2_with fail
    refine (prodDone HALL.out.1 HALL.out.2.1 hN0 hN HALL.out.2.2.2.1 HALL.out.2.2.1 HALL.out.2.2.2.2.2 HALL.out.2.2.2.2.1 lg lf (HB.out _ _ _) HPG.out HPF.out).mono ?_
    rintro e w1 ⟨u, rfl, hu, hb1⟩
    rw [mul_swap (errP_bd HALL.out.1).1 HALL.out.2.2.2.1.okl HALL.out.2.2.1.okl] at hu
    have HU := hid hu
    have HB1 := hid ((HB.out _ _ _).below.trans (hb1.mono (HB.out _ _ _).below.size))
    obtain ⟨ua, uc, rfl, _, _⟩ := hu
    clear hb1
    go_wp2
    go_ret
    exact ⟨_, rfl, HU.out, HB1.out⟩
  · have HB : Hid (∀ T1 T2 T3, Boxes w ((((w.alloc (.cells #[.int .i64 p, .int .i64 n, .int .i64 o, .int .i64 v] T1)).alloc (.cells #[.slice fa fs.length fc] T2)).alloc (.cells #[.slice ga gs.length gc] T3))) p n o v (.slice fa fs.length fc) (.slice ga gs.length gc)) := by
      intro T1 T2 T3
      exact ⟨((below_two).alloc (by simp; omega) _), ⟨by simp; omega, by simp [go_sem], by simp [go_sem], by simp [go_sem], by simp [go_sem]⟩, by simp [go_sem], by simp [go_sem]⟩
    go_enter Tryd.func27, Tryd.ntmps27
    go_wp2_with fail
    refine (prodDone HALL.out.1 HALL.out.2.1 hN0 hN HALL.out.2.2.1 HALL.out.2.2.2.1 HALL.out.2.2.2.2.1 HALL.out.2.2.2.2.2 lf lg (HB.out _ _ _) HPF.out HPG.out).mono ?_
    rintro e w1 ⟨u, rfl, hu, hb1⟩
    have HU := hid hu
    have HB1 := hid ((HB.out _ _ _).below.trans (hb1.mono (HB.out _ _ _).below.size))
    obtain ⟨ua, uc, rfl, _, _⟩ := hu
    clear hb1
    go_wp2
    go_ret
    exact ⟨_, rfl, HU.out, HB1.out⟩
end Go.Proofs.YtilogbggilchaaaDoor
