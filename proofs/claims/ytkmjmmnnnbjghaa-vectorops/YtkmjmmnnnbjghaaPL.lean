/- bare.Product. -/
import Derived.Test.YtkmjmmnnnbjghaaPI
import Derived.Test.YtkmjmmnnnbjghaaI
import Derived.Deep.DeepCutAuto
import Derived.Test.YtkmjmmnnnbjghaaM
import Derived.Deep.RegionHeld
namespace Go.Proofs.Ytkmjmmnnnbjghaa
set_option linter.unusedSimpArgs false
set_option linter.unusedVariables false
open Go.RowKit

/-- Exponents of what came in. -/
def Bd2 (ts : List Tm) : Prop := ∀ t ∈ ts, ∀ x ∈ t.2, 0 ≤ x ∧ x ≤ 200
theorem Bd2.bd {ts : List Tm} (h : Bd2 ts) : Bd ts := fun t ht x hx => by have := h t ht x hx; omega
theorem getD_memT (ts : List Tm) (k : Nat) (h : k < ts.length) : ts.getD k noT ∈ ts := by
  rw [List.getD_eq_getElem?_getD, List.getElem?_eq_getElem h]; simp
theorem zip_bd : ∀ (a b : List Int), (∀ x ∈ a, 0 ≤ x ∧ x ≤ 200) → (∀ x ∈ b, 0 ≤ x ∧ x ≤ 200) → ∀ x ∈ zipI (· + ·) a b, 0 ≤ x ∧ x ≤ 400
  | [], _, _, _, x, hx => by simp [zipI] at hx
  | _ :: _, [], _, _, x, hx => by simp [zipI] at hx
  | a :: ar, b :: br, ha, hb, x, hx => by
    simp only [zipI, List.mem_cons] at hx
    rcases hx with rfl | hx
    · have := ha a (by simp); have := hb b (by simp); omega
    · exact zip_bd ar br (fun y hy => ha y (by simp [hy])) (fun y hy => hb y (by simp [hy])) x hx
theorem prodT_bd {p : Int} {t : Tm} {gs : List Tm} (ht : ∀ x ∈ t.2, 0 ≤ x ∧ x ≤ 200) (hg : Bd2 gs) : Bd (prodT p t gs) := by
  intro u hu
  simp only [prodT, List.mem_map] at hu
  obtain ⟨g, hgm, rfl⟩ := hu
  exact zip_bd _ _ ht (hg g hgm)

set_option maxRecDepth 100000 in
set_option maxHeartbeats 1000000 in
theorem prodFn_any (p n o v : Int) (N i rb fb gb : Nat) (fv gv : Value) (fs gs : List Tm) (w : World) (hp : 2 ≤ p ∧ p ≤ 101) (hN0 : 0 < N) (hN : N ≤ 3) (hf : Canon p o N fs) (hg : Canon p o N gs) (bf : Bd2 fs) (bg : Bd2 gs) (hm : gs.length ≤ 4000000) (hi : i < fs.length)
    (hbx : BoxAt w rb p n o v) (hcf : w.cell? ⟨fb, 0, none⟩ = some fv) (hcg : w.cell? ⟨gb, 0, none⟩ = some gv) (pf : Pl w fv fs) (pg : Pl w gv gs) :
    Calls Try.prog 136 #[.int .i64 i, .pointer (some ⟨rb, 0, none⟩), .pointer (some ⟨fb, 0, none⟩), .pointer (some ⟨gb, 0, none⟩)] w fun e w' => ∃ u, e = .returned u ∧ Pl w' u (prodT p (fs.getD i noT) gs) ∧ Below w.heap.size w w' := by
  have HPG := hid pg
  obtain ⟨fa, fc, rfl, _, hfc⟩ := pf
  obtain ⟨ga, gc, rfl, _, _⟩ := pg
  obtain ⟨b, off, rfl, hlt, hat⟩ := hfc (by omega)
  obtain ⟨c0, ev, c1, hse⟩ := hat i hi
  obtain ⟨bx, bx0, bx1, bx2, bx3⟩ := hbx
  have HT := hid (And.intro (hf.coef _ (getD_memT fs i hi)) (And.intro (hf.len _ (getD_memT fs i hi)) (bf _ (getD_memT fs i hi))))
  have HG : Hid (∀ t ∈ gs, t.2.length = N ∧ (∀ x ∈ t.2, 0 ≤ x ∧ x ≤ 200) ∧ 0 ≤ t.1 ∧ t.1 < p) := fun t ht => ⟨hg.len t ht, bg t ht, by have := hg.coef t ht; omega, (hg.coef t ht).2⟩
  generalize fs.getD i noT = t at c0 hse HT
  obtain ⟨tc, te⟩ := t
  have HSE := hid hse
  obtain ⟨ea, ec, rfl, _⟩ := hse
  have HP := hid hp
  simp only at c0 c1
  have hte0 : 0 < te.length := by have := HT.out.2.1; simp only at this; omega
  have hte3 : te.length ≤ 3 := by have := HT.out.2.1; simp only at this; omega
  have KEEP : Hid (∀ W, Below w.heap.size w W → (Hid (Below w.heap.size w W) ∧ W.cell? ⟨rb, 0, none⟩ = some (.int .i64 p) ∧ W.cell? ⟨rb, 1, none⟩ = some (.int .i64 n) ∧ W.cell? ⟨rb, 2, none⟩ = some (.int .i64 o) ∧ W.cell? ⟨rb, 3, none⟩ = some (.int .i64 v) ∧ W.cell? ⟨fb, 0, none⟩ = some (.slice (some ⟨b, off, none⟩) fs.length fc) ∧ W.cell? ⟨gb, 0, none⟩ = some (.slice ga gs.length gc) ∧ W.cell? ⟨b, off + i * 2, none⟩ = some (.int .i64 tc) ∧ W.cell? ⟨b, off + i * 2 + 1, none⟩ = some (.slice ea te.length ec))) :=
    fun W hb => ⟨hb, cell_keep bx0 hb, cell_keep bx1 hb, cell_keep bx2 hb, cell_keep bx3 hb, cell_keep hcf hb, cell_keep hcg hb, cell_keep c0 hb, cell_keep c1 hb⟩
  clear hf hg bf bg hfc hat hp
  go_enter Try.func136, Try.ntmps136
  go_wp2
  go_region_held (fun W => Hid (Below w.heap.size w W) ∧ W.cell? ⟨rb, 0, none⟩ = some (.int .i64 p) ∧ W.cell? ⟨rb, 1, none⟩ = some (.int .i64 n) ∧ W.cell? ⟨rb, 2, none⟩ = some (.int .i64 o) ∧ W.cell? ⟨rb, 3, none⟩ = some (.int .i64 v) ∧ W.cell? ⟨fb, 0, none⟩ = some (.slice (some ⟨b, off, none⟩) fs.length fc) ∧ W.cell? ⟨gb, 0, none⟩ = some (.slice ga gs.length gc) ∧ W.cell? ⟨b, off + i * 2, none⟩ = some (.int .i64 tc) ∧ W.cell? ⟨b, off + i * 2 + 1, none⟩ = some (.slice ea te.length ec))
    (first | exact KEEP.out _ (Below.refl _ _).drew | exact KEEP.out _ (below_step (by assumption) hb9 (Nat.le_refl _)))
    (first | (go_at_call 137; refine (bareScale_any p n o v tc _ te _ gs _ HP.out ⟨by have := HT.out.1; omega, HT.out.1.2⟩ hte0 hte3 HT.out.2.2 (fun t ht => ⟨(HG.out t ht).1.trans HT.out.2.1.symm, (HG.out t ht).2⟩) hm ?_ ?_).mono ?_; exact HSE.out.below (Below.refl _ _).drew; exact HPG.out.below (Below.refl _ _).drew; rintro e w9 ⟨u, rfl, hu, hb9⟩; have HU := hid hu; obtain ⟨ua, uc, rfl, _, _⟩ := hu))
  have hb19 : Below w.heap.size w w9 := Hid.out (And.left (by assumption))
  go_wp2
  go_ret
  exact ⟨_, rfl, HU.out, hb19⟩

/-- Where the product's boxes lie. -/
structure Boxes (w w0 : World) (p n o v : Int) (fv gv : Value) : Prop where
  below : Below w.heap.size w w0
  box : BoxAt w0 w.heap.size p n o v
  cf : w0.cell? ⟨w.heap.size + 1, 0, none⟩ = some fv
  cg : w0.cell? ⟨w.heap.size + 1 + 1, 0, none⟩ = some gv

theorem prodDone {p n o v : Int} {N : Nat} {fv gv : Value} {fs gs : List Tm} {w w0 : World} (he : errP p = 0) (ho : o = 1 ∨ o = 2) (hN0 : 0 < N) (hN : N ≤ 3) (hf : Canon p o N fs) (hg : Canon p o N gs) (bf : Bd2 fs) (bg : Bd2 gs) (lf : fs.length ≤ 2000) (lg : gs.length ≤ 2000)
    (hb : Boxes w w0 p n o v fv gv) (pf : Pl w fv fs) (pg : Pl w gv gs) :
    Calls Try.prog 133 #[ringV p n o v, .int .i64 0, .int .i64 fs.length, .func (.func 136) #[] #[.pointer (some ⟨w.heap.size, 0, none⟩), .pointer (some ⟨w.heap.size + 1, 0, none⟩), .pointer (some ⟨w.heap.size + 1 + 1, 0, none⟩)]] w0 fun e w' =>
      ∃ u, e = .returned u ∧ Pl w' u (colL p o (prodL p fs gs)) ∧ Below w0.heap.size w0 w' := by
  have hp := errP_bd he
  have H : ∀ i w', i < fs.length → Below w0.heap.size w0 w' → Calls Try.prog 136 #[.int .i64 i, .pointer (some ⟨w.heap.size, 0, none⟩), .pointer (some ⟨w.heap.size + 1, 0, none⟩), .pointer (some ⟨w.heap.size + 1 + 1, 0, none⟩)] w' fun e w'' => ∃ u, e = .returned u ∧ Pl w'' u (prodT p (fs.getD i noT) gs) ∧ Below w'.heap.size w' w'' := by
    intro i w' hi hbw
    have hbb := hb.below.trans (hbw.mono hb.below.size)
    exact prodFn_any p n o v N i _ _ _ fv gv fs gs w' hp hN0 hN hf hg bf bg (by omega) hi (hb.box.below hbw) (cell_keep hb.cf hbw) (cell_keep hb.cg hbw) (pf.below hbb) (pg.below hbb)
  have hF : ∀ i, i < fs.length → Canon p o N (prodT p (fs.getD i noT) gs) ∧ Bd (prodT p (fs.getD i noT) gs) ∧ (prodT p (fs.getD i noT) gs).length ≤ 2000 := by
    intro i hi
    have hm := getD_memT fs i hi
    exact ⟨prodT_canon he (hf.coef _ hm) (hf.len _ hm) hg, prodT_bd (bf _ hm) bg, by simp [prodT]; omega⟩
  have hL : fs.length * 2000 ≤ 4000000 := by omega
  refine (sumOfP_any p n o v N fs.length 2000 (fun i => prodT p (fs.getD i noT) gs) _ _ _ w0 hp ho hN0 hN hF (by omega) hL H fs.length 0 fs.length w0 (by omega) (by omega) (Nat.le_refl _) (Below.refl _ _)).mono ?_
  rintro e w1 ⟨u, ts, rfl, hr, hb1⟩
  refine ⟨u, rfl, ?_, hb1⟩
  have hs := hr.same
  rw [Nat.sub_zero, cat_prod] at hs
  have ho := hf.okl.prod hp.1 hg.okl
  have e := col_of_canon hp.1 ho.len ho.coef hr.canon hs
  rw [← e]
  exact hr.pl

set_option maxRecDepth 100000 in
set_option maxHeartbeats 1000000 in
theorem bareProduct_any (p n o v : Int) (N : Nat) (fv gv : Value) (fs gs : List Tm) (w : World) (he : errP p = 0) (ho : o = 1 ∨ o = 2) (hN0 : 0 < N) (hN : N ≤ 3) (hf : Canon p o N fs) (hg : Canon p o N gs) (bf : Bd2 fs) (bg : Bd2 gs) (lf : fs.length ≤ 2000) (lg : gs.length ≤ 2000)
    (pf : Pl w fv fs) (pg : Pl w gv gs) :
    Calls Try.prog 120 #[ringV p n o v, fv, gv] w fun e w' => ∃ u, e = .returned u ∧ Pl w' u (colL p o (prodL p fs gs)) ∧ Below w.heap.size w w' := by
  have HPF := hid pf
  have HPG := hid pg
  have HALL := hid (And.intro he (And.intro ho (And.intro hf (And.intro hg (And.intro bf bg)))))
  obtain ⟨fa, fc, rfl, _, _⟩ := pf
  obtain ⟨ga, gc, rfl, _, _⟩ := pg
  clear he ho hf hg bf bg
  by_cases hlen : gs.length < fs.length
  · have HB : Hid (∀ T1 T2 T3, Boxes w ((((w.alloc (.cells #[.int .i64 p, .int .i64 n, .int .i64 o, .int .i64 v] T1)).alloc (.cells #[.slice ga gs.length gc] T2)).alloc (.cells #[.slice fa fs.length fc] T3))) p n o v (.slice ga gs.length gc) (.slice fa fs.length fc)) := by
      intro T1 T2 T3
      exact ⟨((below_two).alloc (by simp; omega) _), ⟨by simp; omega, by simp [go_sem], by simp [go_sem], by simp [go_sem], by simp [go_sem]⟩, by simp [go_sem], by simp [go_sem]⟩
    go_enter Try.func120, Try.ntmps120
    go_wp2_with fail
    refine (prodDone HALL.out.1 HALL.out.2.1 hN0 hN HALL.out.2.2.2.1 HALL.out.2.2.1 HALL.out.2.2.2.2.2 HALL.out.2.2.2.2.1 lg lf (HB.out _ _ _) HPG.out HPF.out).mono ?_
    rintro e w1 ⟨u, rfl, hu, hb1⟩
    rw [mul_swap (errP_bd HALL.out.1).1 HALL.out.2.2.2.1.okl HALL.out.2.2.1.okl] at hu
    have HU := hid hu
    have HB1 := hid ((HB.out _ _ _).below.trans (hb1.mono (HB.out _ _ _).below.size))
    obtain ⟨ua, uc, rfl, _, _⟩ := hu
    clear hb1
    go_wp2
    go_ret
    exact ⟨_, rfl, HU.out, HB1.out⟩
  · have HB : Hid (∀ T1 T2 T3, Boxes w ((((w.alloc (.cells #[.int .i64 p, .int .i64 n, .int .i64 o, .int .i64 v] T1)).alloc (.cells #[.slice fa fs.length fc] T2)).alloc (.cells #[.slice ga gs.length gc] T3))) p n o v (.slice fa fs.length fc) (.slice ga gs.length gc)) := by
      intro T1 T2 T3
      exact ⟨((below_two).alloc (by simp; omega) _), ⟨by simp; omega, by simp [go_sem], by simp [go_sem], by simp [go_sem], by simp [go_sem]⟩, by simp [go_sem], by simp [go_sem]⟩
    go_enter Try.func120, Try.ntmps120
    go_wp2_with fail
    refine (prodDone HALL.out.1 HALL.out.2.1 hN0 hN HALL.out.2.2.1 HALL.out.2.2.2.1 HALL.out.2.2.2.2.1 HALL.out.2.2.2.2.2 lf lg (HB.out _ _ _) HPF.out HPG.out).mono ?_
    rintro e w1 ⟨u, rfl, hu, hb1⟩
    have HU := hid hu
    have HB1 := hid ((HB.out _ _ _).below.trans (hb1.mono (HB.out _ _ _).below.size))
    obtain ⟨ua, uc, rfl, _, _⟩ := hu
    clear hb1
    go_wp2
    go_ret
    exact ⟨_, rfl, HU.out, HB1.out⟩

end Go.Proofs.Ytkmjmmnnnbjghaa

/- Over; the reference's degree, and what goes into what. -/
namespace Go.Proofs.Ytkmjmmnnnbjghaa
set_option linter.unusedSimpArgs false
set_option linter.unusedVariables false
open Go.RowKit

def negI (x : Int) : Bool := decide (x < 0)
theorem negI_take (zs : List Int) (k : Nat) (h : k < zs.length) : (zs.take (k + 1)).any negI = ((zs.take k).any negI || negI (zs.getD k 0)) := by
  rw [List.take_succ_eq_append_getElem h, List.any_append]
  simp [List.getD_eq_getElem?_getD, h]
theorem ret_int2 {k : IntKind} {a b : Int} (h : a = b) : Value.int k a = .int k b := by rw [h]

set_option maxHeartbeats 400000 in
theorem min_any (zs : List Int) (b off cap : Nat) (w : World) (hm : zs.length ≤ 3) (h0 : 0 < zs.length) (hc : IntsAt w b off zs) :
    Calls Try.prog 67 #[.slice (some ⟨b, off, none⟩) zs.length cap] w fun e w' => ∃ r : Int, e = .returned (.int .i64 r) ∧ decide (r < 0) = zs.any negI ∧ w' = w := by
  have HC := hid hc
  have hcell0 := hc 0 h0
  clear hc
  have hone : (zs.take 1).any negI = negI (zs.getD 0 0) := by
    have := negI_take zs 0 h0; simpa using this
  have HONE := hid hone
  clear hone
  rw [Nat.add_zero] at hcell0
  generalize zs.getD 0 0 = z0 at hcell0 HONE
  go_enter Try.func67, Try.ntmps67
  go_wp2
  go_loop [3, 4] (fun m i => ∃ k : Nat, 1 ≤ k ∧ k ≤ zs.length ∧ i = .int .i64 k ∧ ∃ r : Int, m = .int .i64 r ∧ decide (r < 0) = (zs.take k).any negI) (fun _ i => zs.length - (intOf i).toNat)
  case atStart => exact ⟨1, by omega, by omega, rfl, z0, rfl, HONE.out.symm⟩
  case round =>
    clear hcell0 HONE
    obtain ⟨k, hk1, hk, rfl, r, rfl, hr⟩ := hrel
    have HR := hid hr
    clear hr
    by_cases hk2 : k < zs.length
    · have hcell := HC.out k hk2
      have HN := hid (negI_take zs k hk2)
      generalize zs.getD k 0 = z at hcell HN
      go_wp2
      all_goals
        go_round
        case rel =>
          refine ⟨k + 1, by omega, by omega, by go_num, _, rfl, ?_⟩
          rw [HN.out, ← HR.out]
          unfold negI
          rw [← Bool.decide_or]
          exact decide_eq_decide.2 (by omega)
        case measure => simp [intOf]; omega
    · go_wp2
      go_ret
      refine ⟨r, rfl, ?_, rfl⟩
      have := HR.out
      rwa [List.take_of_length_le (by omega)] at this

set_option maxHeartbeats 400000 in
theorem degreeOf_any (xs : List Int) (b off cap : Nat) (w : World) (hxs : ∀ x ∈ xs, 0 ≤ x ∧ x ≤ 400) (hl : xs.length ≤ 3) (hc : IntsAt w b off xs) :
    Calls Try.prog 29 #[.slice (some ⟨b, off, none⟩) xs.length cap] w fun e w' => e = .returned (.int .i64 (sumI xs)) ∧ w' = w := by
  have HC := hid hc
  clear hc
  go_enter Try.func29, Try.ntmps29
  go_wp2
  go_loop [3, 4] (fun n i => ∃ k : Nat, k ≤ xs.length ∧ i = .int .i64 k ∧ n = .int .i64 (sumI (xs.take k))) (fun _ i => xs.length - (intOf i).toNat)
  case atStart => exact ⟨0, Nat.zero_le _, rfl, rfl⟩
  case round =>
    obtain ⟨k, hk, rfl, rfl⟩ := hrel
    have hd := sumI_bd (xs.take k) (fun x hx => hxs x (List.mem_of_mem_take hx))
    have hl2 : (xs.take k).length ≤ k := List.length_take_le _ _
    by_cases hlt : k < xs.length
    · have hsn := sumI_take xs k hlt
      have hb := hxs _ (getD_mem xs k hlt)
      have hcell := HC.out k hlt
      generalize xs.getD k 0 = y at hsn hb hcell
      have HS := hid hsn
      clear hsn hxs
      go_wp2
      go_round
      case rel => exact ⟨k + 1, by omega, by go_num, by rw [HS.out]⟩
      case measure => simp [intOf]; omega
    · go_wp2
      go_ret
      exact ⟨ret_int (by rw [List.take_of_length_le (by omega)]), rfl⟩

/-- What is left of xs over ys: is one below 0? -/
def lackB (xs ys : List Int) : Bool := (zipI (· - ·) xs ys).any negI

set_option maxHeartbeats 400000 in
theorem goesInto_any (xs ys : List Int) (b off cap b2 off2 cap2 : Nat) (w : World) (hm : xs.length ≤ 3) (hxy : xs.length = ys.length) (hc : IntsAt w b off xs) (hc2 : IntsAt w b2 off2 ys) :
    Calls Try.prog 30 #[.slice (some ⟨b2, off2, none⟩) ys.length cap2, .slice (some ⟨b, off, none⟩) xs.length cap] w fun e w' =>
      e = .returned (.bool (!lackB xs ys)) ∧ ∃ n, w' = w.drewN n := by
  have HC := hid hc
  have HC2 := hid hc2
  rw [← hxy]
  have HXY := hid hxy
  have hlz := zipI_len (· - ·) xs ys hxy
  have HLZ := hid hlz
  clear hc hc2 hxy hlz
  go_enter Try.func30, Try.ntmps30
  go_wp2
  go_loopw [5] (fun i wr => ∃ k n : Nat, k ≤ xs.length ∧ i = .int .i64 k ∧ ((zipI (· - ·) xs ys).take k).any negI = false ∧ wr = w.drewN n) (fun i _ => xs.length - (intOf i).toNat)
  case atStart => exact ⟨0, 0, Nat.zero_le _, rfl, rfl, rfl⟩
  case round =>
    obtain ⟨k, n0, hk, rfl, hn, hw0⟩ := hrel
    have HN := hid hn
    have HW := hid hw0
    clear hn hw0
    by_cases hk2 : k < xs.length
    · have hcell := HC.out k hk2
      have hcell2 := HC2.out k (by rw [← HXY.out]; exact hk2)
      have e1 : ∀ a, wr.cell? a = w.cell? a := fun a => by rw [HW.out]; rfl
      rw [← e1] at hcell hcell2
      clear e1
      have hz := zipI_at (· - ·) xs ys HXY.out k hk2
      have ht := negI_take (zipI (· - ·) xs ys) k (by rw [HLZ.out]; exact hk2)
      have ha := any_at negI (zipI (· - ·) xs ys) k (by rw [HLZ.out]; exact hk2)
      rw [hz] at ht ha
      have HT := hid ht
      have HA := hid ha
      clear hz ht ha
      generalize xs.getD k 0 = x at hcell HT HA
      generalize ys.getD k 0 = y at hcell2 HT HA
      by_cases hy : x < y
      · go_wp2
        go_quiet (fail)
        go_wp2
        go_ret
        refine ⟨?_, _, by rw [HW.out, World.drewN_drewN]⟩
        unfold lackB
        rw [HA.out (by unfold negI; exact decide_eq_true (by omega))]
        rfl
      · go_wp2
        go_quiet (fail)
        go_wp2
        go_roundw
        case rel => exact ⟨k + 1, _, by omega, by go_num, by rw [HT.out, HN.out, Bool.false_or]; unfold negI; exact decide_eq_false (by omega), by rw [HW.out, World.drewN_drewN]⟩
        case measure => simp [intOf]; omega
    · go_wp2
      go_ret
      refine ⟨?_, n0, HW.out⟩
      have := HN.out
      rw [List.take_of_length_le (by rw [HLZ.out]; omega)] at this
      unfold lackB
      rw [this]
      rfl

end Go.Proofs.Ytkmjmmnnnbjghaa

/- Over; CheckMono, CheckMonos of the reference. -/
namespace Go.Proofs.Ytkmjmmnnnbjghaa
set_option linter.unusedSimpArgs false
set_option linter.unusedVariables false
open Go.RowKit

def ovE (p n o v : Int) (xs ys : List Int) : Int :=
  if errAll p n o v [xs, ys] = 0 then (if lackB xs ys then 5 else 0) else errAll p n o v [xs, ys]
def ovR (p n o v : Int) (xs ys : List Int) : List Int := if ovE p n o v xs ys = 0 then zipI (· - ·) xs ys else []

set_option maxHeartbeats 1000000 in
theorem monoOver_any (p n o v : Int) (x y : Value) (xs ys : List Int) (w : World) (hs : Sl w x xs) (hs2 : Sl w y ys) :
    Calls Try.prog 23 #[ringV p n o v, x, y] w fun e w' =>
      ∃ u, e = .returned (.tuple #[u, .int .i64 (ovE p n o v xs ys)]) ∧ Sl w' u (ovR p n o v xs ys) ∧ Below w.heap.size w w' := by
  have HS := hid hs
  have HS2 := hid hs2
  cases hz : (errAll p n o v [xs, ys] != 0)
  · have hz0 : errAll p n o v [xs, ys] = 0 := by simpa using hz
    obtain ⟨hr, hx, hy⟩ := errAll_two hz0
    obtain ⟨_, hn1, hn2, ho, _⟩ := ring_ok hr
    obtain ⟨hlx, hbx, _⟩ := errM_ok hx
    obtain ⟨hly, hby, _⟩ := errM_ok hy
    have hmx : xs.length ≤ 3 := by omega
    have hxy : xs.length = ys.length := by omega
    have HXY := hid hxy
    have HB := hid (And.intro hbx hby)
    obtain ⟨a, cap, rfl, h1⟩ := hs
    obtain ⟨a2, cap2, rfl, h2⟩ := hs2
    obtain ⟨b, off, rfl, hlt, hc⟩ := h1 (by omega)
    obtain ⟨b2, off2, rfl, hlt2, hc2⟩ := h2 (by omega)
    have HC := hid hc
    have HC2 := hid hc2
    have hlz := zipI_len (· - ·) xs ys hxy
    have hbz := zipI_mem (g := (· - ·)) (a := -200) (b := 200) (by intro x y h1 h2; show -200 ≤ x - y ∧ x - y ≤ 200; omega) hbx hby
    have HLZ := hid hlz
    have HBZ := hid hbz
    have HR : Hid (lackB xs ys = true → ovE p n o v xs ys = 5 ∧ ovR p n o v xs ys = []) := by
      intro h
      have e1 : ovE p n o v xs ys = 5 := by unfold ovE; rw [if_pos hz0, if_pos h]
      exact ⟨e1, by unfold ovR; rw [if_neg (by rw [e1]; decide)]⟩
    have HQ : Hid (lackB xs ys = false → ovE p n o v xs ys = 0 ∧ ovR p n o v xs ys = zipI (· - ·) xs ys) := by
      intro h
      have e1 : ovE p n o v xs ys = 0 := by unfold ovE; rw [if_pos hz0, if_neg (by simp [h])]
      exact ⟨e1, by unfold ovR; rw [if_pos e1]⟩
    have HZ0 := hid hz0
    have hx0 : 0 < xs.length := by omega
    clear hz0 hr hx hy hlx hly h1 h2 hc hc2 hbx hby hlz hbz hxy
    go_enter Try.func23, Try.ntmps23
    go_wp2_with fail
    refine (checkAll_any p n o v [xs, ys] _ _ _ _ (by simp) (by simp) ?_).mono ?_
    · exact (HS.out.below below_two).sls2 (HS2.out.below below_two) (by simp [go_sem]) (by simp [go_sem])
    rintro e w1 ⟨rfl, hb1⟩
    have hb0 : Below w.heap.size w w1 := below_two.trans (hb1.mono (by simp; omega))
    have hsz : w.heap.size ≤ w1.heap.size := hb0.size
    rw [HZ0.out]
    clear hb1
    go_wp2_with fail
    refine (eachOver_any xs ys _ _ _ _ _ _ _ hmx HXY.out HB.out.1 HB.out.2 (by omega) (by omega) ?_ ?_).mono ?_
    · intro i hi; rw [hb0.cell (p := ⟨b, off + i, none⟩) hlt]; exact HC.out i hi
    · intro i hi; rw [hb0.cell (p := ⟨b2, off2 + i, none⟩) hlt2]; exact HC2.out i hi
    rintro e w2 ⟨rfl, how⟩
    have HOW : Hid (OwnK w1 w2 (zipI (· - ·) xs ys).length (zipI (· - ·) xs ys).length (zipI (· - ·) xs ys)) := by rw [HLZ.out]; exact how
    have hb2 : Below w.heap.size w w2 := hb0.trans (how.1.mono hsz)
    have hmz : (zipI (· - ·) xs ys).length ≤ 3 := by rw [HLZ.out]; exact hmx
    rw [← HLZ.out]
    clear how
    go_wp2_with fail
    refine (min_any (zipI (· - ·) xs ys) _ _ _ _ hmz (by rw [HLZ.out]; exact hx0) ?_).mono ?_
    · intro i hi; rw [Nat.zero_add]; exact HOW.out.2.2.2 i hi
    rintro e w' ⟨r, rfl, hr, rfl⟩
    have HRR := hid hr
    by_cases hd : r < 0
    · clear hr
      go_wp2
      go_ret2
      obtain ⟨e1, e2⟩ := HR.out (by show (zipI _ xs ys).any negI = true; rw [← HRR.out]; exact decide_eq_true hd)
      rw [e1, e2]
      exact ⟨_, rfl, Sl.empty _, hb2⟩
    · clear hr
      go_wp2
      go_ret2
      obtain ⟨e1, e2⟩ := HQ.out (by show (zipI _ xs ys).any negI = false; rw [← HRR.out]; exact decide_eq_false (by omega))
      rw [e1, e2]
      exact ⟨_, rfl, HOW.out.sl, hb2⟩
  · have e1 : ovE p n o v xs ys = errAll p n o v [xs, ys] := by unfold ovE; rw [if_neg (by simpa using hz)]
    have e2 : ovR p n o v xs ys = [] := by unfold ovR; rw [if_neg (by rw [e1]; simpa using hz)]
    rw [e1, e2]
    clear e1 e2
    obtain ⟨a, cap, rfl, _⟩ := hs
    obtain ⟨a2, cap2, rfl, _⟩ := hs2
    go_enter Try.func23, Try.ntmps23
    go_wp2_with fail
    refine (checkAll_any p n o v [xs, ys] _ _ _ _ (by simp) (by simp) ?_).mono ?_
    · exact (HS.out.below below_two).sls2 (HS2.out.below below_two) (by simp [go_sem]) (by simp [go_sem])
    rintro e w1 ⟨rfl, hb1⟩
    go_wp2
    go_ret2
    exact ⟨_, rfl, Sl.empty _, below_two.trans (hb1.mono (by simp; omega))⟩

theorem outB_between (x : Int) : outB x = !betweenB x 0 200 := by
  unfold outB betweenB
  by_cases h1 : 0 ≤ x <;> by_cases h2 : x ≤ 200 <;> simp [h1, h2] <;> omega

set_option maxHeartbeats 400000 in
theorem checkMono_any (p n o v : Int) (x : Value) (xs : List Int) (w : World) (hn : 1 ≤ n ∧ n ≤ 3) (hs : Sl w x xs) :
    Calls Try.prog 70 #[ringV p n o v, x] w fun e w' => e = .returned (.int .i64 (errM n xs)) ∧ Below w.heap.size w w' := by
  obtain ⟨a, cap, rfl, hs⟩ := hs
  obtain ⟨hn1, hn2⟩ := hn
  by_cases hl : (xs.length : Int) = n
  · subst hl
    obtain ⟨b, off, rfl, hlt, hc⟩ := hs (by omega)
    clear hs
    have HC := hid hc
    clear hc
    have hm : xs.length ≤ 3 := by omega
    go_enter Try.func70, Try.ntmps70
    go_wp2
    go_loop [5] (fun i => ∃ k : Nat, k ≤ xs.length ∧ i = .int .i64 k ∧ (xs.take k).any outB = false) (fun i => xs.length - (intOf i).toNat)
    case atStart => exact ⟨0, Nat.zero_le _, rfl, by simp⟩
    case round =>
      obtain ⟨k, hk, rfl, hn⟩ := hrel
      have HN := hid hn
      clear hn
      by_cases hk2 : k < xs.length
      · have hcell := HC.out k hk2
        have H1 := hid (any_take outB xs k hk2 HN.out)
        have H2 := hid (any_at outB xs k hk2)
        rw [← World.cell?_alloc_lt (w := w) (o := .cells #[.int .i64 p, .int .i64 xs.length, .int .i64 o, .int .i64 v] 39) (a := ⟨b, off + k, none⟩) hlt] at hcell
        generalize xs.getD k 0 = y at hcell H1 H2
        rw [outB_between] at H1 H2
        cases hy : betweenB y 0 200
        · go_wp2_with (go_at_call 59; refine (between_any _ _ _ _).mono ?_; rintro e w' ⟨rfl, rfl⟩)
          go_ret
          refine ⟨ret_int ?_, below_one⟩
          unfold errM
          rw [if_neg (by simp), if_pos (H2.out (by rw [hy]; rfl))]
        · go_wp2_with (go_at_call 59; refine (between_any _ _ _ _).mono ?_; rintro e w' ⟨rfl, rfl⟩)
          go_round
          case rel => exact ⟨k + 1, by omega, by go_num, H1.out (by rw [hy]; rfl)⟩
          case measure => simp [intOf]; omega
      · have hy := HN.out
        rw [List.take_of_length_le (by omega)] at hy
        have hb := any_bd hy
        have hb2 := hid (show ∀ x ∈ xs, 0 ≤ x ∧ x ≤ 400 from fun x hx => by have := hb x hx; omega)
        have HE : Hid (errM xs.length xs = if 200 < sumI xs then 3 else 0) := by
          show errM xs.length xs = _
          unfold errM
          rw [if_neg (by simp), if_neg (by simp [hy])]
        clear hb hy
        go_wp2_with fail
        refine (degreeOf_any xs _ _ _ _ hb2.out hm ?_).mono ?_
        · intro i hi; rw [World.cell?_alloc_lt (w := w) (o := _) (a := ⟨b, off + i, none⟩) hlt]; exact HC.out i hi
        rintro e w' ⟨rfl, rfl⟩
        by_cases hd : 200 < sumI xs
        · go_wp2
          go_ret
          exact ⟨ret_int (by rw [HE.out, if_pos hd]), below_one⟩
        · go_wp2
          go_ret
          exact ⟨ret_int (by rw [HE.out, if_neg (by omega)]), below_one⟩
  · have he : errM n xs = 1 := by simp [errM, hl]
    rw [he]; clear he hs
    have hl2 : ((xs.length : Int) != n) = true := by simpa using hl
    clear hl
    go_enter Try.func70, Try.ntmps70
    go_wp2
    go_ret
    exact ⟨rfl, below_one⟩

end Go.Proofs.Ytkmjmmnnnbjghaa

/- CheckMonos. -/
namespace Go.Proofs.Ytkmjmmnnnbjghaa
set_option linter.unusedSimpArgs false
set_option linter.unusedVariables false
open Go.RowKit

set_option maxRecDepth 100000 in
set_option maxHeartbeats 1000000 in
theorem checkMonos_any (p n o v : Int) (xss : List (List Int)) (b off cap : Nat) (w : World) (hl : xss.length ≤ 2) (hlt : b < w.heap.size) (hs : SlsAt w b off xss) :
    Calls Try.prog 26 #[ringV p n o v, .slice (some ⟨b, off, none⟩) xss.length cap] w fun e w' => e = .returned (.int .i64 (errAll p n o v xss)) ∧ Below w.heap.size w w' := by
  have HS := hid hs
  clear hs
  go_enter Try.func26, Try.ntmps26
  go_wp2_with (go_at_call 33; refine (checkRing_any _ _ _ _ _).mono ?_; rintro e w1 ⟨rfl, hb1⟩)
  have hb0 : Below w.heap.size w w1 := below_one.trans (hb1.mono (by simp))
  have hbox := hid ((BoxAt.new w p n o v _).below hb1)
  have HS1 := hid (HS.out.below hlt hb0)
  have hlt1 : b < w1.heap.size := Nat.lt_of_lt_of_le hlt hb0.size
  have HB0 := hid hb0
  clear HS hb1 hb0
  go_loopw [5, 6] (fun e i wr => ∃ k : Nat, k ≤ xss.length ∧ i = .int .i64 k ∧ (∃ E : Int, e = .int .i64 E ∧ (E = 0 ∧ errR p n o v = 0 ∧ errAll p n o v xss = firstErr n (xss.drop k) ∨ E ≠ 0 ∧ errAll p n o v xss = E)) ∧ Below w1.heap.size w1 wr) (fun _ i _ => xss.length - (intOf i).toNat)
  case atStart =>
    refine ⟨0, Nat.zero_le _, rfl, ⟨_, rfl, ?_⟩, Below.refl _ _⟩
    unfold errAll
    by_cases h : errR p n o v = 0
    · exact Or.inl ⟨h, h, by rw [if_pos h]; rfl⟩
    · exact Or.inr ⟨h, by rw [if_neg h]⟩
  case round =>
    obtain ⟨k, hk, rfl, ⟨E, rfl, hE⟩, hbr⟩ := hrel
    have HBR := hid hbr
    clear hbr
    by_cases hk2 : k < xss.length
    · rcases hE with ⟨rfl, hR, hT⟩ | ⟨hE0, hT⟩
      · have HT := hid (And.intro hR hT)
        obtain ⟨_, hn1, hn2, _⟩ := ring_ok hR
        clear hR hT
        obtain ⟨vv, hcell, hsl⟩ := HS1.out k hk2
        rw [← HBR.out.cell (p := ⟨b, off + k, none⟩) hlt1] at hcell
        have HSL := hid (hsl.below HBR.out)
        have HD := hid (firstErr_drop n xss k hk2)
        clear hsl
        obtain ⟨bx, c0, c1, c2, c3⟩ := hbox.out.below HBR.out
        generalize xss.getD k [] = xs at HSL HD
        obtain ⟨a, cc, hvv, _⟩ := HSL.out
        subst hvv
        go_wp2_with fail
        go_region_with (go_at_call 70; refine (checkMono_any p n o v _ xs _ ⟨hn1, hn2⟩ ?_).mono ?_; exact HSL.out.below (Below.refl _ _).drew; rintro e w2 ⟨rfl, hb2⟩)
        all_goals
          go_wp2
          go_roundw
          case rel =>
            refine ⟨k + 1, by omega, by go_num, ⟨_, rfl, ?_⟩, HBR.out.trans ((((Below.refl _ _).drew).trans (hb2.mono (by simp))).mono HBR.out.size)⟩
            by_cases hz : errM n xs = 0
            · exact Or.inl ⟨hz, HT.out.1, by rw [HT.out.2, HD.out, if_pos hz]⟩
            · exact Or.inr ⟨hz, by rw [HT.out.2, HD.out, if_neg hz]⟩
          case measure => simp [intOf]; omega
      · have hE1 : (E == 0) = false := by simpa using hE0
        clear hE0
        go_wp2
        go_ret
        exact ⟨ret_int hT.symm, HB0.out.trans (HBR.out.mono HB0.out.size)⟩
    · have HE := hid hE
      clear hE
      go_wp2
      go_ret
      refine ⟨ret_int ?_, HB0.out.trans (HBR.out.mono HB0.out.size)⟩
      rcases HE.out with ⟨h1, h2, h3⟩ | ⟨h1, h2⟩
      · rw [h3, List.drop_eq_nil_of_le (by omega), h1]; rfl
      · exact h2.symm

end Go.Proofs.Ytkmjmmnnnbjghaa

/- Put of the reference. -/
namespace Go.Proofs.Ytkmjmmnnnbjghaa
set_option linter.unusedSimpArgs false
set_option linter.unusedVariables false
open Go.RowKit

theorem ownsRow_sl {w : World} {B : Nat} {v : Value} {zs : List Int} {T : TypeId} (h : w.ownsRow B T 1 v zs.length (zs.map (Value.int .i64))) : Sl w v zs := by
  obtain ⟨_, h | ⟨g, cap, cur, rfl, hg, hh, hn, hm, hcs, ht⟩⟩ := h
  · obtain ⟨rfl, h0⟩ := h
    refine ⟨none, 0, by rw [h0], fun hp => absurd hp (by omega)⟩
  · refine ⟨_, cap, rfl, fun _ => ⟨g, 0, rfl, ?_, fun i hi => ?_⟩⟩
    · apply Nat.lt_of_not_le; intro hle; rw [Array.getElem?_eq_none hle] at hh; simp at hh
    · have e : cur.toList[i]? = some (.int .i64 (zs.getD i 0)) := by
        have h1 : (cur.toList.take (zs.length * 1))[i]? = (zs.map (Value.int .i64))[i]? := by rw [ht]
        rw [List.getElem?_take, if_pos (by omega), List.getElem?_map] at h1
        rw [h1, List.getD_eq_getElem?_getD, List.getElem?_eq_getElem hi]; rfl
      unfold World.cell?
      simp only [hh, Nat.zero_add]
      simpa using e

theorem take_map_snoc {zs : List Int} {k : Nat} (h : k < zs.length) {z : Int} (hz : zs.getD k 0 = z) : (zs.take (k + 1)).map (Value.int .i64) = (zs.take k).map (Value.int .i64) ++ [.int .i64 z] := by
  rw [List.take_succ_eq_append_getElem h, List.map_append]
  rw [List.getD_eq_getElem?_getD, List.getElem?_eq_getElem h] at hz
  simp at hz
  simp [hz]

theorem one_cell1 (z : Int) : ∀ u ∈ [Value.int .i64 z], u.oneCell' = true := by
  intro u hu; simp at hu; subst hu; rfl
/-- An append of one, on what is owned. -/
theorem put_step {w wr w1 : World} {v v' : Value} {zs : List Int} {k : Nat} {T : TypeId} {z : Int} {O : Obj} (hk : k < zs.length) (hz : zs.getD k 0 = z)
    (hb : Below w.heap.size w wr) (hown : wr.ownsRow w.heap.size T 1 v k ((zs.take k).map (Value.int .i64)))
    (hown' : w1.ownsRow w.heap.size T 1 v' (k + 1) ((zs.take k).map (Value.int .i64) ++ [.int .i64 z])) (hg : (wr.alloc O).grownBy w1 v.ownBlock) :
    w1.ownsRow w.heap.size T 1 v' (k + 1) ((zs.take (k + 1)).map (Value.int .i64)) ∧ Below w.heap.size w w1 := by
  refine ⟨by rw [take_map_snoc hk hz]; exact hown', ?_⟩
  refine (hb.alloc hb.size O).grown hg (Nat.le_trans hb.size (by simp)) (fun k' hk' => ?_)
  obtain ⟨_, h | ⟨g, cap, cur, rfl, hgb, _⟩⟩ := hown
  · obtain ⟨rfl, _⟩ := h; simp [Value.ownBlock] at hk'
  · simp [Value.ownBlock] at hk'; omega

set_option maxHeartbeats 1000000 in
theorem putTimes_any (xs ys : List Int) (b off cap b2 off2 cap2 : Nat) (w : World) (hm : xs.length ≤ 3) (hxy : xs.length = ys.length)
    (hbx : ∀ x ∈ xs, 0 ≤ x ∧ x ≤ 200) (hby : ∀ x ∈ ys, 0 ≤ x ∧ x ≤ 200) (hlt : b < w.heap.size) (hlt2 : b2 < w.heap.size) (hc : IntsAt w b off xs) (hc2 : IntsAt w b2 off2 ys) :
    Calls Try.prog 27 #[.slice (some ⟨b, off, none⟩) xs.length cap, .slice (some ⟨b2, off2, none⟩) ys.length cap2, .int .i64 1] w fun e w' =>
      ∃ u, e = .returned u ∧ Sl w' u (zipI (· + ·) xs ys) ∧ Below w.heap.size w w' := by
  have HC := hid hc
  have HC2 := hid hc2
  have HBX := hid hbx
  have HBY := hid hby
  have HLZ := hid (zipI_len (· + ·) xs ys hxy)
  rw [← hxy]
  have HXY := hid hxy
  clear hc hc2 hbx hby hxy
  obtain ⟨i0, hi, hz0, hz1, hz2⟩ := info_parts Try.info_int
  go_enter Try.func27, Try.ntmps27
  go_wp2
  go_loopw [7, 8] (fun v i wr => ∃ k : Nat, k ≤ xs.length ∧ i = .int .i64 k ∧ wr.ownsRow w.heap.size 3 1 v k (((zipI (· + ·) xs ys).take k).map (Value.int .i64)) ∧ Below w.heap.size w wr) (fun _ i _ => xs.length - (intOf i).toNat)
  case atStart => exact ⟨0, Nat.zero_le _, rfl, World.ownsRow_nil _ _ _ _, Below.refl _ _⟩
  case round =>
    obtain ⟨k, hk, rfl, hown, hbr⟩ := hrel
    have HOWN := hid hown
    have HBR := hid hbr
    by_cases hk2 : k < xs.length
    · have hcell := HC.out k hk2
      have hcell2 := HC2.out k (by rw [← HXY.out]; exact hk2)
      have HZ := hid (zipI_at (· + ·) xs ys HXY.out k hk2)
      have hx := HBX.out _ (getD_mem xs k hk2)
      have hy := HBY.out _ (getD_mem ys k (by rw [← HXY.out]; exact hk2))
      generalize xs.getD k 0 = x at hcell HZ hx
      generalize ys.getD k 0 = y at hcell2 HZ hy
      rw [← hbr.cell (p := ⟨b, off + k, none⟩) hlt] at hcell
      rw [← hbr.cell (p := ⟨b2, off2 + k, none⟩) hlt2] at hcell2
      have hsz := hbr.size
      obtain ⟨hx1, hx2⟩ := hx
      obtain ⟨hy1, hy2⟩ := hy
      clear hown hbr
      go_wp2_with (at_builtin; refine wpList_append_own _ rfl _ _ 36 rfl w.heap.size 3 i0 (.int .i64 0) 1 8 Try.underlying36 hi hz0 hz1 hz2 rfl (by decide) _ _ _ rfl (HOWN.out.alloc _) ⟨wr.heap.size, 0, none⟩ 1 1 [.int .i64 (x + y)] rfl rfl (cell_one_new _ _ _) (one_cell1 _) (by unfold maxLen; omega) (by omega) (by simp; omega) ?_)
      intro v' w1 hown' hgrow _
      rw [← List.map_take] at hown'
      have R := put_step (zs := zipI (· + ·) xs ys) (by rw [HLZ.out]; exact hk2) (HZ.out.trans rfl) HBR.out HOWN.out hown' hgrow
      have R2 := hid R
      clear hown' hgrow R
      go_wp2
      go_roundw
      case rel => exact ⟨k + 1, by omega, by go_num, R2.out.1, R2.out.2⟩
      case measure => simp [intOf]; omega
    · go_wp2
      go_ret
      have e1 : k = (zipI (· + ·) xs ys).length := by rw [HLZ.out]; omega
      subst e1
      have h2 := HOWN.out
      rw [List.take_of_length_le (Nat.le_refl _)] at h2
      exact ⟨_, rfl, ownsRow_sl h2, HBR.out⟩

set_option maxHeartbeats 1000000 in
theorem putOver_any (xs ys : List Int) (b off cap b2 off2 cap2 : Nat) (w : World) (hm : xs.length ≤ 3) (hxy : xs.length = ys.length)
    (hbx : ∀ x ∈ xs, 0 ≤ x ∧ x ≤ 200) (hby : ∀ x ∈ ys, 0 ≤ x ∧ x ≤ 200) (hlt : b < w.heap.size) (hlt2 : b2 < w.heap.size) (hc : IntsAt w b off xs) (hc2 : IntsAt w b2 off2 ys) :
    Calls Try.prog 27 #[.slice (some ⟨b, off, none⟩) xs.length cap, .slice (some ⟨b2, off2, none⟩) ys.length cap2, .int .i64 2] w fun e w' =>
      ∃ u, e = .returned u ∧ Sl w' u (zipI (· - ·) xs ys) ∧ Below w.heap.size w w' := by
  have HC := hid hc
  have HC2 := hid hc2
  have HBX := hid hbx
  have HBY := hid hby
  have HLZ := hid (zipI_len (· - ·) xs ys hxy)
  rw [← hxy]
  have HXY := hid hxy
  clear hc hc2 hbx hby hxy
  obtain ⟨i0, hi, hz0, hz1, hz2⟩ := info_parts Try.info_int
  go_enter Try.func27, Try.ntmps27
  go_wp2
  go_loopw [7, 8] (fun v i wr => ∃ k : Nat, k ≤ xs.length ∧ i = .int .i64 k ∧ wr.ownsRow w.heap.size 3 1 v k (((zipI (· - ·) xs ys).take k).map (Value.int .i64)) ∧ Below w.heap.size w wr) (fun _ i _ => xs.length - (intOf i).toNat)
  case atStart => exact ⟨0, Nat.zero_le _, rfl, World.ownsRow_nil _ _ _ _, Below.refl _ _⟩
  case round =>
    obtain ⟨k, hk, rfl, hown, hbr⟩ := hrel
    have HOWN := hid hown
    have HBR := hid hbr
    by_cases hk2 : k < xs.length
    · have hcell := HC.out k hk2
      have hcell2 := HC2.out k (by rw [← HXY.out]; exact hk2)
      have HZ := hid (zipI_at (· - ·) xs ys HXY.out k hk2)
      have hx := HBX.out _ (getD_mem xs k hk2)
      have hy := HBY.out _ (getD_mem ys k (by rw [← HXY.out]; exact hk2))
      generalize xs.getD k 0 = x at hcell HZ hx
      generalize ys.getD k 0 = y at hcell2 HZ hy
      rw [← hbr.cell (p := ⟨b, off + k, none⟩) hlt] at hcell
      rw [← hbr.cell (p := ⟨b2, off2 + k, none⟩) hlt2] at hcell2
      have hsz := hbr.size
      obtain ⟨hx1, hx2⟩ := hx
      obtain ⟨hy1, hy2⟩ := hy
      clear hown hbr
      go_wp2_with (at_builtin; refine wpList_append_own _ rfl _ _ 36 rfl w.heap.size 3 i0 (.int .i64 0) 1 8 Try.underlying36 hi hz0 hz1 hz2 rfl (by decide) _ _ _ rfl (HOWN.out.alloc _) ⟨wr.heap.size, 0, none⟩ 1 1 [.int .i64 (x - y)] rfl rfl (cell_one_new _ _ _) (one_cell1 _) (by unfold maxLen; omega) (by omega) (by simp; omega) ?_)
      intro v' w1 hown' hgrow _
      rw [← List.map_take] at hown'
      have R := put_step (zs := zipI (· - ·) xs ys) (by rw [HLZ.out]; exact hk2) (HZ.out.trans rfl) HBR.out HOWN.out hown' hgrow
      have R2 := hid R
      clear hown' hgrow R
      go_wp2
      go_roundw
      case rel => exact ⟨k + 1, by omega, by go_num, R2.out.1, R2.out.2⟩
      case measure => simp [intOf]; omega
    · go_wp2
      go_ret
      have e1 : k = (zipI (· - ·) xs ys).length := by rw [HLZ.out]; omega
      subst e1
      have h2 := HOWN.out
      rw [List.take_of_length_le (Nat.le_refl _)] at h2
      exact ⟨_, rfl, ownsRow_sl h2, HBR.out⟩

set_option maxHeartbeats 1000000 in
theorem putLeast_any (xs ys : List Int) (b off cap b2 off2 cap2 : Nat) (w : World) (hm : xs.length ≤ 3) (hxy : xs.length = ys.length)
    (hbx : ∀ x ∈ xs, 0 ≤ x ∧ x ≤ 200) (hby : ∀ x ∈ ys, 0 ≤ x ∧ x ≤ 200) (hlt : b < w.heap.size) (hlt2 : b2 < w.heap.size) (hc : IntsAt w b off xs) (hc2 : IntsAt w b2 off2 ys) :
    Calls Try.prog 27 #[.slice (some ⟨b, off, none⟩) xs.length cap, .slice (some ⟨b2, off2, none⟩) ys.length cap2, .int .i64 3] w fun e w' =>
      ∃ u, e = .returned u ∧ Sl w' u (zipI lst xs ys) ∧ Below w.heap.size w w' := by
  have HC := hid hc
  have HC2 := hid hc2
  have HBX := hid hbx
  have HBY := hid hby
  have HLZ := hid (zipI_len lst xs ys hxy)
  rw [← hxy]
  have HXY := hid hxy
  clear hc hc2 hbx hby hxy
  obtain ⟨i0, hi, hz0, hz1, hz2⟩ := info_parts Try.info_int
  go_enter Try.func27, Try.ntmps27
  go_wp2
  go_loopw [7, 8] (fun v i wr => ∃ k : Nat, k ≤ xs.length ∧ i = .int .i64 k ∧ wr.ownsRow w.heap.size 3 1 v k (((zipI lst xs ys).take k).map (Value.int .i64)) ∧ Below w.heap.size w wr) (fun _ i _ => xs.length - (intOf i).toNat)
  case atStart => exact ⟨0, Nat.zero_le _, rfl, World.ownsRow_nil _ _ _ _, Below.refl _ _⟩
  case round =>
    obtain ⟨k, hk, rfl, hown, hbr⟩ := hrel
    have HOWN := hid hown
    have HBR := hid hbr
    by_cases hk2 : k < xs.length
    · have hcell := HC.out k hk2
      have hcell2 := HC2.out k (by rw [← HXY.out]; exact hk2)
      have HZ := hid (zipI_at lst xs ys HXY.out k hk2)
      have hx := HBX.out _ (getD_mem xs k hk2)
      have hy := HBY.out _ (getD_mem ys k (by rw [← HXY.out]; exact hk2))
      generalize xs.getD k 0 = x at hcell HZ hx
      generalize ys.getD k 0 = y at hcell2 HZ hy
      rw [← hbr.cell (p := ⟨b, off + k, none⟩) hlt] at hcell
      rw [← hbr.cell (p := ⟨b2, off2 + k, none⟩) hlt2] at hcell2
      have hsz := hbr.size
      obtain ⟨hx1, hx2⟩ := hx
      obtain ⟨hy1, hy2⟩ := hy
      clear hown hbr
      by_cases hxy : x < y
      · go_wp2_with (at_builtin; refine wpList_append_own _ rfl _ _ 36 rfl w.heap.size 3 i0 (.int .i64 0) 1 8 Try.underlying36 hi hz0 hz1 hz2 rfl (by decide) _ _ _ rfl (HOWN.out.alloc _) ⟨wr.heap.size, 0, none⟩ 1 1 [.int .i64 y] rfl rfl (cell_one_new _ _ _) (one_cell1 _) (by unfold maxLen; omega) (by omega) (by simp; omega) ?_)
        intro v' w1 hown' hgrow _
        rw [← List.map_take] at hown'
        have R := put_step (zs := zipI lst xs ys) (by rw [HLZ.out]; exact hk2) (HZ.out.trans (if_pos hxy)) HBR.out HOWN.out hown' hgrow
        have R2 := hid R
        clear hown' hgrow R
        go_wp2
        go_roundw
        case rel => exact ⟨k + 1, by omega, by go_num, R2.out.1, R2.out.2⟩
        case measure => simp [intOf]; omega
      · go_wp2_with (at_builtin; refine wpList_append_own _ rfl _ _ 36 rfl w.heap.size 3 i0 (.int .i64 0) 1 8 Try.underlying36 hi hz0 hz1 hz2 rfl (by decide) _ _ _ rfl (HOWN.out.alloc _) ⟨wr.heap.size, 0, none⟩ 1 1 [.int .i64 x] rfl rfl (cell_one_new _ _ _) (one_cell1 _) (by unfold maxLen; omega) (by omega) (by simp; omega) ?_)
        intro v' w1 hown' hgrow _
        rw [← List.map_take] at hown'
        have R := put_step (zs := zipI lst xs ys) (by rw [HLZ.out]; exact hk2) (HZ.out.trans (if_neg (Int.not_lt.2 hxy))) HBR.out HOWN.out hown' hgrow
        have R2 := hid R
        clear hown' hgrow R
        go_wp2
        go_roundw
        case rel => exact ⟨k + 1, by omega, by go_num, R2.out.1, R2.out.2⟩
        case measure => simp [intOf]; omega
    · go_wp2
      go_ret
      have e1 : k = (zipI lst xs ys).length := by rw [HLZ.out]; omega
      subst e1
      have h2 := HOWN.out
      rw [List.take_of_length_le (Nat.le_refl _)] at h2
      exact ⟨_, rfl, ownsRow_sl h2, HBR.out⟩

end Go.Proofs.Ytkmjmmnnnbjghaa

/- More, OrderOf, monoIs. -/
namespace Go.Proofs.Ytkmjmmnnnbjghaa
set_option linter.unusedSimpArgs false
set_option linter.unusedVariables false
open Go.RowKit

def moreB (o : Int) (xs ys : List Int) : Bool := decide (0 < ordS o xs ys)
theorem cmpI_pos (a b : Int) : decide (0 < cmpI a b) = decide (b < a) := by
  have := cmpI_vals a b
  exact decide_eq_decide.2 (by omega)

theorem cmpI_eq {x y : Int} (h : (x != y) = false) : cmpI x y = 0 ∧ cmpI y x = 0 := by
  have h1 : x = y := by simpa using h
  have h2 := cmpI_vals x y
  have h3 := cmpI_vals y x
  omega
theorem cmpI_ne {x y : Int} (h : (x != y) = true) : ¬ cmpI x y = 0 ∧ ¬ cmpI y x = 0 := by
  have h1 : x ≠ y := by simpa using h
  have h2 := cmpI_vals x y
  have h3 := cmpI_vals y x
  omega
theorem ret_bool {a b : Bool} (h : a = b) : Ending.returned (.bool a) = .returned (.bool b) := by rw [h]

set_option maxHeartbeats 1000000 in
theorem more_lex (p n v : Int) (xs ys : List Int) (b off cap b2 off2 cap2 : Nat) (w : World) (hm : xs.length ≤ 3) (hxy : xs.length = ys.length)
    (hbx : ∀ x ∈ xs, 0 ≤ x ∧ x ≤ 400) (hby : ∀ x ∈ ys, 0 ≤ x ∧ x ≤ 400) (hlt : b < w.heap.size) (hlt2 : b2 < w.heap.size) (hc : IntsAt w b off xs) (hc2 : IntsAt w b2 off2 ys) :
    Calls Try.prog 71 #[ringV p n 2 v, .slice (some ⟨b, off, none⟩) xs.length cap, .slice (some ⟨b2, off2, none⟩) ys.length cap2] w fun e w' =>
      e = .returned (.bool (moreB 2 xs ys)) ∧ Below w.heap.size w w' := by
  have HC := hid hc
  have HC2 := hid hc2
  have HBX := hid hbx
  have HBY := hid hby
  have HXY := hid hxy
  have hmy : ys.length ≤ 3 := by omega
  clear hc hc2 hbx hby hxy
  go_enter Try.func71, Try.ntmps71
  go_wp2_with fail
  refine (degreeOf_any xs _ _ _ _ HBX.out hm ?_).mono ?_
  · intro i hi; rw [World.cell?_alloc_lt (w := w) (o := _) (a := ⟨b, off + i, none⟩) hlt]; exact HC.out i hi
  rintro e w' ⟨rfl, rfl⟩
  go_wp2_with fail
  refine (degreeOf_any ys _ _ _ _ HBY.out hmy ?_).mono ?_
  · intro i hi; rw [World.cell?_alloc_lt (w := w) (o := _) (a := ⟨b2, off2 + i, none⟩) hlt2]; exact HC2.out i hi
  rintro e w' ⟨rfl, rfl⟩
  cases hd : (sumI xs != sumI ys)
  · have hz : cmpI (sumI xs) (sumI ys) = 0 := by
      have h1 : sumI xs = sumI ys := by simpa using hd
      have := cmpI_vals (sumI xs) (sumI ys); omega
    have HO : Hid (moreB 2 xs ys = decide (0 < lexC xs ys)) := by
      unfold Hid moreB ordS; rw [if_pos hz, if_neg (by omega)]
    clear hz
    go_wp2
    go_loopw [9] (fun i wr => ∃ k : Nat, k ≤ xs.length ∧ i = .int .i64 k ∧ lexC xs ys = lexC (xs.drop k) (ys.drop k) ∧ Below w.heap.size w wr) (fun i _ => xs.length - (intOf i).toNat)
    case atStart => exact ⟨0, Nat.zero_le _, rfl, rfl, below_one⟩
    case round =>
      obtain ⟨k, hk, rfl, hn, hbr⟩ := hrel
      have HN := hid hn
      have HBR := hid hbr
      by_cases hk2 : k < xs.length
      · have hcell := HC.out k hk2
        have hcell2 := HC2.out k (by rw [← HXY.out]; exact hk2)
        rw [← hbr.cell (p := ⟨b, off + k, none⟩) hlt] at hcell
        rw [← hbr.cell (p := ⟨b2, off2 + k, none⟩) hlt2] at hcell2
        have HD := hid (lexC_drop xs ys k hk2 (by rw [← HXY.out]; exact hk2))
        have hxl : (k : Int) < (xs.length : Int) := by omega
        have hyl : (k : Int) < (ys.length : Int) := by have := HXY.out; omega
        clear hn hbr
        generalize xs.getD k 0 = x at hcell HD
        generalize ys.getD k 0 = y at hcell2 HD
        cases hne : (x != y)
        · go_wp2
          go_quiet (fail)
          go_wp2
          go_roundw
          case rel => exact ⟨k + 1, by omega, by go_num, by rw [HN.out, HD.out, if_pos (cmpI_eq hne).1], below_drewN HBR.out _⟩
          case measure => simp [intOf]; omega
        · go_wp2
          go_quiet (fail)
          go_wp2
          go_quiet (fail)
          go_wp2
          go_ret
          refine ⟨ret_bool ?_, below_drewN (below_drewN HBR.out _) _⟩
          rw [HO.out, HN.out, HD.out, if_neg (cmpI_ne hne).1, cmpI_pos]
      · clear hn hbr
        go_wp2
        go_ret
        refine ⟨ret_bool ?_, HBR.out⟩
        rw [HO.out, HN.out, List.drop_eq_nil_of_le (by omega)]
        rfl
  · have HO : Hid (moreB 2 xs ys = decide (sumI ys < sumI xs)) := by
      have h1 : sumI xs ≠ sumI ys := by simpa using hd
      have h2 := cmpI_vals (sumI xs) (sumI ys)
      unfold Hid moreB ordS; rw [if_neg (by omega), cmpI_pos]
    go_wp2
    go_ret
    exact ⟨ret_bool HO.out.symm, below_one⟩

set_option maxHeartbeats 1000000 in
theorem more_rev (p n v : Int) (xs ys : List Int) (b off cap b2 off2 cap2 : Nat) (w : World) (hm : xs.length ≤ 3) (hxy : xs.length = ys.length)
    (hbx : ∀ x ∈ xs, 0 ≤ x ∧ x ≤ 400) (hby : ∀ x ∈ ys, 0 ≤ x ∧ x ≤ 400) (hlt : b < w.heap.size) (hlt2 : b2 < w.heap.size) (hc : IntsAt w b off xs) (hc2 : IntsAt w b2 off2 ys) :
    Calls Try.prog 71 #[ringV p n 1 v, .slice (some ⟨b, off, none⟩) xs.length cap, .slice (some ⟨b2, off2, none⟩) ys.length cap2] w fun e w' =>
      e = .returned (.bool (moreB 1 xs ys)) ∧ Below w.heap.size w w' := by
  have HC := hid hc
  have HC2 := hid hc2
  have HBX := hid hbx
  have HBY := hid hby
  have HXY := hid hxy
  have hmy : ys.length ≤ 3 := by omega
  clear hc hc2 hbx hby hxy
  go_enter Try.func71, Try.ntmps71
  go_wp2_with fail
  refine (degreeOf_any xs _ _ _ _ HBX.out hm ?_).mono ?_
  · intro i hi; rw [World.cell?_alloc_lt (w := w) (o := _) (a := ⟨b, off + i, none⟩) hlt]; exact HC.out i hi
  rintro e w' ⟨rfl, rfl⟩
  go_wp2_with fail
  refine (degreeOf_any ys _ _ _ _ HBY.out hmy ?_).mono ?_
  · intro i hi; rw [World.cell?_alloc_lt (w := w) (o := _) (a := ⟨b2, off2 + i, none⟩) hlt2]; exact HC2.out i hi
  rintro e w' ⟨rfl, rfl⟩
  cases hd : (sumI xs != sumI ys)
  · have hz : cmpI (sumI xs) (sumI ys) = 0 := by
      have h1 : sumI xs = sumI ys := by simpa using hd
      have := cmpI_vals (sumI xs) (sumI ys); omega
    have HO : Hid (moreB 1 xs ys = decide (0 < revC xs ys)) := by
      unfold Hid moreB ordS; rw [if_pos hz, if_pos rfl]
    clear hz
    go_wp2
    go_loopw [10] (fun i wr => ∃ k : Nat, k ≤ xs.length ∧ i = .int .i64 ((k : Int) - 1) ∧ revC xs ys = lexC (ys.take k).reverse (xs.take k).reverse ∧ Below w.heap.size w wr) (fun i _ => (intOf i + 1).toNat)
    case atStart => exact ⟨xs.length, Nat.le_refl _, rfl, by rw [List.take_of_length_le (by have := HXY.out; omega), List.take_of_length_le (by omega)]; rfl, below_one⟩
    case round =>
      obtain ⟨k, hk, rfl, hn, hbr⟩ := hrel
      have HN := hid hn
      have HBR := hid hbr
      cases k with
      | succ k =>
        have hk2 : k < xs.length := by omega
        have hcell := HC.out k hk2
        have hcell2 := HC2.out k (by rw [← HXY.out]; exact hk2)
        rw [← hbr.cell (p := ⟨b, off + k, none⟩) hlt] at hcell
        rw [← hbr.cell (p := ⟨b2, off2 + k, none⟩) hlt2] at hcell2
        have HD := hid (lexC_take xs ys k hk2 (by rw [← HXY.out]; exact hk2))
        have hxl : (k : Int) < (xs.length : Int) := by omega
        have hyl : (k : Int) < (ys.length : Int) := by have := HXY.out; omega
        have ek : (((k + 1 : Nat) : Int) - 1) = (k : Int) := by omega
        rw [ek]
        clear hn hbr ek
        generalize xs.getD k 0 = x at hcell HD
        generalize ys.getD k 0 = y at hcell2 HD
        cases hne : (x != y)
        · go_wp2
          go_quiet (fail)
          go_wp2
          go_roundw
          case rel => exact ⟨k, by omega, rfl, by rw [HN.out, HD.out, if_pos (cmpI_eq hne).2], below_drewN HBR.out _⟩
          case measure => simp [intOf]
        · go_wp2
          go_quiet (fail)
          go_wp2
          go_quiet (fail)
          go_wp2
          go_ret
          refine ⟨ret_bool ?_, below_drewN (below_drewN HBR.out _) _⟩
          rw [HO.out, HN.out, HD.out, if_neg (cmpI_ne hne).2, cmpI_pos]
      | zero =>
        clear hn hbr
        go_wp2
        go_ret
        refine ⟨ret_bool ?_, HBR.out⟩
        rw [HO.out, HN.out]
        rfl
  · have HO : Hid (moreB 1 xs ys = decide (sumI ys < sumI xs)) := by
      have h1 : sumI xs ≠ sumI ys := by simpa using hd
      have h2 := cmpI_vals (sumI xs) (sumI ys)
      unfold Hid moreB ordS; rw [if_neg (by omega), cmpI_pos]
    go_wp2
    go_ret
    exact ⟨ret_bool HO.out.symm, below_one⟩

theorem more_any (p n o v : Int) (x y : Value) (xs ys : List Int) (w : World) (ho : o = 1 ∨ o = 2) (h0 : 0 < xs.length) (hm : xs.length ≤ 3) (hxy : xs.length = ys.length)
    (hbx : ∀ x ∈ xs, 0 ≤ x ∧ x ≤ 400) (hby : ∀ x ∈ ys, 0 ≤ x ∧ x ≤ 400) (hs : Sl w x xs) (hs2 : Sl w y ys) :
    Calls Try.prog 71 #[ringV p n o v, x, y] w fun e w' => e = .returned (.bool (moreB o xs ys)) ∧ Below w.heap.size w w' := by
  obtain ⟨a, cap, rfl, h1⟩ := hs
  obtain ⟨a2, cap2, rfl, h2⟩ := hs2
  obtain ⟨b, off, rfl, hlt, hc⟩ := h1 h0
  obtain ⟨b2, off2, rfl, hlt2, hc2⟩ := h2 (by omega)
  rcases ho with rfl | rfl
  · exact more_rev p n v xs ys b off cap b2 off2 cap2 w hm hxy hbx hby hlt hlt2 hc hc2
  · exact more_lex p n v xs ys b off cap b2 off2 cap2 w hm hxy hbx hby hlt hlt2 hc hc2

set_option maxHeartbeats 400000 in
theorem orderOf_any (p n o v : Int) (x y : Value) (xs ys : List Int) (w : World) (ho : o = 1 ∨ o = 2) (h0 : 0 < xs.length) (hm : xs.length ≤ 3) (hxy : xs.length = ys.length)
    (hbx : ∀ x ∈ xs, 0 ≤ x ∧ x ≤ 400) (hby : ∀ x ∈ ys, 0 ≤ x ∧ x ≤ 400) (hs : Sl w x xs) (hs2 : Sl w y ys) :
    Calls Try.prog 28 #[ringV p n o v, x, y] w fun e w' => e = .returned (.int .i64 (ordS o xs ys)) ∧ Below w.heap.size w w' := by
  have HS := hid hs
  have HS2 := hid hs2
  have hv := ordS_bd o xs ys
  have hg := ordS_neg o ys xs
  have HBX := hid hbx
  have HBY := hid hby
  have HXY := hid hxy
  have HO := hid ho
  obtain ⟨a, cap, rfl, _⟩ := hs
  obtain ⟨a2, cap2, rfl, _⟩ := hs2
  clear hbx hby ho hxy
  cases h1 : moreB o xs ys
  · have k1 : ¬ 0 < ordS o xs ys := by simpa [moreB] using h1
    cases h2 : moreB o ys xs
    · have k2 : ¬ 0 < ordS o ys xs := by simpa [moreB] using h2
      have e : ordS o xs ys = 0 := by omega
      rw [e]
      clear hv hg k1 k2 e
      go_enter Try.func28, Try.ntmps28
      go_wp2_with fail
      refine (more_any p n o v _ _ xs ys _ HO.out h0 hm HXY.out HBX.out HBY.out ?_ ?_).mono ?_
      · exact HS.out.below below_one
      · exact HS2.out.below below_one
      rintro e w1 ⟨rfl, hb1⟩
      have hb01 : Below w.heap.size w w1 := below_one.trans (hb1.mono (by simp))
      obtain ⟨c, c0, c1, c2, c3⟩ := (BoxAt.new w p n o v 39).below hb1
      clear hb1
      go_wp2_with fail
      refine (more_any p n o v _ _ ys xs _ HO.out (by rw [← HXY.out]; exact h0) (by rw [← HXY.out]; exact hm) HXY.out.symm HBY.out HBX.out ?_ ?_).mono ?_
      · exact HS2.out.below hb01
      · exact HS.out.below hb01
      rintro e w2 ⟨rfl, hb2⟩
      go_wp2
      go_ret
      exact ⟨rfl, hb01.trans (hb2.mono hb01.size)⟩
    · have k2 : 0 < ordS o ys xs := by simpa [moreB] using h2
      have e : ordS o xs ys = -1 := by omega
      rw [e]
      clear hv hg k1 k2 e
      go_enter Try.func28, Try.ntmps28
      go_wp2_with fail
      refine (more_any p n o v _ _ xs ys _ HO.out h0 hm HXY.out HBX.out HBY.out ?_ ?_).mono ?_
      · exact HS.out.below below_one
      · exact HS2.out.below below_one
      rintro e w1 ⟨rfl, hb1⟩
      have hb01 : Below w.heap.size w w1 := below_one.trans (hb1.mono (by simp))
      obtain ⟨c, c0, c1, c2, c3⟩ := (BoxAt.new w p n o v 39).below hb1
      clear hb1
      go_wp2_with fail
      refine (more_any p n o v _ _ ys xs _ HO.out (by rw [← HXY.out]; exact h0) (by rw [← HXY.out]; exact hm) HXY.out.symm HBY.out HBX.out ?_ ?_).mono ?_
      · exact HS2.out.below hb01
      · exact HS.out.below hb01
      rintro e w2 ⟨rfl, hb2⟩
      go_wp2
      go_ret
      exact ⟨rfl, hb01.trans (hb2.mono hb01.size)⟩
  · have k1 : 0 < ordS o xs ys := by simpa [moreB] using h1
    have e : ordS o xs ys = 1 := by omega
    rw [e]
    clear hv hg k1 e
    go_enter Try.func28, Try.ntmps28
    go_wp2_with fail
    refine (more_any p n o v _ _ xs ys _ HO.out h0 hm HXY.out HBX.out HBY.out ?_ ?_).mono ?_
    · exact HS.out.below below_one
    · exact HS2.out.below below_one
    rintro e w1 ⟨rfl, hb1⟩
    go_wp2
    go_ret
    exact ⟨rfl, below_one.trans (hb1.mono (by simp))⟩

/-- monoIs says yes where the answer is what it must be. -/
theorem monoIs_any (x y : Value) (xs : List Int) (E : Int) (ys : List Int) (w : World) (hm : xs.length ≤ 3) (hs : Sl w x xs) (hs2 : Sl w y ys) (hok : E = 0 → xs = ys) (hno : E ≠ 0 → xs = []) :
    Calls Try.prog 35 #[x, .int .i64 E, .int .i64 E, y] w fun e w' => e = .returned (.bool true) ∧ Below w.heap.size w w' := by
  have HS := hid hs
  have HS2 := hid hs2
  have HOK := hid hok
  have HNO := hid hno
  obtain ⟨a, cap, rfl, _⟩ := hs
  obtain ⟨a2, cap2, rfl, _⟩ := hs2
  clear hok hno
  have hEE : (E == E) = true := by simp
  cases hE : (E != 0)
  · have e0 : E = 0 := by simpa using hE
    have exy := HOK.out e0
    subst exy
    clear e0
    go_enter Try.func35, Try.ntmps35
    go_wp2_with fail
    refine (sameInts_any _ _ xs xs _ hm HS.out HS2.out).mono ?_
    rintro e w1 ⟨rfl, hd⟩
    have hsm : sameB xs xs = true := by simp [sameB]
    rw [hsm]
    go_wp2
    go_ret
    exact ⟨rfl, below_ndraws (Below.refl _ _) hd⟩
  · have e0 : E ≠ 0 := by simpa using hE
    have exy := HNO.out e0
    subst exy
    clear e0
    go_enter Try.func35, Try.ntmps35
    go_wp2_with fail
    refine (sameInts_any _ _ [] [] _ (by simp) HS.out (Sl.empty _)).mono ?_
    rintro e w1 ⟨rfl, hd⟩
    have hsm : sameB [] [] = true := by simp [sameB]
    rw [hsm]
    go_wp2
    go_ret
    exact ⟨rfl, below_ndraws (Below.refl _ _) hd⟩

end Go.Proofs.Ytkmjmmnnnbjghaa
