/- VSum, VTimes of the reference. -/
import Derived.Test.YtilogbggilchaaaWA
import Derived.Test.YtilogbggilchaaaRC
namespace Go.Proofs.Ytilogbggilchaaa
set_option linter.unusedSimpArgs false
set_option linter.unusedVariables false
open Go.RowKit
theorem vl_at {w : World} {a : Option Addr} {c : Nat} {fss : List (List Tm)} (h : Vl w (.slice a fss.length c) fss) (k : Nat) (hk : k < fss.length) : ∃ b off fa fc, a = some ⟨b, off, none⟩ ∧ b < w.heap.size ∧ w.cell? ⟨b, off + k, none⟩ = some (.slice fa (fss.getD k []).length fc) ∧ Pl w (.slice fa (fss.getD k []).length fc) (fss.getD k []) := by
  obtain ⟨a2, c2, e, h1⟩ := h
  obtain ⟨b, off, rfl, hlt, hat⟩ := h1 (by omega)
  simp only [Value.slice.injEq, true_and] at e
  obtain ⟨rfl, rfl⟩ := e
  obtain ⟨v, hc, hp⟩ := hat k hk
  have hp2 := hp
  obtain ⟨fa, fc, rfl, _, _⟩ := hp
  exact ⟨b, off, fa, fc, rfl, hlt, hc, hp2⟩
theorem len_snoc {α : Type} (l : List α) (x : α) : (l ++ [x]).length = l.length + 1 := by simp
theorem take_snocL {α : Type} (l : List (List α)) (k : Nat) (h : k < l.length) : l.take (k + 1) = l.take k ++ [l.getD k []] := by
  rw [List.take_succ_eq_append_getElem h]; simp [List.getD_eq_getElem?_getD, h]
theorem getD_mapL {α : Type} (F : List α → List α) (l : List (List α)) (k : Nat) (h : k < l.length) : (l.map F).getD k [] = F (l.getD k []) := by
  simp [List.getD_eq_getElem?_getD, h]
def sums (p o : Int) (fss gss : List (List Tm)) : List (List Tm) := List.zipWith (fun f g => colL p o (f ++ g)) fss gss
theorem sums_len {p o : Int} {fss gss : List (List Tm)} (h : fss.length = gss.length) : (sums p o fss gss).length = fss.length := by
  unfold sums; rw [List.length_zipWith]; omega
theorem sums_at {p o : Int} {fss gss : List (List Tm)} {k : Nat} (h : fss.length = gss.length) (hk : k < fss.length) : (sums p o fss gss).getD k [] = colL p o (fss.getD k [] ++ gss.getD k []) := by
  unfold sums
  simp [List.getD_eq_getElem?_getD, List.getElem?_zipWith, hk, show k < gss.length by omega]
def prods (p o : Int) (f : List Tm) (gss : List (List Tm)) : List (List Tm) := gss.map fun g => colL p o (prodL p f g)
theorem one_newP (w : World) (x : Value) (T : TypeId) : ∀ j u, [x][j]? = some u → (w.alloc (.cells #[x] T)).cell? ((⟨w.heap.size, 0, none⟩ : Addr).add j) = some u := by
  intro j u hj
  rcases j with _ | j
  · simp at hj; subst hj; simp [Addr.add, go_sem]
  · simp at hj
def Sm (p : Int) (N : Nat) (f : List Tm) : Prop := (∀ t ∈ f, Tok p N t) ∧ f.length ≤ 2000000

set_option maxRecDepth 100000 in
set_option maxHeartbeats 2000000 in
theorem vsum_any (p n o v : Int) (N : Nat) (x y : Value) (fss gss : List (List Tm)) (w : World) (hp : 2 ≤ p ∧ p ≤ 101) (ho : o = 1 ∨ o = 2) (hN0 : 0 < N) (hN : N ≤ 3) (hl : fss.length = gss.length) (hm : fss.length ≤ 1000) (hf : ∀ f ∈ fss, Sm p N f) (hg : ∀ g ∈ gss, Sm p N g) (pf : Vl w x fss) (pg : Vl w y gss) :
    Calls Try.prog 10 #[ringV p n o v, x, y] w fun e w' => ∃ u, e = .returned u ∧ Vl w' u (sums p o fss gss) ∧ Below w.heap.size w w' := by
  have HX := hid pf
  have HY := hid pg
  have HF := hid hf
  have HG := hid hg
  have HP := hid hp
  have HO := hid ho
  have HL := hid hl
  obtain ⟨ax, cx, rfl, _⟩ := pf
  obtain ⟨ay, cy, rfl, _⟩ := pg
  clear hf hg hp ho hl
  obtain ⟨w1, hw1⟩ : ∃ w1, w1 = w.alloc (.cells #[.int .i64 p, .int .i64 n, .int .i64 o, .int .i64 v] 23) := ⟨_, rfl⟩
  have hbx : BoxAt w1 w.heap.size p n o v := by rw [hw1]; exact BoxAt.new w p n o v _
  have hbw : Below w.heap.size w w1 := by rw [hw1]; exact below_oneG
  have HBX := hid hbx
  have HBW := hid hbw
  clear hbx hbw
  go_enter Try.func10, Try.ntmps10
  go_wp2_with fail
  rw [← hw1]
  clear hw1
  go_loopw [7, 8] (fun z i wr => ∃ (k : Nat) (us : List Value), k ≤ fss.length ∧ i = .int .i64 k ∧ PRow w1.heap.size wr z us ((sums p o fss gss).take k) ∧ Below w1.heap.size w1 wr) (fun _ i _ => fss.length - (intOf i).toNat)
  case atStart => exact ⟨0, [], Nat.zero_le _, rfl, PRow.nil _ _, Below.refl _ _⟩
  case round =>
    obtain ⟨k, us, hk, rfl, hrow, hbr⟩ := hrel
    have HROW := hid hrow
    have HBR := hid hbr
    obtain ⟨ys, hys⟩ : ∃ ys, (sums p o fss gss).take k = ys := ⟨_, rfl⟩
    have HTL : Hid (ys.length = k) := by show _ = _; rw [← hys, List.length_take, sums_len HL.out]; omega
    rw [hys] at hrow HROW
    have HYS := hid hys
    clear hys
    obtain ⟨za, zc, hz⟩ := own_sl hrow.own
    subst hz
    clear hrow hbr
    by_cases hk2 : k < fss.length
    · have hk3 : k < gss.length := by have := HL.out; omega
      obtain ⟨b, off, fa, fc, rfl, hlt, c0, hpf⟩ := vl_at HX.out k hk2
      obtain ⟨b2, off2, ga, gc, rfl, hlt2, d0, hpg⟩ := vl_at HY.out k hk3
      have hkI : (k : Int) < (gss.length : Int) := by omega
      have HDN := hid (HBW.out.trans (HBR.out.mono HBW.out.size))
      have HTS : Hid ((sums p o fss gss).take (k + 1) = ys ++ [colL p o (fss.getD k [] ++ gss.getD k [])]) := by
        show _ = _
        rw [← HYS.out, take_snocL _ _ (by rw [sums_len HL.out]; exact hk2), sums_at HL.out hk2]
      have HFG := hid (And.intro (HF.out _ (getD_memL fss k hk2)) (HG.out _ (getD_memL gss k hk3)))
      generalize fss.getD k [] = f at c0 hpf HTS HFG
      generalize gss.getD k [] = g at d0 hpg HTS HFG
      have HPF := hid (hpf.below HBW.out)
      have HPG := hid (hpg.below HBW.out)
      clear hpf hpg
      obtain ⟨_, bx0, bx1, bx2, bx3⟩ := HBX.out
      have KEEP : Hid (∀ W, Below w1.heap.size w1 W → (Hid (Below w1.heap.size w1 W) ∧ W.cell? ⟨w.heap.size, 0, none⟩ = some (.int .i64 p) ∧ W.cell? ⟨w.heap.size, 1, none⟩ = some (.int .i64 n) ∧ W.cell? ⟨w.heap.size, 2, none⟩ = some (.int .i64 o) ∧ W.cell? ⟨w.heap.size, 3, none⟩ = some (.int .i64 v) ∧ W.cell? ⟨b, off + k, none⟩ = some (.slice fa f.length fc) ∧ W.cell? ⟨b2, off2 + k, none⟩ = some (.slice ga g.length gc))) :=
        fun W hb => ⟨hb, cell_keep bx0 hb, cell_keep bx1 hb, cell_keep bx2 hb, cell_keep bx3 hb, cell_keep (cell_keep c0 HBW.out) hb, cell_keep (cell_keep d0 HBW.out) hb⟩
      have HB0 : Hid (Below w1.heap.size w1 wr.drew) := HBR.out.drew
      clear bx0 bx1 bx2 bx3 c0 d0
      go_wp2
      go_region_held_law (fun W => Hid (Below w1.heap.size w1 W) ∧ W.cell? ⟨w.heap.size, 0, none⟩ = some (.int .i64 p) ∧ W.cell? ⟨w.heap.size, 1, none⟩ = some (.int .i64 n) ∧ W.cell? ⟨w.heap.size, 2, none⟩ = some (.int .i64 o) ∧ W.cell? ⟨w.heap.size, 3, none⟩ = some (.int .i64 v) ∧ W.cell? ⟨b, off + k, none⟩ = some (.slice fa f.length fc) ∧ W.cell? ⟨b2, off2 + k, none⟩ = some (.slice ga g.length gc))
        (first | exact KEEP.out _ HB0.out | exact KEEP.out _ HB7.out | exact KEEP.out _ (HB6.out.trans (belowNew.mono HB6.out.size)) | exact KEEP.out _ HB6.out)
        (first
          | (refine step_append_prow rfl (.tmp 15) (.tmp 26) 27 rfl Try.underlying27 w1.heap.size (.slice za ys.length zc) us ys (by simp [Act.eval, Act.put]) (PR6.out.next belowNew) ⟨w6.heap.size, 0, none⟩ 1 (.slice ua6 (colL p o (f ++ g)).length uc6) (colL p o (f ++ g)) (HU6.out.below belowNew) (by simp [Act.eval, Act.put]) (one_newP _ _ _) (by rw [HTL.out]; omega) (Nat.le_trans HB6.out.size (by simp)) ?_; intro v7 w7 r1 r2; have HB7 := hid (show Below w1.heap.size w1 w7 from (PR6.out.next belowNew).grown (HB6.out.trans (belowNew.mono HB6.out.size)) r2 (Nat.le_refl _)); obtain ⟨va7, vc7, hv7⟩ := own_sl r1.own; rw [len_snoc] at hv7; subst hv7; have HR7 := hid r1; clear r1 r2)
          | (go_at_call 35; refine (refSum_any p n o v N _ _ f g _ HP.out HO.out hN0 hN HFG.out.1.1 HFG.out.2.1 ?_ ?_ ?_).mono ?_; (have h1 := HFG.out.1.2; have h2 := HFG.out.2.2; omega); exact HPF.out.below HB0.out; exact HPG.out.below HB0.out; rintro e w6 ⟨u6, rfl, hu6, hb6⟩; have PR6 := hid (HROW.out.next (((Below.refl wr.heap.size wr).drew).trans hb6)); have HB6 := hid (show Below w1.heap.size w1 w6 from HB0.out.trans (hb6.mono HB0.out.size)); have HU6 := hid hu6; obtain ⟨ua6, uc6, rfl, _, _⟩ := hu6; clear hb6))
      all_goals
        go_wp2
        first
          | exact ⟨⟨k + 1, us ++ [_], by omega, by go_num, by rw [HTS.out]; exact HR7.out, HB7.out⟩, by simp [intOf]; omega⟩
          | (go_roundw; (case rel => exact ⟨k + 1, us ++ [_], by omega, by go_num, by rw [HTS.out]; exact HR7.out, HB7.out⟩); case measure => simp [intOf]; omega)
    · have e : k = fss.length := by omega
      subst e
      have HE : Hid (sums p o fss gss = ys) := by show _ = _; rw [← HYS.out, List.take_of_length_le (by rw [sums_len HL.out]; exact Nat.le_refl _)]
      have HV := hid HROW.out.vl
      go_wp2
      go_ret
      exact ⟨_, rfl, by rw [HE.out]; exact HV.out, HBW.out.trans (HBR.out.mono HBW.out.size)⟩

set_option maxRecDepth 100000 in
set_option maxHeartbeats 2000000 in
theorem vtimes_any (p n o v : Int) (N : Nat) (x y : Value) (f : List Tm) (gss : List (List Tm)) (w : World) (hp : 2 ≤ p ∧ p ≤ 101) (ho : o = 1 ∨ o = 2) (hN0 : 0 < N) (hN : N ≤ 3) (hm : gss.length ≤ 1000) (hf : Right p o N f) (hg : ∀ g ∈ gss, Right p o N g) (pf : Pl w x f) (pg : Vl w y gss) :
    Calls Try.prog 11 #[ringV p n o v, x, y] w fun e w' => ∃ u, e = .returned u ∧ Vl w' u (prods p o f gss) ∧ Below w.heap.size w w' := by
  have HX := hid pf
  have HY := hid pg
  have HF := hid hf
  have HG := hid hg
  have HP := hid hp
  have HO := hid ho
  obtain ⟨ax, cx, rfl, _, _⟩ := pf
  obtain ⟨ay, cy, rfl, _⟩ := pg
  unfold prods
  clear hf hg hp ho
  obtain ⟨w1, hw1⟩ : ∃ w1, w1 = w.alloc (.cells #[.int .i64 p, .int .i64 n, .int .i64 o, .int .i64 v] 23) := ⟨_, rfl⟩
  have hbx : BoxAt w1 w.heap.size p n o v := by rw [hw1]; exact BoxAt.new w p n o v _
  have hbw : Below w.heap.size w w1 := by rw [hw1]; exact below_oneG
  have HBX := hid hbx
  have HBW := hid hbw
  clear hbx hbw
  go_enter Try.func11, Try.ntmps11
  go_wp2_with fail
  rw [← hw1]
  clear hw1
  go_loopw [7, 8] (fun z i wr => ∃ (k : Nat) (us : List Value), k ≤ gss.length ∧ i = .int .i64 k ∧ PRow w1.heap.size wr z us (((gss.map fun g => colL p o (prodL p f g))).take k) ∧ Below w1.heap.size w1 wr) (fun _ i _ => gss.length - (intOf i).toNat)
  case atStart => exact ⟨0, [], Nat.zero_le _, rfl, PRow.nil _ _, Below.refl _ _⟩
  case round =>
    obtain ⟨k, us, hk, rfl, hrow, hbr⟩ := hrel
    have HROW := hid hrow
    have HBR := hid hbr
    obtain ⟨ys, hys⟩ : ∃ ys, ((gss.map fun g => colL p o (prodL p f g))).take k = ys := ⟨_, rfl⟩
    have HTL : Hid (ys.length = k) := by show _ = _; rw [← hys, List.length_take, List.length_map]; omega
    rw [hys] at hrow HROW
    have HYS := hid hys
    clear hys
    obtain ⟨za, zc, hz⟩ := own_sl hrow.own
    subst hz
    clear hrow hbr
    by_cases hk2 : k < gss.length
    · obtain ⟨b2, off2, ga, gc, rfl, hlt2, d0, hpg⟩ := vl_at HY.out k hk2
      have HDN := hid (HBW.out.trans (HBR.out.mono HBW.out.size))
      have HTS : Hid (((gss.map fun g => colL p o (prodL p f g))).take (k + 1) = ys ++ [colL p o (prodL p f (gss.getD k []))]) := by
        show _ = _
        rw [← HYS.out, take_snocL _ _ (by rw [List.length_map]; exact hk2), getD_mapL (fun g => colL p o (prodL p f g)) _ _ hk2]
      have HGK := hid (HG.out _ (getD_memL gss k hk2))
      generalize gss.getD k [] = g at d0 hpg HTS HGK
      have HPG := hid (hpg.below HBW.out)
      clear hpg
      obtain ⟨_, bx0, bx1, bx2, bx3⟩ := HBX.out
      have KEEP : Hid (∀ W, Below w1.heap.size w1 W → (Hid (Below w1.heap.size w1 W) ∧ W.cell? ⟨w.heap.size, 0, none⟩ = some (.int .i64 p) ∧ W.cell? ⟨w.heap.size, 1, none⟩ = some (.int .i64 n) ∧ W.cell? ⟨w.heap.size, 2, none⟩ = some (.int .i64 o) ∧ W.cell? ⟨w.heap.size, 3, none⟩ = some (.int .i64 v) ∧ W.cell? ⟨b2, off2 + k, none⟩ = some (.slice ga g.length gc))) :=
        fun W hb => ⟨hb, cell_keep bx0 hb, cell_keep bx1 hb, cell_keep bx2 hb, cell_keep bx3 hb, cell_keep (cell_keep d0 HBW.out) hb⟩
      have HB0 : Hid (Below w1.heap.size w1 wr.drew) := HBR.out.drew
      clear bx0 bx1 bx2 bx3 d0
      go_wp2
      go_region_held_law (fun W => Hid (Below w1.heap.size w1 W) ∧ W.cell? ⟨w.heap.size, 0, none⟩ = some (.int .i64 p) ∧ W.cell? ⟨w.heap.size, 1, none⟩ = some (.int .i64 n) ∧ W.cell? ⟨w.heap.size, 2, none⟩ = some (.int .i64 o) ∧ W.cell? ⟨w.heap.size, 3, none⟩ = some (.int .i64 v) ∧ W.cell? ⟨b2, off2 + k, none⟩ = some (.slice ga g.length gc))
        (first | exact KEEP.out _ HB0.out | exact KEEP.out _ HB7.out | exact KEEP.out _ (HB6.out.trans (belowNew.mono HB6.out.size)) | exact KEEP.out _ HB6.out)
        (first
          | (refine step_append_prow rfl (.tmp 15) (.tmp 23) 27 rfl Try.underlying27 w1.heap.size (.slice za ys.length zc) us ys (by simp [Act.eval, Act.put]) (PR6.out.next belowNew) ⟨w6.heap.size, 0, none⟩ 1 (.slice ua6 (colL p o (prodL p f g)).length uc6) (colL p o (prodL p f g)) (HU6.out.below belowNew) (by simp [Act.eval, Act.put]) (one_newP _ _ _) (by rw [HTL.out]; omega) (Nat.le_trans HB6.out.size (by simp)) ?_; intro v7 w7 r1 r2; have HB7 := hid (show Below w1.heap.size w1 w7 from (PR6.out.next belowNew).grown (HB6.out.trans (belowNew.mono HB6.out.size)) r2 (Nat.le_refl _)); obtain ⟨va7, vc7, hv7⟩ := own_sl r1.own; rw [len_snoc] at hv7; subst hv7; have HR7 := hid r1; clear r1 r2)
          | (go_at_call 36; refine (refProduct_any p n o v N _ _ f g _ HP.out HO.out hN0 hN HF.out.canon.len HGK.out.canon.len ?_ ?_ HF.out.bd HGK.out.bd HF.out.len HGK.out.len ?_ ?_).mono ?_; exact (fun t ht => ⟨by have := HF.out.canon.coef t ht; omega, (HF.out.canon.coef t ht).2⟩); exact (fun t ht => ⟨by have := HGK.out.canon.coef t ht; omega, (HGK.out.canon.coef t ht).2⟩); exact (HX.out.below HBW.out).below HB0.out; exact HPG.out.below HB0.out; rintro e w6 ⟨u6, rfl, hu6, hb6⟩; have PR6 := hid (HROW.out.next (((Below.refl wr.heap.size wr).drew).trans hb6)); have HB6 := hid (show Below w1.heap.size w1 w6 from HB0.out.trans (hb6.mono HB0.out.size)); have HU6 := hid hu6; obtain ⟨ua6, uc6, rfl, _, _⟩ := hu6; clear hb6))
      all_goals
        go_wp2
        first
          | exact ⟨⟨k + 1, us ++ [_], by omega, by go_num, by rw [HTS.out]; exact HR7.out, HB7.out⟩, by simp [intOf]; omega⟩
          | (go_roundw; (case rel => exact ⟨k + 1, us ++ [_], by omega, by go_num, by rw [HTS.out]; exact HR7.out, HB7.out⟩); case measure => simp [intOf]; omega)
    · have e : k = gss.length := by omega
      subst e
      have HE : Hid ((gss.map fun g => colL p o (prodL p f g)) = ys) := by show _ = _; rw [← HYS.out, List.take_of_length_le (by rw [List.length_map]; exact Nat.le_refl _)]
      have HV := hid HROW.out.vl
      go_wp2
      go_ret
      exact ⟨_, rfl, by rw [HE.out]; exact HV.out, HBW.out.trans (HBR.out.mono HBW.out.size)⟩
def OkP (ws : List Tm) : Prop := ws.length ≤ 8000000 ∧ ∀ t ∈ ws, 0 < t.2.length ∧ t.2.length ≤ 3 ∧ ∀ x ∈ t.2, 0 ≤ x ∧ x ≤ 400
theorem any_takeP (f : List Tm → Bool) (fss : List (List Tm)) (k : Nat) (h : k < fss.length) (h0 : (fss.take k).any f = false) (h1 : f (fss.getD k []) = false) : (fss.take (k + 1)).any f = false := by
  rw [take_snocL _ _ h, List.any_append, h0]; simpa using h1
theorem any_atP (f : List Tm → Bool) (fss : List (List Tm)) (k : Nat) (h : k < fss.length) (h1 : f (fss.getD k []) = true) : fss.any f = true := by
  rw [List.any_eq_true]; exact ⟨_, getD_memL fss k h, h1⟩

set_option maxRecDepth 100000 in
set_option maxHeartbeats 1000000 in
theorem vgreat_any (x : Value) (fss : List (List Tm)) (w : World) (hm : fss.length ≤ 1000) (hf : ∀ f ∈ fss, OkP f) (pf : Vl w x fss) :
    Calls Try.prog 44 #[x] w fun e w' => e = .returned (.bool (fss.any greatB)) ∧ w' = w := by
  have HX := hid pf
  have HF := hid hf
  obtain ⟨ax, cx, rfl, _⟩ := pf
  clear hf
  go_enter Try.func44, Try.ntmps44
  go_wp2
  go_loop [3] (fun i => ∃ k : Nat, k ≤ fss.length ∧ i = .int .i64 k ∧ (fss.take k).any greatB = false) (fun i => fss.length - (intOf i).toNat)
  case atStart => exact ⟨0, Nat.zero_le _, rfl, by simp⟩
  case round =>
    obtain ⟨k, hk, rfl, hn⟩ := hrel
    have HN := hid hn
    clear hn
    by_cases hk2 : k < fss.length
    · obtain ⟨b, off, fa, fc, rfl, hlt, c0, hpf⟩ := vl_at HX.out k hk2
      have H1 := hid (any_takeP greatB fss k hk2 HN.out)
      have H2 := hid (any_atP greatB fss k hk2)
      have HK := hid (HF.out _ (getD_memL fss k hk2))
      generalize fss.getD k [] = f at c0 hpf H1 H2 HK
      have HG := hid (great_any _ f w HK.out.1 HK.out.2 hpf)
      clear hpf
      cases hg : greatB f
      · go_wp2_with (go_at_call 49; refine HG.out.mono ?_; rw [hg]; rintro e w' ⟨rfl, rfl⟩)
        go_round
        case rel => exact ⟨k + 1, by omega, by go_num, H1.out hg⟩
        case measure => simp [intOf]; omega
      · go_wp2_with (go_at_call 49; refine HG.out.mono ?_; rw [hg]; rintro e w' ⟨rfl, rfl⟩)
        go_ret
        exact ⟨ret_bool (H2.out hg).symm, rfl⟩
    · go_wp2
      go_ret
      refine ⟨ret_bool ?_, rfl⟩
      have h := HN.out
      rw [List.take_of_length_le (by omega)] at h
      exact h.symm

set_option maxRecDepth 100000 in
set_option maxHeartbeats 1000000 in
theorem sameVector_any (x y : Value) (fss : List (List Tm)) (w : World) (hm : fss.length ≤ 1000) (hf : ∀ f ∈ fss, OkP f) (pf : Vl w x fss) (pg : Vl w y fss) :
    Calls Try.prog 45 #[x, y] w fun e w' => e = .returned (.bool true) ∧ Below w.heap.size w w' := by
  have HX := hid pf
  have HY := hid pg
  have HF := hid hf
  obtain ⟨ax, cx, rfl, _⟩ := pf
  obtain ⟨ay, cy, rfl, _⟩ := pg
  clear hf
  go_enter Try.func45, Try.ntmps45
  go_wp2
  go_loopw [5] (fun i wr => ∃ k : Nat, k ≤ fss.length ∧ i = .int .i64 k ∧ Below w.heap.size w wr) (fun i _ => fss.length - (intOf i).toNat)
  case atStart => exact ⟨0, Nat.zero_le _, rfl, Below.refl _ _⟩
  case round =>
    obtain ⟨k, hk, rfl, hbr⟩ := hrel
    have HBR := hid hbr
    clear hbr
    by_cases hk2 : k < fss.length
    · obtain ⟨b, off, fa, fc, rfl, hlt, c0, hpf⟩ := vl_at HX.out k hk2
      obtain ⟨b2, off2, ga, gc, rfl, hlt2, d0, hpg⟩ := vl_at HY.out k hk2
      have HK := hid (HF.out _ (getD_memL fss k hk2))
      generalize fss.getD k [] = f at c0 hpf d0 hpg HK
      have HPF := hid (hpf.below HBR.out)
      have HPG := hid (hpg.below HBR.out)
      have k0 := cell_keep c0 HBR.out
      have k1 := cell_keep d0 HBR.out
      have KEEP : Hid (∀ W, Below wr.heap.size wr W → (Hid (Below wr.heap.size wr W) ∧ W.cell? ⟨b, off + k, none⟩ = some (.slice fa f.length fc) ∧ W.cell? ⟨b2, off2 + k, none⟩ = some (.slice ga f.length gc))) :=
        fun W hb => ⟨hb, cell_keep k0 hb, cell_keep k1 hb⟩
      have HB0 : Hid (Below wr.heap.size wr wr.drew) := (Below.refl _ _).drew
      have HL3 := hid (fun t ht => (HK.out.2 t ht).2.1)
      clear c0 d0 hpf hpg
      go_wp2_with fail
      go_region_held (fun W => Hid (Below wr.heap.size wr W) ∧ W.cell? ⟨b, off + k, none⟩ = some (.slice fa f.length fc) ∧ W.cell? ⟨b2, off2 + k, none⟩ = some (.slice ga f.length gc))
        (first | exact KEEP.out _ HB0.out | exact KEEP.out _ (HB0.out.trans (hb9.mono HB0.out.size)))
        (first | (go_at_call 71; refine (samePoly_any _ _ f f _ HK.out.1 HL3.out ?_ ?_).mono ?_; exact HPF.out.below HB0.out; exact HPG.out.below HB0.out; rw [decide_eq_true rfl]; rintro e w9 ⟨rfl, hb9⟩))
      have HB9 := hid (show Below wr.heap.size wr w9 from HB0.out.trans (hb9.mono HB0.out.size))
      clear hb9
      go_wp2_with fail
      go_roundw
      case rel => exact ⟨k + 1, by omega, by go_num, HBR.out.trans (HB9.out.mono HBR.out.size)⟩
      case measure => simp [intOf]; omega
    · go_wp2
      go_ret
      exact ⟨rfl, HBR.out⟩

def visE (E : Int) (wss : List (List Tm)) : Int := if E ≠ 0 then E else if wss.any greatB then 2 else 0
def visR (E : Int) (wss : List (List Tm)) : List (List Tm) := if visE E wss = 0 then wss else []
theorem Vl.empty (w : World) : Vl w (.slice none 0 0) [] := ⟨none, 0, rfl, fun h => absurd h (by simp)⟩

set_option maxRecDepth 100000 in
set_option maxHeartbeats 1000000 in
theorem vectorIs_any (x y : Value) (wss : List (List Tm)) (E : Int) (w : World) (hk : E = 0 → wss.length ≤ 1000 ∧ ∀ f ∈ wss, OkP f) (pf : Vl w x (visR E wss)) (pg : Vl w y wss) :
    Calls Try.prog 16 #[x, .int .i64 (visE E wss), .int .i64 E, y] w fun e w' => e = .returned (.bool true) ∧ Below w.heap.size w w' := by
  have HQ := hid pg
  cases hE : (E != 0)
  · have hE0 : E = 0 := by simpa using hE
    subst hE0
    obtain ⟨hlen, hall⟩ := hk rfl
    have HALL := hid hall
    clear hk hE hall
    cases hg : wss.any greatB
    · have he : visE 0 wss = 0 := by unfold visE; simp [hg]
      have hr : visR 0 wss = wss := by unfold visR; rw [if_pos he]
      rw [hr] at pf
      rw [he]
      have HP := hid pf
      obtain ⟨a, c, rfl, _⟩ := pf
      obtain ⟨a2, c2, rfl, _⟩ := pg
      clear he hr
      go_enter Try.func16, Try.ntmps16
      go_wp2_with (first
        | (go_at_call 44; refine (vgreat_any _ wss _ hlen HALL.out HQ.out).mono ?_; rw [hg]; rintro e w1 ⟨rfl, rfl⟩)
        | (go_at_call 45; refine (sameVector_any _ _ wss _ hlen HALL.out HP.out HQ.out).mono ?_; rintro e w1 ⟨rfl, hb1⟩; have HB1 := hid hb1; clear hb1))
      go_ret
      exact ⟨rfl, HB1.out⟩
    · have he : visE 0 wss = 2 := by unfold visE; simp [hg]
      have hr : visR 0 wss = [] := by unfold visR; rw [he, if_neg (by omega)]
      rw [hr] at pf
      rw [he]
      have HP := hid pf
      obtain ⟨a, c, rfl, _⟩ := pf
      obtain ⟨a2, c2, rfl, _⟩ := pg
      clear he hr
      go_enter Try.func16, Try.ntmps16
      go_wp2_with (first
        | (go_at_call 44; refine (vgreat_any _ wss _ hlen HALL.out HQ.out).mono ?_; rw [hg]; rintro e w1 ⟨rfl, rfl⟩)
        | (go_at_call 45; refine (sameVector_any _ _ [] _ (by simp) (fun t ht => by simp at ht) HP.out (Vl.empty _)).mono ?_; rintro e w1 ⟨rfl, hb1⟩; have HB1 := hid hb1; clear hb1))
      go_ret
      exact ⟨rfl, HB1.out⟩
  · have hE0 : E ≠ 0 := by simpa using hE
    have he : visE E wss = E := by unfold visE; rw [if_pos hE0]
    have hr : visR E wss = [] := by unfold visR; rw [he, if_neg hE0]
    have hE1 : (E == 0) = false := by simpa using hE0
    rw [hr] at pf
    rw [he]
    have HP := hid pf
    obtain ⟨a, c, rfl, _⟩ := pf
    obtain ⟨a2, c2, rfl, _⟩ := pg
    clear he hr hk hE0
    go_enter Try.func16, Try.ntmps16
    go_wp2_with (first
      | (go_at_call 45; refine (sameVector_any _ _ [] _ (by simp) (fun t ht => by simp at ht) HP.out (Vl.empty _)).mono ?_; rintro e w1 ⟨rfl, hb1⟩; have HB1 := hid hb1; clear hb1))
    go_ret
    exact ⟨rfl, HB1.out⟩
end Go.Proofs.Ytilogbggilchaaa
