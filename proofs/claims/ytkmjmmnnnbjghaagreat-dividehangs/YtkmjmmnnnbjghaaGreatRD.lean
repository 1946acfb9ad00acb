/- Product of the reference. -/
import Derived.Test.YtkmjmmnnnbjghaaGreatRB
namespace Go.Proofs.YtkmjmmnnnbjghaaGreat
set_option linter.unusedSimpArgs false
set_option linter.unusedVariables false
open Go.RowKit

set_option maxHeartbeats 1000000 in
theorem putTimesO_any (xs ys : List Int) (b off cap b2 off2 cap2 : Nat) (w : World) (hm : xs.length ≤ 3) (hxy : xs.length = ys.length)
    (hbx : ∀ x ∈ xs, 0 ≤ x ∧ x ≤ 20000) (hby : ∀ x ∈ ys, 0 ≤ x ∧ x ≤ 20000) (hlt : b < w.heap.size) (hlt2 : b2 < w.heap.size) (hc : IntsAt w b off xs) (hc2 : IntsAt w b2 off2 ys) :
    Calls Tryz.prog 36 #[.slice (some ⟨b, off, none⟩) xs.length cap, .slice (some ⟨b2, off2, none⟩) ys.length cap2, .int .i64 1] w fun e w' =>
      ∃ u, e = .returned u ∧ w'.ownsRow w.heap.size 3 1 u (zipI (· + ·) xs ys).length ((zipI (· + ·) xs ys).map (Value.int .i64)) ∧ Below w.heap.size w w' := by
  have HC := hid hc
  have HC2 := hid hc2
  have HBX := hid hbx
  have HBY := hid hby
  have HLZ := hid (zipI_len (· + ·) xs ys hxy)
  rw [← hxy]
  have HXY := hid hxy
  clear hc hc2 hbx hby hxy
  obtain ⟨i0, hi, hz0, hz1, hz2⟩ := info_parts Tryz.info_int
  go_enter Tryz.func36, Tryz.ntmps36
  go_wp2
  go_loopw [7, 8] (fun v i wr => ∃ k : Nat, k ≤ xs.length ∧ i = .int .i64 k ∧ wr.ownsRow w.heap.size 3 1 v k (((zipI (· + ·) xs ys).take k).map (Value.int .i64)) ∧ Below w.heap.size w wr) (fun _ i _ => xs.length - (intOf i).toNat)
  case atStart => exact ⟨0, Nat.zero_le _, rfl, World.ownsRow_nil _ _ _ _, Below.refl _ _⟩
  case round =>
    obtain ⟨k, hk, rfl, hown, hbr⟩ := hrel
    have HOWN := hid hown
    have HBR := hid hbr
    by_cases hk2 : k < xs.length
    · have hcell := HC.out k hk2
      have hcell2 := HC2.out k (by rw [← HXY.out]; exact hk2)
      have HZ := hid (zipI_at (· + ·) xs ys HXY.out k hk2)
      have hx := HBX.out _ (getD_mem xs k hk2)
      have hy := HBY.out _ (getD_mem ys k (by rw [← HXY.out]; exact hk2))
      generalize xs.getD k 0 = x at hcell HZ hx
      generalize ys.getD k 0 = y at hcell2 HZ hy
      rw [← hbr.cell (p := ⟨b, off + k, none⟩) hlt] at hcell
      rw [← hbr.cell (p := ⟨b2, off2 + k, none⟩) hlt2] at hcell2
      have hsz := hbr.size
      obtain ⟨hx1, hx2⟩ := hx
      obtain ⟨hy1, hy2⟩ := hy
      clear hown hbr
      go_wp2_with (at_builtin; refine wpList_append_own _ rfl _ _ 55 rfl w.heap.size 3 i0 (.int .i64 0) 1 8 Tryz.underlying55 hi hz0 hz1 hz2 rfl (by decide) _ _ _ rfl (HOWN.out.alloc _) ⟨wr.heap.size, 0, none⟩ 1 1 [.int .i64 (x + y)] rfl rfl (cell_one_new _ _ _) (one_cell1 _) (by unfold maxLen; omega) (by omega) (by simp; omega) ?_)
      intro v' w1 hown' hgrow _
      rw [← List.map_take] at hown'
      have R := put_step (zs := zipI (· + ·) xs ys) (by rw [HLZ.out]; exact hk2) (HZ.out.trans rfl) HBR.out HOWN.out hown' hgrow
      have R2 := hid R
      clear hown' hgrow R
      go_wp2
      go_roundw
      case rel => exact ⟨k + 1, by omega, by go_num, R2.out.1, R2.out.2⟩
      case measure => simp [intOf]; omega
    · go_wp2
      go_ret
      have e1 : k = (zipI (· + ·) xs ys).length := by rw [HLZ.out]; omega
      subst e1
      have h2 := HOWN.out
      rw [List.take_of_length_le (Nat.le_refl _)] at h2
      exact ⟨_, rfl, h2, HBR.out⟩


theorem putTimesO_sl (x y : Value) (xs ys : List Int) (w : World) (h0 : 0 < xs.length) (hm : xs.length ≤ 3) (hxy : xs.length = ys.length) (hbx : ∀ x ∈ xs, 0 ≤ x ∧ x ≤ 20000) (hby : ∀ x ∈ ys, 0 ≤ x ∧ x ≤ 20000) (hs : Sl w x xs) (hs2 : Sl w y ys) :
    Calls Tryz.prog 36 #[x, y, .int .i64 1] w fun e w' => ∃ u, e = .returned u ∧ w'.ownsRow w.heap.size 3 1 u (zipI (· + ·) xs ys).length ((zipI (· + ·) xs ys).map (Value.int .i64)) ∧ Below w.heap.size w w' := by
  obtain ⟨a, cap, rfl, h1⟩ := hs
  obtain ⟨a2, cap2, rfl, h2⟩ := hs2
  obtain ⟨b, off, rfl, hlt, hc⟩ := h1 h0
  obtain ⟨b2, off2, rfl, hlt2, hc2⟩ := h2 (by omega)
  exact putTimesO_any xs ys b off cap b2 off2 cap2 w hm hxy hbx hby hlt hlt2 hc hc2
def ApartO (r : Option Nat) (v : Value) : Prop := ∀ b off n c, v = .slice (some ⟨b, off, none⟩) n c → some b ≠ r
theorem grown_slO {w w' : World} {r : Option Nat} {v : Value} {xs : List Int} (h : w.grownBy w' r) (hs : Sl w v xs) (hne : ApartO r v) : Sl w' v xs := by
  obtain ⟨a, cap, rfl, h1⟩ := hs
  refine ⟨a, cap, rfl, fun hp => ?_⟩
  obtain ⟨b, off, rfl, hlt, hc⟩ := h1 hp
  exact ⟨b, off, rfl, Nat.lt_of_lt_of_le hlt h.size, fun i hi => h.cell (hc i hi) (hne b off _ _ rfl)⟩
/-- Products so far. -/
structure Prd (N : Nat) (w1 wr : World) (v : Value) (ls : List TV) : Prop where
  own : wr.ownsRow w1.heap.size 57 2 v ls.length (flat ls)
  es : Es wr ls
  ap : ∀ t ∈ ls, ApartO v.ownBlock t.2.1
  ln : ∀ t ∈ ls, t.2.2.length = N
  below : Below w1.heap.size w1 wr
theorem Prd.next {N : Nat} {w1 wr w' : World} {v : Value} {ls : List TV} (h : Prd N w1 wr v ls) (hb : Below wr.heap.size wr w') : Prd N w1 w' v ls :=
  ⟨ownBlock_lt h.own hb, h.es.below hb, h.ap, h.ln, h.below.trans (hb.mono h.below.size)⟩
theorem Prd.add {N : Nat} {w1 wr w' : World} {v v' : Value} {ls : List TV} {t : TV} (hN : 0 < N) (h : Prd N w1 wr v ls) (hs : Sl wr t.2.1 t.2.2) (hl : t.2.2.length = N) (ha : ApartO v.ownBlock t.2.1)
    (hown : w'.ownsRow w1.heap.size 57 2 v' (ls.length + 1) (flat ls ++ flat [t])) (hg : wr.grownBy w' v.ownBlock) (hloc : v'.ownBlock = v.ownBlock ∨ v'.ownBlock = some wr.heap.size) : Prd N w1 w' v' (ls ++ [t]) := by
  have hall : ∀ u ∈ ls ++ [t], Sl wr u.2.1 u.2.2 ∧ ApartO v.ownBlock u.2.1 ∧ u.2.2.length = N := by
    intro u hu
    rcases List.mem_append.1 hu with hu | hu
    · exact ⟨h.es u hu, h.ap u hu, h.ln u hu⟩
    · rw [List.mem_singleton] at hu; subst hu; exact ⟨hs, ha, hl⟩
  refine ⟨by rw [flat_append, List.length_append]; exact hown, fun u hu => grown_slO hg (hall u hu).1 (hall u hu).2.1, fun u hu => ?_, fun u hu => (hall u hu).2.2, own_grown h.own h.below hg (Nat.le_refl _)⟩
  rcases hloc with e | e
  · rw [e]; exact (hall u hu).2.1
  · rw [e]
    intro b off n c hv hb
    obtain ⟨a, cap, hv2, h1⟩ := (hall u hu).1
    obtain ⟨b2, off2, hv3, hlt, _⟩ := h1 (by rw [(hall u hu).2.2]; exact hN)
    rw [hv2, hv3] at hv
    simp only [Value.slice.injEq, Option.some.injEq, Addr.mk.injEq] at hv hb
    omega
theorem own_apartO {w : World} {B : Nat} {T : TypeId} {s : Nat} {u v : Value} {n m : Nat} {xs ys : List Value} {W : World} {B2 : Nat} {T2 : TypeId} {s2 : Nat} (h : w.ownsRow B T s u n xs) (k : W.ownsRow B2 T2 s2 v m ys) (hB : W.heap.size ≤ B) : ApartO v.ownBlock u := by
  intro b off n c e hb
  have hu : u.ownBlock = some b := by rw [e]; rfl
  have h1 := (World.ownsRow.lt h b hu).1
  have h2 := (World.ownsRow.lt k b hb.symm).2
  omega
theorem prodL_take (p : Int) (fs gs : List Tm) (i : Nat) (h : i < fs.length) : prodL p (fs.take (i + 1)) gs = prodL p (fs.take i) gs ++ prodT p (fs.getD i noT) gs := by
  rw [List.take_succ_eq_append_getElem h, prodL_append]
  congr 1
  simp [Go.Proofs.YtkmjmmnnnbjghaaGreat.prodL, List.getD_eq_getElem?_getD, h]
theorem prodT_snoc (p : Int) (t : Tm) (gs : List Tm) (k : Nat) (h : k < gs.length) : prodT p t (gs.take (k + 1)) = prodT p t (gs.take k) ++ [(t.1 * (gs.getD k noT).1 % p, zipI (· + ·) t.2 (gs.getD k noT).2)] := by
  rw [List.take_succ_eq_append_getElem h]
  unfold prodT
  rw [List.map_append]
  congr 1
  simp [List.getD_eq_getElem?_getD, h]
theorem prodL_len (p : Int) (fs gs : List Tm) : (prodL p fs gs).length = fs.length * gs.length := by
  induction fs with
  | nil => simp [Go.Proofs.YtkmjmmnnnbjghaaGreat.prodL]
  | cons t fs ih =>
    have e : prodL p (t :: fs) gs = prodT p t gs ++ prodL p fs gs := rfl
    rw [e, List.length_append, ih]
    simp [prodT, Nat.add_mul]; omega
theorem prodL_tok {p : Int} {N : Nat} (hp : 2 ≤ p) {fs gs : List Tm} (lf : Len N fs) (lg : Len N gs) (bf : Bd2 fs) (bg : Bd2 gs) : ∀ t ∈ prodL p fs gs, Tok p N t := by
  intro t ht
  simp only [Go.Proofs.YtkmjmmnnnbjghaaGreat.prodL, prodT, List.mem_flatMap, List.mem_map] at ht
  obtain ⟨a, ha, b, hb, rfl⟩ := ht
  refine ⟨by simp only; rw [zipI_len _ _ _ (by rw [lf a ha, lg b hb])]; exact lf a ha, zip_bd _ _ (bf a ha) (bg b hb), Int.emod_nonneg _ (by omega), Int.emod_lt_of_pos _ (by omega)⟩
theorem two_len_mul {i k a b : Nat} (hi : i < a) (hk : k ≤ b) (ha : a ≤ 2000) (hb : b ≤ 2000) : i * b + k ≤ 1200000000000 := by
  have h1 : (i + 1) * b ≤ 2000 * 2000 := Nat.mul_le_mul (by omega) hb
  rw [Nat.add_mul] at h1; omega

set_option maxRecDepth 100000 in
set_option maxHeartbeats 2000000 in
theorem refProduct_any (p n o v : Int) (N : Nat) (fv gv : Value) (fs gs : List Tm) (w : World) (hp : 2 ≤ p ∧ p ≤ 101) (ho : o = 1 ∨ o = 2) (hN0 : 0 < N) (hN : N ≤ 3) (lf : Len N fs) (lg : Len N gs) (cf : ∀ t ∈ fs, 0 ≤ t.1 ∧ t.1 < p) (cg : ∀ t ∈ gs, 0 ≤ t.1 ∧ t.1 < p) (bf : Bd2 fs) (bg : Bd2 gs)
    (hlf : fs.length ≤ 2000) (hlg : gs.length ≤ 2000) (pf : Pl w fv fs) (pg : Pl w gv gs) :
    Calls Tryz.prog 74 #[ringV p n o v, fv, gv] w fun e w' => ∃ u, e = .returned u ∧ Pl w' u (colL p o (prodL p fs gs)) ∧ Below w.heap.size w w' := by
  have HF := hid (And.intro lf (And.intro cf bf))
  have HG := hid (And.intro lg (And.intro cg bg))
  have HO := hid ho
  obtain ⟨hp1, hp2⟩ := hp
  obtain ⟨fa, fc, rfl, _, hfc⟩ := pf
  obtain ⟨ga, gc, rfl, _, hgc⟩ := pg
  have HFC := hid hfc
  have HGC := hid hgc
  obtain ⟨i0, hi, hz0, hz1, hz2⟩ := info_parts Tryz.infoTerm
  have HI := hid (And.intro hi (And.intro hz0 (And.intro hz1 hz2)))
  obtain ⟨w1, hw1⟩ : ∃ w1, w1 = w.alloc (.cells #[.int .i64 p, .int .i64 n, .int .i64 o, .int .i64 v] 23) := ⟨_, rfl⟩
  have hbx : BoxAt w1 w.heap.size p n o v := by rw [hw1]; exact BoxAt.new w p n o v _
  have hbw : Below w.heap.size w w1 := by rw [hw1]; exact below_oneG
  have HBX := hid hbx
  have HBW := hid hbw
  clear hfc hgc lf lg cf cg bf bg ho hi hz0 hz1 hz2 hbx hbw
  go_enter Tryz.func74, Tryz.ntmps74
  go_wp2_with fail
  rw [← hw1]
  clear hw1
  go_loopw [7, 8] (fun z i wr => ∃ (ii : Nat) (ls : List TV), ii ≤ fs.length ∧ i = .int .i64 ii ∧ ls.map tm = prodL p (fs.take ii) gs ∧ Prd N w1 wr z ls) (fun _ i _ => fs.length - (intOf i).toNat)
  case atStart => exact ⟨0, [], Nat.zero_le _, rfl, rfl, World.ownsRow_nil _ _ _ _, fun t ht => by simp at ht, fun t ht => by simp at ht, fun t ht => by simp at ht, Below.refl _ _⟩
  case round =>
    obtain ⟨wo, hwo⟩ : ∃ wo : World, wo = wr := ⟨_, rfl⟩
    subst hwo
    obtain ⟨ii, ls0, hi1, rfl, heq0, hprd0⟩ := hrel
    have HE0 := hid heq0
    have HP0 := hid hprd0
    obtain ⟨za0, zc0, hz0⟩ := own_sl' hprd0.own
    subst hz0
    clear heq0 hprd0
    by_cases hi2 : ii < fs.length
    · go_wp2
      go_loopw [7, 9] (fun z i wr => ∃ (k : Nat) (ls : List TV), k ≤ gs.length ∧ i = .int .i64 k ∧ ls.map tm = prodL p (fs.take ii) gs ++ prodT p (fs.getD ii noT) (gs.take k) ∧ Prd N w1 wr z ls) (fun _ i _ => gs.length - (intOf i).toNat)
      case atStart => exact ⟨0, ls0, Nat.zero_le _, rfl, by rw [HE0.out]; simp [prodT], HP0.out⟩
      case round =>
        obtain ⟨k, ls, hk1, rfl, heq, hprd⟩ := hrel
        have HE := hid heq
        have HPR := hid hprd
        obtain ⟨za, zc, hz⟩ := own_sl' hprd.own
        subst hz
        clear heq hprd
        by_cases hk2 : k < gs.length
        · obtain ⟨b, off, rfl, hlt, hat⟩ := HFC.out (by omega)
          obtain ⟨b2, off2, rfl, hlt2, hat2⟩ := HGC.out (by omega)
          obtain ⟨c0, ev, c1, hse⟩ := hat ii hi2
          obtain ⟨d0, ev2, d1, hse2⟩ := hat2 k hk2
          have HLL : Hid (ls.length ≤ 1200000000000) := by
            have h1 : (ls.map tm).length = _ := congrArg List.length HE.out
            rw [List.length_map, List.length_append, prodL_len] at h1
            simp only [prodT, List.length_map, List.length_take] at h1
            have h2 := two_len_mul (i := ii) (k := k) (a := fs.length) (b := gs.length) hi2 hk1 hlf hlg
            rw [Nat.min_eq_left hi1, Nat.min_eq_left hk1] at h1
            show _ ≤ _
            omega
          have HTF := hid (And.intro (HF.out.1 _ (getD_memT fs ii hi2)) (And.intro (HF.out.2.1 _ (getD_memT fs ii hi2)) (HF.out.2.2 _ (getD_memT fs ii hi2))))
          have HTG := hid (And.intro (HG.out.1 _ (getD_memT gs k hk2)) (And.intro (HG.out.2.1 _ (getD_memT gs k hk2)) (HG.out.2.2 _ (getD_memT gs k hk2))))
          have HSN := hid (prodT_snoc p (fs.getD ii noT) gs k hk2)
          generalize hft : fs.getD ii noT = t at c0 hse HTF HSN HE
          have HFT := hid hft
          generalize gs.getD k noT = u at d0 hse2 HTG HSN
          obtain ⟨tc, te⟩ := t
          obtain ⟨uc, ue⟩ := u
          have HDN := hid (HBW.out.trans (HPR.out.below.mono HBW.out.size))
          have HSE := hid (hse.below HDN.out)
          have HSE2 := hid (hse2.below HDN.out)
          obtain ⟨ea, ec, rfl, _⟩ := hse
          obtain ⟨ea2, ec2, rfl, _⟩ := hse2
          simp only at c0 c1 d0 d1
          have hte0 : 0 < te.length := by have := HTF.out.1; simp only at this; omega
          have hte3 : te.length ≤ 3 := by have := HTF.out.1; simp only at this; omega
          have HLE : Hid (te.length = ue.length) := HTF.out.1.trans HTG.out.1.symm
          have htc : 0 ≤ tc ∧ tc < p := HTF.out.2.1
          have huc : 0 ≤ uc ∧ uc < p := HTG.out.2.1
          obtain ⟨hm1, hm2⟩ := mulBd (a := tc) (b := uc) ⟨by omega, by omega, by omega, by omega⟩
          have HPT := hid (fun (W : World) (h1 : Sl W (.slice ea te.length ec) te) (h2 : Sl W (.slice ea2 ue.length ec2) ue) => putTimesO_sl _ _ te ue W hte0 hte3 HLE.out HTF.out.2.2 HTG.out.2.2 h1 h2)
          obtain ⟨_, bx0, _, _, _⟩ := HBX.out
          have KEEP : Hid (∀ W, Below w1.heap.size w1 W → (Hid (Below w1.heap.size w1 W) ∧ W.cell? ⟨w.heap.size, 0, none⟩ = some (.int .i64 p) ∧ W.cell? ⟨b, off + ii * 2, none⟩ = some (.int .i64 tc) ∧ W.cell? ⟨b, off + ii * 2 + 1, none⟩ = some (.slice ea te.length ec) ∧ W.cell? ⟨b2, off2 + k * 2, none⟩ = some (.int .i64 uc) ∧ W.cell? ⟨b2, off2 + k * 2 + 1, none⟩ = some (.slice ea2 ue.length ec2))) :=
            fun W hb => ⟨hb, cell_keep bx0 hb, cell_keep (cell_keep c0 HBW.out) hb, cell_keep (cell_keep c1 HBW.out) hb, cell_keep (cell_keep d0 HBW.out) hb, cell_keep (cell_keep d1 HBW.out) hb⟩
          clear hft hat hat2 c0 c1 d0 d1 bx0 htc huc
          go_wp2
          go_region_held_law (fun W => Hid (Below w1.heap.size w1 W) ∧ W.cell? ⟨w.heap.size, 0, none⟩ = some (.int .i64 p) ∧ W.cell? ⟨b, off + ii * 2, none⟩ = some (.int .i64 tc) ∧ W.cell? ⟨b, off + ii * 2 + 1, none⟩ = some (.slice ea te.length ec) ∧ W.cell? ⟨b2, off2 + k * 2, none⟩ = some (.int .i64 uc) ∧ W.cell? ⟨b2, off2 + k * 2 + 1, none⟩ = some (.slice ea2 ue.length ec2))
            (first | exact KEEP.out _ HPR.out.below.drew | exact KEEP.out _ PR7.out.below | exact KEEP.out _ (PR6.out.next belowNew).below | exact KEEP.out _ PR6.out.below)
            (first
              | (refine step_append_tvsA rfl (.tmp 22) (.tmp 49) 53 53 rfl w1.heap.size 57 i0 _ Tryz.underlying53 Tryz.underlying53 HI.out.1 HI.out.2.1 HI.out.2.2.1 HI.out.2.2.2 rfl (.slice za ls.length zc) ls.length (flat ls) (by simp [Act.eval, Act.put]) (PR6.out.next belowNew).own [(tc * uc % p, .slice ua6 (zipI (· + ·) te ue).length uc6, zipI (· + ·) te ue)] 1 rfl (some ⟨w6.heap.size, 0, none⟩) 1 (by simp [Act.eval, Act.put]) (fun _ => ⟨w6.heap.size, 0, rfl, two_at w6 (tc * uc % p) (.slice ua6 (zipI (· + ·) te ue).length uc6) (zipI (· + ·) te ue) 57⟩) ONE6.out (by have := HLL.out; omega) (Nat.le_trans PR6.out.below.size (by simp)) ?_; intro v7 w7 r1 r2 r3; have PR7 := hid (Prd.add hN0 (PR6.out.next belowNew) (SL6.out.below belowNew) LN6.out AP6.out r1 r2 r3); obtain ⟨va7, vc7, hv7⟩ := own_sl' r1; subst hv7; clear r1 r2 r3)
              | (go_at_call 36; refine (HPT.out _ ?_ ?_).mono ?_; exact HSE.out.below (Below.refl _ _).drew; exact HSE2.out.below (Below.refl _ _).drew; rintro e w6 ⟨u6, rfl, hu6, hb6⟩; have PR6 := hid (HPR.out.next (((Below.refl wr.heap.size wr).drew).trans hb6)); have AP6 := hid (own_apartO hu6 HPR.out.own (Nat.le_refl _)); have SL6 := hid (ownsRow_sl hu6); have LN6 : Hid ((zipI (· + ·) te ue).length = N) := ((zipI_len _ _ _ HLE.out).trans HTF.out.1); obtain ⟨ua6, uc6, hv6⟩ := own_sl' hu6; subst hv6; have ONE6 := hid (flat_one (w := w6) (ts := [(tc * uc % p, .slice ua6 (zipI (· + ·) te ue).length uc6, zipI (· + ·) te ue)]) (fun u hu => (by rw [List.mem_singleton] at hu; subst hu; exact SL6.out))); clear hu6 hb6))
          all_goals
            go_wp2
            first
              | exact ⟨⟨k + 1, ls ++ [_], by omega, by go_num, by rw [List.map_append, HE.out, HSN.out]; simp [tm], PR7.out⟩, by simp [intOf]; omega⟩
              | (go_roundw
                 case rel => exact ⟨k + 1, ls ++ [_], by omega, by go_num, by rw [List.map_append, HE.out, HSN.out]; simp [tm], PR7.out⟩
                 case measure => simp [intOf]; omega)
        · have e : k = gs.length := by omega
          subst e
          go_wp2
          go_roundw
          case rel => exact ⟨ii + 1, ls, by omega, by go_num, by rw [HE.out, prodL_take p fs gs ii hi2, List.take_of_length_le (Nat.le_refl _)], HPR.out⟩
          case measure => simp [intOf]; omega
    · have e : ii = fs.length := by omega
      subst e
      have HEF : Hid (ls0.map tm = prodL p fs gs) := by show _ = _; rw [HE0.out, List.take_of_length_le (Nat.le_refl _)]
      have HPL : Hid (Pl wo (.slice za0 ls0.length zc0) (prodL p fs gs)) := by rw [← HEF.out]; exact own_pl HP0.out.own HP0.out.es
      have HLL : Hid ((prodL p fs gs).length ≤ 1200000000000) := by
        show _ ≤ _
        rw [prodL_len]
        exact Nat.le_trans (Nat.mul_le_mul hlf hlg) (by decide)
      have HTK := hid (prodL_tok (p := p) (N := N) hp1 HF.out.1 HG.out.1 HF.out.2.2 HG.out.2.2)
      obtain ⟨_, bx0, bx1, bx2, bx3⟩ := HBX.out.below HP0.out.below
      go_wp2_with fail
      refine (collect_any p n o v N _ (prodL p fs gs) _ ⟨hp1, hp2⟩ HO.out hN0 hN HTK.out HLL.out HPL.out).mono ?_
      rintro e w9 ⟨u9, rfl, hu9, hb9⟩
      have HU9 := hid hu9
      have HB9 := hid ((HBW.out.trans (HP0.out.below.mono HBW.out.size)).trans (hb9.mono (HBW.out.trans (HP0.out.below.mono HBW.out.size)).size))
      obtain ⟨ua9, uc9, rfl, _, _⟩ := hu9
      clear hb9
      go_wp2
      go_ret
      exact ⟨_, rfl, HU9.out, HB9.out⟩

end Go.Proofs.YtkmjmmnnnbjghaaGreat

/- CheckOne, CheckPolys of the reference. -/
namespace Go.Proofs.YtkmjmmnnnbjghaaGreat
set_option linter.unusedSimpArgs false
set_option linter.unusedVariables false
open Go.RowKit

def okPrev (o : Int) (q : Option (List Int)) (e : List Int) : Bool :=
  match q with
  | some x => moreB o x e
  | none => true
/-- The first error of terms, behind a term of these exponents. -/
def errFrom (p n o : Int) : Option (List Int) → List Tm → Int
  | _, [] => 0
  | q, t :: ts => if betweenB t.1 1 (p - 1) = false then 3 else if errM n t.2 ≠ 0 then errM n t.2 else if okPrev o q t.2 = false then 4 else errFrom p n o (some t.2) ts
def prevE (ts : List Tm) : Nat → Option (List Int)
  | 0 => none
  | k + 1 => some (ts.getD k noT).2
theorem errFrom_drop (p n o : Int) (ts : List Tm) (k : Nat) (h : k < ts.length) (q : Option (List Int)) : errFrom p n o q (ts.drop k) =
    if betweenB (ts.getD k noT).1 1 (p - 1) = false then 3 else if errM n (ts.getD k noT).2 ≠ 0 then errM n (ts.getD k noT).2 else if okPrev o q (ts.getD k noT).2 = false then 4 else errFrom p n o (prevE ts (k + 1)) (ts.drop (k + 1)) := by
  rw [List.drop_eq_getElem_cons h]
  have e : ts.getD k noT = ts[k] := by simp [List.getD_eq_getElem?_getD, h]
  rw [prevE, e]
  rfl
def errOne (p n o : Int) (ts : List Tm) : Int := if 2000 < ts.length then 2 else errFrom p n o none ts
/-- What is right tells a polynomial. -/
theorem errFrom_ok {p o : Int} {N : Nat} : ∀ (ts : List Tm) (q : Option (List Int)), errFrom p N o q ts = 0 → (∀ e, q = some e → e.length = N) → (∀ t ∈ ts, (1 ≤ t.1 ∧ t.1 < p) ∧ errM N t.2 = 0) ∧ Falls o ts ∧ (∀ e t ts', q = some e → ts = t :: ts' → 0 < ordS o e t.2)
  | [], q, _, _ => ⟨fun t ht => by simp at ht, trivial, fun e t ts' _ h => by simp at h⟩
  | t :: ts, q, h, hq => by
    have hu : errFrom p N o q (t :: ts) = if betweenB t.1 1 (p - 1) = false then 3 else if errM N t.2 ≠ 0 then errM N t.2 else if okPrev o q t.2 = false then 4 else errFrom p N o (some t.2) ts := rfl
    rw [hu] at h
    clear hu
    by_cases h1 : betweenB t.1 1 (p - 1) = false
    · rw [if_pos h1] at h; omega
    rw [if_neg h1] at h
    by_cases h2 : errM N t.2 ≠ 0
    · rw [if_pos h2] at h; exact absurd h h2
    rw [if_neg h2] at h
    by_cases h3 : okPrev o q t.2 = false
    · rw [if_pos h3] at h; omega
    rw [if_neg h3] at h
    have h2' : errM N t.2 = 0 := by omega
    have hl : t.2.length = N := by have := (errM_ok h2').1; omega
    obtain ⟨i1, i2, i3⟩ := errFrom_ok ts (some t.2) h (fun e he => by simp at he; rw [← he]; exact hl)
    have hb : 1 ≤ t.1 ∧ t.1 < p := by simp [betweenB] at h1; omega
    refine ⟨fun u hu => ?_, ⟨fun u hu => ?_, i2⟩, fun e u ts' he hu => ?_⟩
    · rcases List.mem_cons.1 hu with rfl | hu
      · exact ⟨hb, h2'⟩
      · exact i1 u hu
    · cases ts with
      | nil => simp at hu
      | cons x xs =>
        have hx := i3 t.2 x xs rfl rfl
        rcases List.mem_cons.1 hu with rfl | hu
        · exact hx
        · have l1 : x.2.length = N := by have := (errM_ok (i1 x (by simp)).2).1; omega
          have l2 : u.2.length = N := by have := (errM_ok (i1 u (by simp [hu])).2).1; omega
          exact ordS_trans o t.2 x.2 u.2 (by omega) (by omega) hx (i2.1 u hu)
    · rw [he] at h3
      simp only [List.cons.injEq] at hu
      obtain ⟨rfl, _⟩ := hu
      simpa [okPrev, moreB] using h3
/-- A polynomial that is right. -/
structure Right (p o : Int) (N : Nat) (ts : List Tm) : Prop where
  canon : Canon p o N ts
  bd : Bd2 ts
  len : ts.length ≤ 2000
  deg : ∀ t ∈ ts, sumI t.2 ≤ 200
theorem errOne_ok {p o : Int} {N : Nat} {ts : List Tm} (h : errOne p N o ts = 0) : Right p o N ts := by
  unfold errOne at h
  split at h
  · omega
  rename_i hl
  obtain ⟨h1, h2, _⟩ := errFrom_ok ts none h (fun e he => by simp at he)
  refine ⟨⟨fun t ht => ?_, h2, fun t ht => (h1 t ht).1⟩, fun t ht x hx => by have h9 := (errM_ok (h1 t ht).2).2.1 x hx; omega, by omega, fun t ht => (errM_ok (h1 t ht).2).2.2⟩
  have := (errM_ok (h1 t ht).2).1
  omega
theorem getD_memTk (ts : List Tm) (k : Nat) (h : k < ts.length) : ts.getD k noT ∈ ts.take (k + 1) := by
  rw [List.take_succ_eq_append_getElem h, List.getD_eq_getElem?_getD, List.getElem?_eq_getElem h, List.mem_append]; right; simp
theorem wrapPred {k : Nat} (h : 0 < k) (h2 : k ≤ 2000) : IntKind.i64.wrap ((k : Int) - 1) = (k : Int) - 1 := by
  rw [IntKind.wrap_i64]; omega
theorem predFacts {k n : Nat} (h : 0 < k) (h2 : k < n) : (0 : Int) ≤ (k : Int) - 1 ∧ (k : Int) - 1 < (n : Int) ∧ ((k : Int) - 1).toNat = k - 1 ∧ (1 : Int) ≤ (k : Int) ∧ (k : Int) ≤ (n : Int) ∧ ¬ (k : Int) < 1 ∧ ¬ (n : Int) ≤ (k : Int) - 1 := ⟨by omega, by omega, by omega, by omega, by omega, by omega, by omega⟩
theorem emptyRight (p o : Int) (N : Nat) : Right p o N [] := ⟨⟨fun t ht => by simp at ht, trivial, fun t ht => by simp at ht⟩, fun t ht => by simp at ht, by simp, fun t ht => by simp at ht⟩

set_option maxRecDepth 100000 in
set_option maxHeartbeats 2000000 in
theorem checkOne_any (p n o v : Int) (fv : Value) (ts : List Tm) (w : World) (hp : 2 ≤ p ∧ p ≤ 101) (hn : 1 ≤ n ∧ n ≤ 3) (ho : o = 1 ∨ o = 2) (pf : Pl w fv ts) :
    Calls Tryz.prog 70 #[ringV p n o v, fv] w fun e w' => e = .returned (.int .i64 (errOne p n o ts)) ∧ Below w.heap.size w w' := by
  obtain ⟨fa, fc, rfl, _, hfc⟩ := pf
  have HFC := hid hfc
  have HN := hid hn
  have HO := hid ho
  obtain ⟨hp1, hp2⟩ := hp
  clear hfc hn ho
  obtain ⟨w1, hw1⟩ : ∃ w1, w1 = w.alloc (.cells #[.int .i64 p, .int .i64 n, .int .i64 o, .int .i64 v] 23) := ⟨_, rfl⟩
  have hbx : BoxAt w1 w.heap.size p n o v := by rw [hw1]; exact BoxAt.new w p n o v _
  have hbw : Below w.heap.size w w1 := by rw [hw1]; exact below_oneG
  have HBX := hid hbx
  have HBW := hid hbw
  clear hbx hbw
  by_cases hlen : 2000 < ts.length
  · have he : errOne p n o ts = 2 := by unfold errOne; rw [if_pos hlen]
    rw [he]; clear he
    go_enter Tryz.func70, Tryz.ntmps70
    go_wp2
    go_ret
    rw [← hw1]
    exact ⟨rfl, HBW.out⟩
  · have he : errOne p n o ts = errFrom p n o none ts := by unfold errOne; rw [if_neg hlen]
    rw [he]; clear he
    go_enter Tryz.func70, Tryz.ntmps70
    go_wp2_with fail
    rw [← hw1]
    clear hw1
    go_loopw [5] (fun i wr => ∃ k : Nat, k ≤ ts.length ∧ i = .int .i64 k ∧ errFrom p n o none ts = errFrom p n o (prevE ts k) (ts.drop k) ∧ (∀ t ∈ ts.take k, errM n t.2 = 0) ∧ Below w1.heap.size w1 wr) (fun i _ => ts.length - (intOf i).toNat)
    case atStart => exact ⟨0, Nat.zero_le _, rfl, rfl, by simp, Below.refl _ _⟩
    case round =>
      obtain ⟨k, hk, rfl, herr, hall, hbr⟩ := hrel
      have HBR := hid hbr
      have HALL := hid hall
      clear hall hbr
      by_cases hk2 : k < ts.length
      · obtain ⟨b, off, rfl, hlt, hat⟩ := HFC.out (by omega)
        obtain ⟨c0, ev, c1, hse⟩ := hat k hk2
        have HER := hid (herr.trans (errFrom_drop p n o ts k hk2 (prevE ts k)))
        have HTK : Hid (∀ t ∈ ts.take (k + 1), t ∈ ts.take k ∨ t = ts.getD k noT) := by
          intro u hu
          rw [List.take_succ_eq_append_getElem hk2, List.mem_append, List.mem_singleton] at hu
          rcases hu with hu | hu
          · exact Or.inl hu
          · right; rw [hu]; simp [List.getD_eq_getElem?_getD, hk2]
        have HDN := hid (HBW.out.trans (HBR.out.mono HBW.out.size))
        have HAT := hid hat
        clear herr hat
        generalize ts.getD k noT = t at c0 hse HER HTK
        obtain ⟨tc, te⟩ := t
        have HSE0 := hid hse
        have HSE := hid (hse.below HDN.out)
        obtain ⟨ea, ec, rfl, _⟩ := hse
        simp only at c0 c1
        have bx := HBX.out
        obtain ⟨_, bx0, bx1, bx2, bx3⟩ := bx
        have KEEP : Hid (∀ W, Below w1.heap.size w1 W → (Hid (Below w1.heap.size w1 W) ∧ W.cell? ⟨w.heap.size, 0, none⟩ = some (.int .i64 p) ∧ W.cell? ⟨w.heap.size, 1, none⟩ = some (.int .i64 n) ∧ W.cell? ⟨w.heap.size, 2, none⟩ = some (.int .i64 o) ∧ W.cell? ⟨w.heap.size, 3, none⟩ = some (.int .i64 v) ∧ W.cell? ⟨b, off + k * 2, none⟩ = some (.int .i64 tc) ∧ W.cell? ⟨b, off + k * 2 + 1, none⟩ = some (.slice ea te.length ec))) :=
          fun W hb => ⟨hb, cell_keep bx0 hb, cell_keep bx1 hb, cell_keep bx2 hb, cell_keep bx3 hb, cell_keep (cell_keep c0 HBW.out) hb, cell_keep (cell_keep c1 HBW.out) hb⟩
        have K0 := KEEP.out wr HBR.out
        obtain ⟨_, kp, _, _, _, kc0, kc1⟩ := K0
        clear bx0 bx1 bx2 bx3
        cases hb1 : betweenB tc 1 (p - 1)
        · go_wp2_with fail
          go_quiet ((go_at_call 69; exact Calls.quiet_of_same (between_any _ _ _ _)))
          have HQ1 := hid (below_drewN HBR.out nq)
          go_wp2
          go_ret
          exact ⟨ret_int (by rw [HER.out, if_pos hb1]), HBW.out.trans (HQ1.out.mono HBW.out.size)⟩
        · cases hb2 : (errM n te != 0)
          · have hb20 : errM n te = 0 := by simpa using hb2
            have HB20 := hid hb20
            rcases Nat.eq_zero_or_pos k with rfl | hpos
            · simp only [Nat.zero_mul, Nat.add_zero] at c0 c1 kc0 kc1 KEEP
              go_wp2_with fail
              go_quiet ((go_at_call 69; exact Calls.quiet_of_same (between_any _ _ _ _)))
              have HQ1 := hid (below_drewN HBR.out nq)
              go_wp2_with fail
              go_region_held (fun W => Hid (Below w1.heap.size w1 W) ∧ W.cell? ⟨w.heap.size, 0, none⟩ = some (.int .i64 p) ∧ W.cell? ⟨w.heap.size, 1, none⟩ = some (.int .i64 n) ∧ W.cell? ⟨w.heap.size, 2, none⟩ = some (.int .i64 o) ∧ W.cell? ⟨w.heap.size, 3, none⟩ = some (.int .i64 v) ∧ W.cell? ⟨b, off, none⟩ = some (.int .i64 tc) ∧ W.cell? ⟨b, off + 1, none⟩ = some (.slice ea te.length ec))
                (first | exact KEEP.out _ HQ1.out.drew | exact KEEP.out _ (HQ1.out.drew.trans (hb9.mono HQ1.out.drew.size)))
                (first | (go_at_call 106; refine (checkMono_any p n o v _ te _ HN.out ?_).mono ?_; exact HSE.out.below (below_drewN (Below.refl _ _) _).drew; rintro e w9 ⟨rfl, hb9⟩))
              have HB9 := hid (show Below w1.heap.size w1 w9 from HQ1.out.drew.trans (hb9.mono HQ1.out.drew.size))
              clear hb9
              try rw [HB20.out]
              go_wp2_with fail
              go_quiet (fail)
              go_wp2
              go_roundw
              case rel => exact ⟨1, by omega, by go_num, by rw [HER.out, if_neg (by rw [hb1]; simp), if_neg (by simpa using HB20.out)]; simp [prevE, okPrev], fun t ht => by
                rcases HTK.out t ht with h | h
                · simp at h
                · rw [h]; exact HB20.out, below_drewN HB9.out _⟩
              case measure => simp [intOf]; omega
            · have hk3 : k - 1 < ts.length := by omega
              obtain ⟨_, ev2, d1, hse2⟩ := HAT.out (k - 1) hk3
              have hse2' := hse2
              have HPE : Hid (prevE ts k = some (ts.getD (k - 1) noT).2) := by
                obtain ⟨m, rfl⟩ : ∃ m, k = m + 1 := ⟨k - 1, by omega⟩
                rfl
              have HQE := hid (HALL.out _ (by have h := getD_memTk ts (k - 1) hk3; rwa [show k - 1 + 1 = k from Nat.sub_add_cancel hpos] at h))
              generalize ts.getD (k - 1) noT = q at hse2 hse2' HPE HQE
              obtain ⟨qc, qe⟩ := q
              have HSE2 := hid (hse2.below HDN.out)
              obtain ⟨ea2, ec2, rfl, _⟩ := hse2
              simp only at d1 HPE HQE
              have hq := errM_ok HQE.out
              have ht := errM_ok hb20
              have HLL : Hid (qe.length = te.length) := by have h1 := hq.1; have h2 := ht.1; show _ = _; omega
              have hq0 : 0 < qe.length := by have h1 := hq.1; have h2 := HN.out; omega
              have hq3 : qe.length ≤ 3 := by have h1 := hq.1; have h2 := HN.out; omega
              have HQB := hid (And.intro (show ∀ x ∈ qe, 0 ≤ x ∧ x ≤ 40000 from fun x hx => by have := hq.2.1 x hx; omega) (show ∀ x ∈ te, 0 ≤ x ∧ x ≤ 40000 from fun x hx => by have := ht.2.1 x hx; omega))
              have HSQ := hid (And.intro (hse2'.below HBW.out) (HSE0.out.below HBW.out))
              have KEEP2 : Hid (∀ W, Below w1.heap.size w1 W → (Hid (Below w1.heap.size w1 W) ∧ W.cell? ⟨w.heap.size, 0, none⟩ = some (.int .i64 p) ∧ W.cell? ⟨w.heap.size, 1, none⟩ = some (.int .i64 n) ∧ W.cell? ⟨w.heap.size, 2, none⟩ = some (.int .i64 o) ∧ W.cell? ⟨w.heap.size, 3, none⟩ = some (.int .i64 v) ∧ W.cell? ⟨b, off + k * 2, none⟩ = some (.int .i64 tc) ∧ W.cell? ⟨b, off + k * 2 + 1, none⟩ = some (.slice ea te.length ec) ∧ W.cell? ⟨b, off + (k - 1) * 2 + 1, none⟩ = some (.slice ea2 qe.length ec2))) := fun W hb => by
                have h := KEEP.out W hb
                exact ⟨h.1, h.2.1, h.2.2.1, h.2.2.2.1, h.2.2.2.2.1, h.2.2.2.2.2.1, h.2.2.2.2.2.2, cell_keep (cell_keep d1 HBW.out) hb⟩
              obtain ⟨hq1, hq2, hq4, hq5, hq6, hq7, hq8⟩ := predFacts hpos hk2
              have hwr := wrapPred hpos (Nat.le_trans hk (Nat.not_lt.1 hlen))
              clear hq ht hb20
              cases hb3 : moreB o qe te
              · go_wp2_with fail
                go_quiet ((go_at_call 69; exact Calls.quiet_of_same (between_any _ _ _ _)))
                have HQ1 := hid (below_drewN HBR.out nq)
                go_wp2_with fail
                go_region_held (fun W => Hid (Below w1.heap.size w1 W) ∧ W.cell? ⟨w.heap.size, 0, none⟩ = some (.int .i64 p) ∧ W.cell? ⟨w.heap.size, 1, none⟩ = some (.int .i64 n) ∧ W.cell? ⟨w.heap.size, 2, none⟩ = some (.int .i64 o) ∧ W.cell? ⟨w.heap.size, 3, none⟩ = some (.int .i64 v) ∧ W.cell? ⟨b, off + k * 2, none⟩ = some (.int .i64 tc) ∧ W.cell? ⟨b, off + k * 2 + 1, none⟩ = some (.slice ea te.length ec))
                  (first | exact KEEP.out _ HQ1.out.drew | exact KEEP.out _ (HQ1.out.drew.trans (hb9.mono HQ1.out.drew.size)))
                  (first | (go_at_call 106; refine (checkMono_any p n o v _ te _ HN.out ?_).mono ?_; exact HSE.out.below (below_drewN (Below.refl _ _) _).drew; rintro e w9 ⟨rfl, hb9⟩))
                have HB9 := hid (show Below w1.heap.size w1 w9 from HQ1.out.drew.trans (hb9.mono HQ1.out.drew.size))
                clear hb9
                rw [HB20.out]
                go_wp2_with fail
                go_region_held (fun W => Hid (Below w1.heap.size w1 W) ∧ W.cell? ⟨w.heap.size, 0, none⟩ = some (.int .i64 p) ∧ W.cell? ⟨w.heap.size, 1, none⟩ = some (.int .i64 n) ∧ W.cell? ⟨w.heap.size, 2, none⟩ = some (.int .i64 o) ∧ W.cell? ⟨w.heap.size, 3, none⟩ = some (.int .i64 v) ∧ W.cell? ⟨b, off + k * 2, none⟩ = some (.int .i64 tc) ∧ W.cell? ⟨b, off + k * 2 + 1, none⟩ = some (.slice ea te.length ec) ∧ W.cell? ⟨b, off + (k - 1) * 2 + 1, none⟩ = some (.slice ea2 qe.length ec2))
                  (first | exact KEEP2.out _ HB9.out.drew | exact KEEP2.out _ (HB9.out.drew.trans (hb8.mono HB9.out.drew.size)))
                  (first | (go_at_call 107; refine (more_any p n o v _ _ qe te _ HO.out hq0 hq3 HLL.out HQB.out.1 HQB.out.2 ?_ ?_).mono ?_; exact HSQ.out.1.below HB9.out.drew; exact HSQ.out.2.below HB9.out.drew; rintro e w8 ⟨rfl, hb8⟩))
                have HB8 := hid (show Below w1.heap.size w1 w8 from HB9.out.drew.trans (hb8.mono HB9.out.drew.size))
                clear hb8
                try rw [hb3]
                go_wp2_with fail
                go_ret
                exact ⟨ret_int (by rw [HER.out, if_neg (by rw [hb1]; simp), if_neg (by simpa using HB20.out), if_pos (by rw [HPE.out]; exact hb3)]), HBW.out.trans (HB8.out.mono HBW.out.size)⟩
              · go_wp2_with fail
                go_quiet ((go_at_call 69; exact Calls.quiet_of_same (between_any _ _ _ _)))
                have HQ1 := hid (below_drewN HBR.out nq)
                go_wp2_with fail
                go_region_held (fun W => Hid (Below w1.heap.size w1 W) ∧ W.cell? ⟨w.heap.size, 0, none⟩ = some (.int .i64 p) ∧ W.cell? ⟨w.heap.size, 1, none⟩ = some (.int .i64 n) ∧ W.cell? ⟨w.heap.size, 2, none⟩ = some (.int .i64 o) ∧ W.cell? ⟨w.heap.size, 3, none⟩ = some (.int .i64 v) ∧ W.cell? ⟨b, off + k * 2, none⟩ = some (.int .i64 tc) ∧ W.cell? ⟨b, off + k * 2 + 1, none⟩ = some (.slice ea te.length ec))
                  (first | exact KEEP.out _ HQ1.out.drew | exact KEEP.out _ (HQ1.out.drew.trans (hb9.mono HQ1.out.drew.size)))
                  (first | (go_at_call 106; refine (checkMono_any p n o v _ te _ HN.out ?_).mono ?_; exact HSE.out.below (below_drewN (Below.refl _ _) _).drew; rintro e w9 ⟨rfl, hb9⟩))
                have HB9 := hid (show Below w1.heap.size w1 w9 from HQ1.out.drew.trans (hb9.mono HQ1.out.drew.size))
                clear hb9
                rw [HB20.out]
                go_wp2_with fail
                go_region_held (fun W => Hid (Below w1.heap.size w1 W) ∧ W.cell? ⟨w.heap.size, 0, none⟩ = some (.int .i64 p) ∧ W.cell? ⟨w.heap.size, 1, none⟩ = some (.int .i64 n) ∧ W.cell? ⟨w.heap.size, 2, none⟩ = some (.int .i64 o) ∧ W.cell? ⟨w.heap.size, 3, none⟩ = some (.int .i64 v) ∧ W.cell? ⟨b, off + k * 2, none⟩ = some (.int .i64 tc) ∧ W.cell? ⟨b, off + k * 2 + 1, none⟩ = some (.slice ea te.length ec) ∧ W.cell? ⟨b, off + (k - 1) * 2 + 1, none⟩ = some (.slice ea2 qe.length ec2))
                  (first | exact KEEP2.out _ HB9.out.drew | exact KEEP2.out _ (HB9.out.drew.trans (hb8.mono HB9.out.drew.size)))
                  (first | (go_at_call 107; refine (more_any p n o v _ _ qe te _ HO.out hq0 hq3 HLL.out HQB.out.1 HQB.out.2 ?_ ?_).mono ?_; exact HSQ.out.1.below HB9.out.drew; exact HSQ.out.2.below HB9.out.drew; rintro e w8 ⟨rfl, hb8⟩))
                have HB8 := hid (show Below w1.heap.size w1 w8 from HB9.out.drew.trans (hb8.mono HB9.out.drew.size))
                clear hb8
                try rw [hb3]
                go_wp2_with fail
                go_roundw
                case rel => exact ⟨k + 1, by omega, by go_num, by rw [HER.out, if_neg (by rw [hb1]; simp), if_neg (by simpa using HB20.out), if_neg (by rw [HPE.out]; simp [okPrev, hb3])], fun t ht => by
                  rcases HTK.out t ht with h | h
                  · exact HALL.out t h
                  · rw [h]; exact HB20.out, HB8.out⟩
                case measure => simp [intOf]; omega
          · go_wp2_with fail
            go_quiet ((go_at_call 69; exact Calls.quiet_of_same (between_any _ _ _ _)))
            have HQ1 := hid (below_drewN HBR.out nq)
            go_wp2_with fail
            go_region_held (fun W => Hid (Below w1.heap.size w1 W) ∧ W.cell? ⟨w.heap.size, 0, none⟩ = some (.int .i64 p) ∧ W.cell? ⟨w.heap.size, 1, none⟩ = some (.int .i64 n) ∧ W.cell? ⟨w.heap.size, 2, none⟩ = some (.int .i64 o) ∧ W.cell? ⟨w.heap.size, 3, none⟩ = some (.int .i64 v) ∧ W.cell? ⟨b, off + k * 2, none⟩ = some (.int .i64 tc) ∧ W.cell? ⟨b, off + k * 2 + 1, none⟩ = some (.slice ea te.length ec))
              (first | exact KEEP.out _ HQ1.out.drew | exact KEEP.out _ (HQ1.out.drew.trans (hb9.mono HQ1.out.drew.size)))
              (first | (go_at_call 106; refine (checkMono_any p n o v _ te _ HN.out ?_).mono ?_; exact HSE.out.below (below_drewN (Below.refl _ _) _).drew; rintro e w9 ⟨rfl, hb9⟩))
            have HB9 := hid (show Below w1.heap.size w1 w9 from HQ1.out.drew.trans (hb9.mono HQ1.out.drew.size))
            clear hb9
            go_wp2
            go_ret
            exact ⟨ret_int (by rw [HER.out, if_neg (by rw [hb1]; simp), if_pos (by simpa using hb2)]), HBW.out.trans (HB9.out.mono HBW.out.size)⟩
      · go_wp2
        go_ret
        exact ⟨ret_int (by rw [herr, List.drop_eq_nil_of_le (by omega)]; cases k <;> rfl), HBW.out.trans (HBR.out.mono HBW.out.size)⟩

end Go.Proofs.YtkmjmmnnnbjghaaGreat

/- CheckPolys, SamePoly, TopOf, Great of the reference. -/
namespace Go.Proofs.YtkmjmmnnnbjghaaGreat
set_option linter.unusedSimpArgs false
set_option linter.unusedVariables false
open Go.RowKit

def firstOne (p n o : Int) : List (List Tm) → Int
  | [] => 0
  | f :: r => if errOne p n o f = 0 then firstOne p n o r else errOne p n o f
theorem firstOne_drop (p n o : Int) (fss : List (List Tm)) (k : Nat) (h : k < fss.length) :
    firstOne p n o (fss.drop k) = if errOne p n o (fss.getD k []) = 0 then firstOne p n o (fss.drop (k + 1)) else errOne p n o (fss.getD k []) := by
  rw [List.drop_eq_getElem_cons h]
  simp [firstOne, List.getD_eq_getElem?_getD, h]
def errPolys (p n o v : Int) (fss : List (List Tm)) : Int := if errR p n o v = 0 then firstOne p n o fss else errR p n o v
theorem firstOne_ok {p n o : Int} : ∀ {fss : List (List Tm)}, firstOne p n o fss = 0 → ∀ f ∈ fss, errOne p n o f = 0
  | [], _, f, hf => by simp at hf
  | g :: r, h, f, hf => by
    unfold firstOne at h
    by_cases hg : errOne p n o g = 0
    · rw [if_pos hg] at h
      rcases List.mem_cons.1 hf with rfl | hf
      · exact hg
      · exact firstOne_ok h f hf
    · rw [if_neg hg] at h; exact absurd h hg
theorem errPolys_ok {p n o v : Int} {fss : List (List Tm)} (h : errPolys p n o v fss = 0) : errR p n o v = 0 ∧ ∀ f ∈ fss, errOne p n o f = 0 := by
  unfold errPolys at h
  by_cases hr : errR p n o v = 0
  · rw [if_pos hr] at h; exact ⟨hr, firstOne_ok h⟩
  · rw [if_neg hr] at h; exact absurd h hr

end Go.Proofs.YtkmjmmnnnbjghaaGreat

/- SamePoly, TopOf, Great of the reference. -/
namespace Go.Proofs.YtkmjmmnnnbjghaaGreat
set_option linter.unusedSimpArgs false
set_option linter.unusedVariables false
open Go.RowKit

theorem take_sameT {fs gs : List Tm} {k : Nat} (h : k < fs.length) (h2 : k < gs.length) (ht : fs.take k = gs.take k) (he : fs.getD k noT = gs.getD k noT) : fs.take (k + 1) = gs.take (k + 1) := by
  rw [List.take_succ_eq_append_getElem h, List.take_succ_eq_append_getElem h2, ht]
  simp [List.getD_eq_getElem?_getD, h, h2] at he
  rw [he]

set_option maxRecDepth 100000 in
set_option maxHeartbeats 1000000 in
theorem samePoly_any (x y : Value) (fs gs : List Tm) (w : World) (hm : fs.length ≤ 2400000000000) (hl : ∀ t ∈ fs, t.2.length ≤ 3) (pf : Pl w x fs) (pg : Pl w y gs) :
    Calls Tryz.prog 44 #[x, y] w fun e w' => e = .returned (.bool (decide (fs = gs))) ∧ Below w.heap.size w w' := by
  obtain ⟨fa, fc, rfl, _, hfc⟩ := pf
  obtain ⟨ga, gc, rfl, _, hgc⟩ := pg
  have HFC := hid hfc
  have HGC := hid hgc
  have HL := hid hl
  clear hfc hgc hl
  by_cases hne : fs.length = gs.length
  · have HNE := hid hne
    rw [← hne]
    clear hne
    go_enter Tryz.func44, Tryz.ntmps44
    go_wp2
    go_loopw [5] (fun i wr => ∃ k : Nat, k ≤ fs.length ∧ i = .int .i64 k ∧ fs.take k = gs.take k ∧ Below w.heap.size w wr) (fun i _ => fs.length - (intOf i).toNat)
    case atStart => exact ⟨0, Nat.zero_le _, rfl, rfl, Below.refl _ _⟩
    case round =>
      obtain ⟨k, hk, rfl, htk, hbr⟩ := hrel
      have HTK := hid htk
      have HBR := hid hbr
      clear htk hbr
      by_cases hk2 : k < fs.length
      · have hk3 : k < gs.length := by rw [← HNE.out]; exact hk2
        obtain ⟨b, off, rfl, hlt, hat⟩ := HFC.out (by omega)
        obtain ⟨b2, off2, rfl, hlt2, hat2⟩ := HGC.out (by omega)
        obtain ⟨c0, ev, c1, hse⟩ := hat k hk2
        obtain ⟨d0, ev2, d1, hse2⟩ := hat2 k hk3
        have HTS := hid (fun h => take_sameT hk2 hk3 HTK.out h)
        have HNS : Hid (fs.getD k noT ≠ gs.getD k noT → fs ≠ gs) := fun h e => h (by rw [e])
        have HL3 := hid (HL.out _ (getD_memT fs k hk2))
        generalize fs.getD k noT = t at c0 hse HTS HNS HL3
        generalize gs.getD k noT = u at d0 hse2 HTS HNS
        obtain ⟨tc, te⟩ := t
        obtain ⟨uc, ue⟩ := u
        have HSE := hid (hse.below HBR.out)
        have HSE2 := hid (hse2.below HBR.out)
        obtain ⟨ea, ec, rfl, _⟩ := hse
        obtain ⟨ea2, ec2, rfl, _⟩ := hse2
        simp only at c0 c1 d0 d1
        have k0 := cell_keep c0 HBR.out
        have k1 := cell_keep c1 HBR.out
        have m0 := cell_keep d0 HBR.out
        have m1 := cell_keep d1 HBR.out
        have hkI : (k : Int) < (gs.length : Int) := by omega
        clear hat hat2 c0 c1 d0 d1
        cases hc : (tc != uc)
        · have KEEP : Hid (∀ W, Below wr.heap.size wr W → (Hid (Below wr.heap.size wr W) ∧ W.cell? ⟨b, off + k * 2, none⟩ = some (.int .i64 tc) ∧ W.cell? ⟨b, off + k * 2 + 1, none⟩ = some (.slice ea te.length ec) ∧ W.cell? ⟨b2, off2 + k * 2, none⟩ = some (.int .i64 uc) ∧ W.cell? ⟨b2, off2 + k * 2 + 1, none⟩ = some (.slice ea2 ue.length ec2))) :=
            fun W hb => ⟨hb, cell_keep k0 hb, cell_keep k1 hb, cell_keep m0 hb, cell_keep m1 hb⟩
          have HE1 : Hid (tc = uc) := hid (by simpa using hc)
          go_wp2_with fail
          go_region_held (fun W => Hid (Below wr.heap.size wr W) ∧ W.cell? ⟨b, off + k * 2, none⟩ = some (.int .i64 tc) ∧ W.cell? ⟨b, off + k * 2 + 1, none⟩ = some (.slice ea te.length ec) ∧ W.cell? ⟨b2, off2 + k * 2, none⟩ = some (.int .i64 uc) ∧ W.cell? ⟨b2, off2 + k * 2 + 1, none⟩ = some (.slice ea2 ue.length ec2))
            (first | exact KEEP.out _ (Below.refl _ _).drew | exact KEEP.out _ (below_step (by assumption) hb9 (Nat.le_refl _)))
            (first | (go_at_call 76; refine (sameInts_any _ _ te ue _ HL3.out ?_ ?_).mono ?_; exact HSE.out.below (Below.refl _ _).drew; exact HSE2.out.below (Below.refl _ _).drew; rintro e w9 ⟨rfl, hd9⟩; have hb9 := below_ndraws (Below.refl wr.drew.heap.size wr.drew) hd9))
          have hb19 : Below wr.heap.size wr w9 := Hid.out (And.left (by assumption))
          have HB9 := hid (HBR.out.trans (hb19.mono HBR.out.size))
          clear hb9 hd9 hb19 KEEP
          cases hsm : sameB te ue
          · go_wp2_with fail
            go_ret
            refine ⟨ret_bool ?_, HB9.out⟩
            have h1 : te ≠ ue := by simpa [sameB] using hsm
            exact (decide_eq_false (HNS.out (fun e => h1 (by injection e)))).symm
          · have HEQ : Hid ((tc, te) = (uc, ue)) := by
              have h1 : te = ue := by simpa [sameB] using hsm
              show _ = _
              rw [HE1.out, h1]
            go_wp2_with fail
            go_roundw
            case rel => exact ⟨k + 1, by omega, by go_num, HTS.out HEQ.out, HB9.out⟩
            case measure => simp [intOf]; omega
        · have e1 : tc ≠ uc := by simpa using hc
          go_wp2_with fail
          go_quiet (fail)
          go_wp2_with fail
          go_ret
          exact ⟨ret_bool (decide_eq_false (HNS.out (fun e => e1 (by injection e)))).symm, below_drewN HBR.out _⟩
      · go_wp2
        go_ret
        refine ⟨ret_bool (decide_eq_true ?_).symm, HBR.out⟩
        have h := HTK.out
        rw [List.take_of_length_le (by omega), List.take_of_length_le (by rw [← HNE.out]; omega)] at h
        exact h
  · have hne2 : ((fs.length : Int) != (gs.length : Int)) = true := by simpa using (fun e : (fs.length : Int) = gs.length => hne (by omega))
    have HD : Hid (decide (fs = gs) = false) := decide_eq_false (fun e => hne (by rw [e]))
    rw [HD.out]
    clear hne
    go_enter Tryz.func44, Tryz.ntmps44
    go_wp2
    go_ret
    exact ⟨rfl, Below.refl _ _⟩

theorem degreeOf_slO (x : Value) (xs : List Int) (w : World) (h0 : 0 < xs.length) (hm : xs.length ≤ 3) (hb : ∀ x ∈ xs, 0 ≤ x ∧ x ≤ 40000) (hs : Sl w x xs) :
    Calls Tryz.prog 108 #[x] w fun e w' => e = .returned (.int .i64 (sumI xs)) ∧ w' = w := by
  obtain ⟨a, cap, rfl, h1⟩ := hs
  obtain ⟨b, off, rfl, hlt, hc⟩ := h1 h0
  exact degreeOf_any xs b off cap w hb hm hc
/-- The degree of terms; -1: of none. -/
def topF (m : Int) : List Tm → Int
  | [] => m
  | t :: ts => topF (if m < sumI t.2 then sumI t.2 else m) ts
theorem topF_take (ts : List Tm) : ∀ (m : Int) (k : Nat), k < ts.length → topF m (ts.take (k + 1)) = if topF m (ts.take k) < sumI (ts.getD k noT).2 then sumI (ts.getD k noT).2 else topF m (ts.take k) := by
  induction ts with
  | nil => intro m k h; simp at h
  | cons t ts ih =>
    intro m k h
    cases k with
    | zero => simp [topF]
    | succ k =>
      simp only [List.take_succ_cons, topF]
      rw [ih _ k (by simpa using h)]
      simp
theorem topF_bd : ∀ (ts : List Tm) (m : Int), (∀ t ∈ ts, sumI t.2 ≤ 120000) → m ≤ 120000 → m ≤ topF m ts ∧ topF m ts ≤ 120000
  | [], m, _, hm => ⟨Int.le_refl _, hm⟩
  | t :: ts, m, h, hm => by
    simp only [topF]
    have h1 := h t (by simp)
    have h2 := topF_bd ts (if m < sumI t.2 then sumI t.2 else m) (fun u hu => h u (by simp [hu])) (by split <;> omega)
    refine ⟨Int.le_trans ?_ h2.1, h2.2⟩
    split <;> omega

set_option maxRecDepth 100000 in
set_option maxHeartbeats 1000000 in
theorem topOf_any (x : Value) (fs : List Tm) (w : World) (hm : fs.length ≤ 2400000000000) (hl : ∀ t ∈ fs, 0 < t.2.length ∧ t.2.length ≤ 3 ∧ ∀ x ∈ t.2, 0 ≤ x ∧ x ≤ 40000) (pf : Pl w x fs) :
    Calls Tryz.prog 75 #[x] w fun e w' => e = .returned (.int .i64 (topF (-1) fs)) ∧ w' = w := by
  obtain ⟨fa, fc, rfl, _, hfc⟩ := pf
  have HFC := hid hfc
  have HL := hid hl
  have HS : Hid (∀ t ∈ fs, 0 ≤ sumI t.2 ∧ sumI t.2 ≤ 120000) := fun t ht => by
    have h1 := hl t ht
    have h2 := sumI_bd t.2 h1.2.2
    omega
  clear hfc hl
  go_enter Tryz.func75, Tryz.ntmps75
  go_wp2
  go_loop [3, 4] (fun m i => ∃ k : Nat, k ≤ fs.length ∧ i = .int .i64 k ∧ m = .int .i64 (topF (-1) (fs.take k))) (fun _ i => fs.length - (intOf i).toNat)
  case atStart => exact ⟨0, Nat.zero_le _, rfl, rfl⟩
  case round =>
    obtain ⟨k, hk, rfl, rfl⟩ := hrel
    by_cases hk2 : k < fs.length
    · obtain ⟨b, off, rfl, hlt, hat⟩ := HFC.out (by omega)
      obtain ⟨c0, ev, c1, hse⟩ := hat k hk2
      have HT := hid (topF_take fs (-1) k hk2)
      have HLK := hid (HL.out _ (getD_memT fs k hk2))
      have htop := topF_bd (fs.take k) (-1) (fun t ht => (HS.out t (List.mem_of_mem_take ht)).2) (by omega)
      generalize topF (-1) (fs.take k) = m at HT htop
      generalize fs.getD k noT = t at c0 hse HT HLK
      obtain ⟨tc, te⟩ := t
      have HSE := hid hse
      obtain ⟨ea, ec, rfl, _⟩ := hse
      simp only at c1
      have hsb := sumI_bd te HLK.out.2.2
      have hl3 : te.length ≤ 3 := HLK.out.2.1
      have HDG := hid (fun W (h : Sl W (.slice ea te.length ec) te) => degreeOf_slO _ te W HLK.out.1 HLK.out.2.1 HLK.out.2.2 h)
      clear hat c0
      by_cases hgt : m < sumI te
      · go_wp2_with (go_at_call 108; refine (HDG.out _ HSE.out).mono ?_; rintro e w' ⟨rfl, rfl⟩)
        go_round
        case rel => exact ⟨k + 1, by omega, by go_num, by rw [HT.out, if_pos hgt]⟩
        case measure => simp [intOf]; omega
      · go_wp2_with (go_at_call 108; refine (HDG.out _ HSE.out).mono ?_; rintro e w' ⟨rfl, rfl⟩)
        go_round
        case rel => exact ⟨k + 1, by omega, by go_num, by rw [HT.out, if_neg (Int.not_lt.2 hgt)]⟩
        case measure => simp [intOf]; omega
    · go_wp2
      go_ret
      exact ⟨ret_int (by rw [List.take_of_length_le (by omega)]), rfl⟩

def greatB (fs : List Tm) : Bool := decide (200 < topF (-1) fs) || decide (2000 < fs.length)
set_option maxRecDepth 100000 in
set_option maxHeartbeats 1000000 in
theorem great_any (x : Value) (fs : List Tm) (w : World) (hm : fs.length ≤ 2400000000000) (hl : ∀ t ∈ fs, 0 < t.2.length ∧ t.2.length ≤ 3 ∧ ∀ x ∈ t.2, 0 ≤ x ∧ x ≤ 40000) (pf : Pl w x fs) :
    Calls Tryz.prog 40 #[x] w fun e w' => e = .returned (.bool (greatB fs)) ∧ w' = w := by
  have HP := hid pf
  have HL := hid hl
  obtain ⟨fa, fc, rfl, _, _⟩ := pf
  clear hl
  unfold greatB
  by_cases hg : 200 < topF (-1) fs
  · go_enter Tryz.func40, Tryz.ntmps40
    go_wp2_with (go_at_call 75; refine (topOf_any _ fs _ hm HL.out HP.out).mono ?_; rintro e w' ⟨rfl, rfl⟩)
    go_ret
    exact ⟨ret_bool (by simp [hg]), rfl⟩
  · go_enter Tryz.func40, Tryz.ntmps40
    go_wp2_with (go_at_call 75; refine (topOf_any _ fs _ hm HL.out HP.out).mono ?_; rintro e w' ⟨rfl, rfl⟩)
    go_ret
    exact ⟨ret_bool (by rw [decide_eq_false (Int.not_lt.2 hg)]; simp; omega), rfl⟩

end Go.Proofs.YtkmjmmnnnbjghaaGreat
