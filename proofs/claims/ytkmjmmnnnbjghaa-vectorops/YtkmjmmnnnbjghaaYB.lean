/- Product of the reference, with a block in which nothing of its lies. -/
import Derived.Test.YtkmjmmnnnbjghaaRG
namespace Go.Proofs.Ytkmjmmnnnbjghaa
set_option linter.unusedSimpArgs false
set_option linter.unusedVariables false
open Go.RowKit

/-- A slice that lies from a block on. -/
def From (B : Nat) (v : Value) : Prop := ∀ b off n c, v = .slice (some ⟨b, off, none⟩) n c → B ≤ b
/-- Products so far. -/
structure PrdX (N : Nat) (w1 wr : World) (v : Value) (ls : List TV) : Prop where
  own : wr.ownsRow w1.heap.size 61 2 v ls.length (flat ls)
  es : Es wr ls
  ap : ∀ t ∈ ls, ApartO v.ownBlock t.2.1
  ln : ∀ t ∈ ls, t.2.2.length = N
  below : Below w1.heap.size w1 wr
  fr : ∀ t ∈ ls, From w1.heap.size t.2.1
theorem PrdX.next {N : Nat} {w1 wr w' : World} {v : Value} {ls : List TV} (h : PrdX N w1 wr v ls) (hb : Below wr.heap.size wr w') : PrdX N w1 w' v ls :=
  ⟨ownBlock_lt h.own hb, h.es.below hb, h.ap, h.ln, h.below.trans (hb.mono h.below.size), h.fr⟩
theorem PrdX.add {N : Nat} {w1 wr w' : World} {v v' : Value} {ls : List TV} {t : TV} (hN : 0 < N) (h : PrdX N w1 wr v ls) (hs : Sl wr t.2.1 t.2.2) (hl : t.2.2.length = N) (ha : ApartO v.ownBlock t.2.1) (hfr : From w1.heap.size t.2.1)
    (hown : w'.ownsRow w1.heap.size 61 2 v' (ls.length + 1) (flat ls ++ flat [t])) (hg : wr.grownBy w' v.ownBlock) (hloc : v'.ownBlock = v.ownBlock ∨ v'.ownBlock = some wr.heap.size) : PrdX N w1 w' v' (ls ++ [t]) := by
  have hall : ∀ u ∈ ls ++ [t], Sl wr u.2.1 u.2.2 ∧ ApartO v.ownBlock u.2.1 ∧ u.2.2.length = N := by
    intro u hu
    rcases List.mem_append.1 hu with hu | hu
    · exact ⟨h.es u hu, h.ap u hu, h.ln u hu⟩
    · rw [List.mem_singleton] at hu; subst hu; exact ⟨hs, ha, hl⟩
  refine ⟨by rw [flat_append, List.length_append]; exact hown, fun u hu => grown_slO hg (hall u hu).1 (hall u hu).2.1, fun u hu => ?_, fun u hu => (hall u hu).2.2, own_grown h.own h.below hg (Nat.le_refl _), fun u hu => ?_⟩
  · rcases hloc with e | e
    · rw [e]; exact (hall u hu).2.1
    rw [e]
    intro b off n c hv hb
    obtain ⟨a, cap, hv2, h1⟩ := (hall u hu).1
    obtain ⟨b2, off2, hv3, hlt, _⟩ := h1 (by rw [(hall u hu).2.2]; exact hN)
    rw [hv2, hv3] at hv
    simp only [Value.slice.injEq, Option.some.injEq, Addr.mk.injEq] at hv hb
    omega
  · rcases List.mem_append.1 hu with hu | hu
    · exact h.fr u hu
    · rw [List.mem_singleton] at hu; subst hu; exact hfr
theorem own_from {w : World} {B B2 : Nat} {T : TypeId} {s : Nat} {u : Value} {n : Nat} {xs : List Value} (h : w.ownsRow B2 T s u n xs) (hB : B ≤ B2) : From B u := by
  intro b off n c e
  have hu : u.ownBlock = some b := by rw [e]; rfl
  have h1 := (World.ownsRow.lt h b hu).1
  omega
set_option maxRecDepth 100000 in
set_option maxHeartbeats 2000000 in
theorem refProduct_plx (g0 : Nat) (p n o v : Int) (N : Nat) (fv gv : Value) (fs gs : List Tm) (w : World) (hg0 : g0 < w.heap.size) (hp : 2 ≤ p ∧ p ≤ 101) (ho : o = 1 ∨ o = 2) (hN0 : 0 < N) (hN : N ≤ 3) (lf : Len N fs) (lg : Len N gs) (cf : ∀ t ∈ fs, 0 ≤ t.1 ∧ t.1 < p) (cg : ∀ t ∈ gs, 0 ≤ t.1 ∧ t.1 < p) (bf : Bd2 fs) (bg : Bd2 gs)
    (hlf : fs.length ≤ 2000) (hlg : gs.length ≤ 2000) (pf : Pl w fv fs) (pg : Pl w gv gs) :
    Calls Try.prog 84 #[ringV p n o v, fv, gv] w fun e w' => ∃ u, e = .returned u ∧ PlX g0 w' u (colL p o (prodL p fs gs)) ∧ Below w.heap.size w w' := by
  have HG0 := hid hg0
  clear hg0
  have HF := hid (And.intro lf (And.intro cf bf))
  have HG := hid (And.intro lg (And.intro cg bg))
  have HO := hid ho
  obtain ⟨hp1, hp2⟩ := hp
  obtain ⟨fa, fc, rfl, _, hfc⟩ := pf
  obtain ⟨ga, gc, rfl, _, hgc⟩ := pg
  have HFC := hid hfc
  have HGC := hid hgc
  obtain ⟨i0, hi, hz0, hz1, hz2⟩ := info_parts Try.infoTerm
  have HI := hid (And.intro hi (And.intro hz0 (And.intro hz1 hz2)))
  obtain ⟨w1, hw1⟩ : ∃ w1, w1 = w.alloc (.cells #[.int .i64 p, .int .i64 n, .int .i64 o, .int .i64 v] 39) := ⟨_, rfl⟩
  have hbx : BoxAt w1 w.heap.size p n o v := by rw [hw1]; exact BoxAt.new w p n o v _
  have hbw : Below w.heap.size w w1 := by rw [hw1]; exact below_oneG
  have HBX := hid hbx
  have HBW := hid hbw
  clear hfc hgc lf lg cf cg bf bg ho hi hz0 hz1 hz2 hbx hbw
  go_enter Try.func84, Try.ntmps84
  go_wp2_with fail
  rw [← hw1]
  clear hw1
  go_loopw [7, 8] (fun z i wr => ∃ (ii : Nat) (ls : List TV), ii ≤ fs.length ∧ i = .int .i64 ii ∧ ls.map tm = prodL p (fs.take ii) gs ∧ PrdX N w1 wr z ls) (fun _ i _ => fs.length - (intOf i).toNat)
  case atStart => exact ⟨0, [], Nat.zero_le _, rfl, rfl, World.ownsRow_nil _ _ _ _, fun t ht => by simp at ht, fun t ht => by simp at ht, fun t ht => by simp at ht, Below.refl _ _, fun t ht => by simp at ht⟩
  case round =>
    obtain ⟨wo, hwo⟩ : ∃ wo : World, wo = wr := ⟨_, rfl⟩
    subst hwo
    obtain ⟨ii, ls0, hi1, rfl, heq0, hprd0⟩ := hrel
    have HE0 := hid heq0
    have HP0 := hid hprd0
    obtain ⟨za0, zc0, hz0⟩ := own_sl' hprd0.own
    subst hz0
    clear heq0 hprd0
    by_cases hi2 : ii < fs.length
    · go_wp2
      go_loopw [7, 9] (fun z i wr => ∃ (k : Nat) (ls : List TV), k ≤ gs.length ∧ i = .int .i64 k ∧ ls.map tm = prodL p (fs.take ii) gs ++ prodT p (fs.getD ii noT) (gs.take k) ∧ PrdX N w1 wr z ls) (fun _ i _ => gs.length - (intOf i).toNat)
      case atStart => exact ⟨0, ls0, Nat.zero_le _, rfl, by rw [HE0.out]; simp [prodT], HP0.out⟩
      case round =>
        obtain ⟨k, ls, hk1, rfl, heq, hprd⟩ := hrel
        have HE := hid heq
        have HPR := hid hprd
        obtain ⟨za, zc, hz⟩ := own_sl' hprd.own
        subst hz
        clear heq hprd
        by_cases hk2 : k < gs.length
        · obtain ⟨b, off, rfl, hlt, hat⟩ := HFC.out (by omega)
          obtain ⟨b2, off2, rfl, hlt2, hat2⟩ := HGC.out (by omega)
          obtain ⟨c0, ev, c1, hse⟩ := hat ii hi2
          obtain ⟨d0, ev2, d1, hse2⟩ := hat2 k hk2
          have HLL : Hid (ls.length ≤ 4000000) := by
            have h1 : (ls.map tm).length = _ := congrArg List.length HE.out
            rw [List.length_map, List.length_append, prodL_len] at h1
            simp only [prodT, List.length_map, List.length_take] at h1
            have h2 := two_len_mul (i := ii) (k := k) (a := fs.length) (b := gs.length) hi2 hk1 hlf hlg
            rw [Nat.min_eq_left hi1, Nat.min_eq_left hk1] at h1
            show _ ≤ _
            omega
          have HTF := hid (And.intro (HF.out.1 _ (getD_memT fs ii hi2)) (And.intro (HF.out.2.1 _ (getD_memT fs ii hi2)) (HF.out.2.2 _ (getD_memT fs ii hi2))))
          have HTG := hid (And.intro (HG.out.1 _ (getD_memT gs k hk2)) (And.intro (HG.out.2.1 _ (getD_memT gs k hk2)) (HG.out.2.2 _ (getD_memT gs k hk2))))
          have HSN := hid (prodT_snoc p (fs.getD ii noT) gs k hk2)
          generalize hft : fs.getD ii noT = t at c0 hse HTF HSN HE
          have HFT := hid hft
          generalize gs.getD k noT = u at d0 hse2 HTG HSN
          obtain ⟨tc, te⟩ := t
          obtain ⟨uc, ue⟩ := u
          have HDN := hid (HBW.out.trans (HPR.out.below.mono HBW.out.size))
          have HSE := hid (hse.below HDN.out)
          have HSE2 := hid (hse2.below HDN.out)
          obtain ⟨ea, ec, rfl, _⟩ := hse
          obtain ⟨ea2, ec2, rfl, _⟩ := hse2
          simp only at c0 c1 d0 d1
          have hte0 : 0 < te.length := by have := HTF.out.1; simp only at this; omega
          have hte3 : te.length ≤ 3 := by have := HTF.out.1; simp only at this; omega
          have HLE : Hid (te.length = ue.length) := HTF.out.1.trans HTG.out.1.symm
          have htc : 0 ≤ tc ∧ tc < p := HTF.out.2.1
          have huc : 0 ≤ uc ∧ uc < p := HTG.out.2.1
          obtain ⟨hm1, hm2⟩ := mulBd (a := tc) (b := uc) ⟨by omega, by omega, by omega, by omega⟩
          have HPT := hid (fun (W : World) (h1 : Sl W (.slice ea te.length ec) te) (h2 : Sl W (.slice ea2 ue.length ec2) ue) => putTimesO_sl _ _ te ue W hte0 hte3 HLE.out HTF.out.2.2 HTG.out.2.2 h1 h2)
          obtain ⟨_, bx0, _, _, _⟩ := HBX.out
          have KEEP : Hid (∀ W, Below w1.heap.size w1 W → (Hid (Below w1.heap.size w1 W) ∧ W.cell? ⟨w.heap.size, 0, none⟩ = some (.int .i64 p) ∧ W.cell? ⟨b, off + ii * 2, none⟩ = some (.int .i64 tc) ∧ W.cell? ⟨b, off + ii * 2 + 1, none⟩ = some (.slice ea te.length ec) ∧ W.cell? ⟨b2, off2 + k * 2, none⟩ = some (.int .i64 uc) ∧ W.cell? ⟨b2, off2 + k * 2 + 1, none⟩ = some (.slice ea2 ue.length ec2))) :=
            fun W hb => ⟨hb, cell_keep bx0 hb, cell_keep (cell_keep c0 HBW.out) hb, cell_keep (cell_keep c1 HBW.out) hb, cell_keep (cell_keep d0 HBW.out) hb, cell_keep (cell_keep d1 HBW.out) hb⟩
          clear hft hat hat2 c0 c1 d0 d1 bx0 htc huc
          go_wp2
          go_region_held_law (fun W => Hid (Below w1.heap.size w1 W) ∧ W.cell? ⟨w.heap.size, 0, none⟩ = some (.int .i64 p) ∧ W.cell? ⟨b, off + ii * 2, none⟩ = some (.int .i64 tc) ∧ W.cell? ⟨b, off + ii * 2 + 1, none⟩ = some (.slice ea te.length ec) ∧ W.cell? ⟨b2, off2 + k * 2, none⟩ = some (.int .i64 uc) ∧ W.cell? ⟨b2, off2 + k * 2 + 1, none⟩ = some (.slice ea2 ue.length ec2))
            (first | exact KEEP.out _ HPR.out.below.drew | exact KEEP.out _ PR7.out.below | exact KEEP.out _ (PR6.out.next belowNew).below | exact KEEP.out _ PR6.out.below)
            (first
              | (refine step_append_tvsA rfl (.tmp 22) (.tmp 49) 53 53 rfl w1.heap.size 61 i0 _ Try.underlying53 Try.underlying53 HI.out.1 HI.out.2.1 HI.out.2.2.1 HI.out.2.2.2 rfl (.slice za ls.length zc) ls.length (flat ls) (by simp [Act.eval, Act.put]) (PR6.out.next belowNew).own [(tc * uc % p, .slice ua6 (zipI (· + ·) te ue).length uc6, zipI (· + ·) te ue)] 1 rfl (some ⟨w6.heap.size, 0, none⟩) 1 (by simp [Act.eval, Act.put]) (fun _ => ⟨w6.heap.size, 0, rfl, two_at w6 (tc * uc % p) (.slice ua6 (zipI (· + ·) te ue).length uc6) (zipI (· + ·) te ue) 61⟩) ONE6.out (by have := HLL.out; omega) (Nat.le_trans PR6.out.below.size (by simp)) ?_; intro v7 w7 r1 r2 r3; have PR7 := hid (PrdX.add hN0 (PR6.out.next belowNew) (SL6.out.below belowNew) LN6.out AP6.out FR6.out r1 r2 r3); obtain ⟨va7, vc7, hv7⟩ := own_sl' r1; subst hv7; clear r1 r2 r3)
              | (go_at_call 27; refine (HPT.out _ ?_ ?_).mono ?_; exact HSE.out.below (Below.refl _ _).drew; exact HSE2.out.below (Below.refl _ _).drew; rintro e w6 ⟨u6, rfl, hu6, hb6⟩; have PR6 := hid (HPR.out.next (((Below.refl wr.heap.size wr).drew).trans hb6)); have FR6 := hid (own_from (B := w1.heap.size) hu6 (Nat.le_trans HPR.out.below.size (by simp))); have AP6 := hid (own_apartO hu6 HPR.out.own (Nat.le_refl _)); have SL6 := hid (ownsRow_sl hu6); have LN6 : Hid ((zipI (· + ·) te ue).length = N) := ((zipI_len _ _ _ HLE.out).trans HTF.out.1); obtain ⟨ua6, uc6, hv6⟩ := own_sl' hu6; subst hv6; have ONE6 := hid (flat_one (w := w6) (ts := [(tc * uc % p, .slice ua6 (zipI (· + ·) te ue).length uc6, zipI (· + ·) te ue)]) (fun u hu => (by rw [List.mem_singleton] at hu; subst hu; exact SL6.out))); clear hu6 hb6))
          all_goals
            go_wp2
            first
              | exact ⟨⟨k + 1, ls ++ [_], by omega, by go_num, by rw [List.map_append, HE.out, HSN.out]; simp [tm], PR7.out⟩, by simp [intOf]; omega⟩
              | (go_roundw
                 case rel => exact ⟨k + 1, ls ++ [_], by omega, by go_num, by rw [List.map_append, HE.out, HSN.out]; simp [tm], PR7.out⟩
                 case measure => simp [intOf]; omega)
        · have e : k = gs.length := by omega
          subst e
          go_wp2
          go_roundw
          case rel => exact ⟨ii + 1, ls, by omega, by go_num, by rw [HE.out, prodL_take p fs gs ii hi2, List.take_of_length_le (Nat.le_refl _)], HPR.out⟩
          case measure => simp [intOf]; omega
    · have e : ii = fs.length := by omega
      subst e
      have HEF : Hid (ls0.map tm = prodL p fs gs) := by show _ = _; rw [HE0.out, List.take_of_length_le (Nat.le_refl _)]
      have HLL : Hid ((prodL p fs gs).length ≤ 4000000) := by
        show _ ≤ _
        rw [prodL_len]
        exact Nat.mul_le_mul hlf hlg
      have HTK := hid (prodL_tok (p := p) (N := N) hp1 HF.out.1 HG.out.1 HF.out.2.2 HG.out.2.2)
      obtain ⟨_, bx0, bx1, bx2, bx3⟩ := HBX.out.below HP0.out.below
      obtain ⟨za1, zc1, hv1, hcap1, hcs1⟩ := own_tvs HP0.out.own
      simp only [Value.slice.injEq, true_and] at hv1
      obtain ⟨rfl, rfl⟩ := hv1
      have HC1 := hid (And.intro hcap1 hcs1)
      clear hcap1 hcs1
      have HGW := hid (show g0 < w1.heap.size from Nat.lt_of_lt_of_le HG0.out HBW.out.size)
      have HAP : Hid (∀ t ∈ ls0, ApartO (some g0) t.2.1) := fun t ht b off n c e e2 => by
        have h1 := HP0.out.fr t ht b off n c e
        have h2 := HGW.out
        simp only [Option.some.injEq] at e2
        omega
      go_wp2_with fail
      refine (collect_fp (ApartO (some g0)) p n o v N _ _ ls0 (prodL p fs gs) _ ⟨hp1, hp2⟩ HO.out hN0 hN HTK.out HLL.out HC1.out.1 HEF.out HP0.out.es HC1.out.2 HAP.out).mono ?_
      rintro e w9 ⟨u9, ls9, rfl, ho9, he9, hl9, ha9, hb9⟩
      have HU9 : Hid (PlX g0 w9 u9 (colL p o (prodL p fs gs))) := by
        show PlX _ _ _ _
        rw [← hl9]
        exact own_plx ho9 he9 ha9 (Nat.lt_of_lt_of_le HGW.out HP0.out.below.size)
      have HB9 := hid ((HBW.out.trans (HP0.out.below.mono HBW.out.size)).trans (hb9.mono (HBW.out.trans (HP0.out.below.mono HBW.out.size)).size))
      obtain ⟨ua9, uc9, hv9⟩ := own_sl' ho9
      subst hv9
      clear hb9 ho9 he9 hl9 ha9
      go_wp2
      go_ret
      exact ⟨_, rfl, HU9.out, HB9.out⟩

end Go.Proofs.Ytkmjmmnnnbjghaa

/- VSum, VTimes of the reference, with a block in which nothing of theirs lies. -/
namespace Go.Proofs.Ytkmjmmnnnbjghaa
set_option linter.unusedSimpArgs false
set_option linter.unusedVariables false
open Go.RowKit

set_option maxRecDepth 100000 in
set_option maxHeartbeats 2000000 in
theorem vsum_plx (g0 : Nat) (p n o v : Int) (N : Nat) (x y : Value) (fss gss : List (List Tm)) (w : World) (hg0 : g0 < w.heap.size) (hp : 2 ≤ p ∧ p ≤ 101) (ho : o = 1 ∨ o = 2) (hN0 : 0 < N) (hN : N ≤ 3) (hl : fss.length = gss.length) (hm : fss.length ≤ 1000) (hf : ∀ f ∈ fss, Sm p N f) (hg : ∀ g ∈ gss, Sm p N g) (pf : VlX g0 w x fss) (pg : VlX g0 w y gss) :
    Calls Try.prog 42 #[ringV p n o v, x, y] w fun e w' => ∃ u, e = .returned u ∧ VlX g0 w' u (sums p o fss gss) ∧ Below w.heap.size w w' := by
  have HG0 := hid hg0
  clear hg0
  have HX := hid pf
  have HY := hid pg
  have HF := hid hf
  have HG := hid hg
  have HP := hid hp
  have HO := hid ho
  have HL := hid hl
  obtain ⟨ax, cx, rfl, _⟩ := pf
  obtain ⟨ay, cy, rfl, _⟩ := pg
  clear hf hg hp ho hl
  obtain ⟨w1, hw1⟩ : ∃ w1, w1 = w.alloc (.cells #[.int .i64 p, .int .i64 n, .int .i64 o, .int .i64 v] 39) := ⟨_, rfl⟩
  have hbx : BoxAt w1 w.heap.size p n o v := by rw [hw1]; exact BoxAt.new w p n o v _
  have hbw : Below w.heap.size w w1 := by rw [hw1]; exact below_oneG
  have HBX := hid hbx
  have HBW := hid hbw
  clear hbx hbw
  go_enter Try.func42, Try.ntmps42
  go_wp2_with fail
  rw [← hw1]
  clear hw1
  go_loopw [7, 8] (fun z i wr => ∃ (k : Nat) (us : List Value), k ≤ fss.length ∧ i = .int .i64 k ∧ PRowX g0 w1.heap.size wr z us ((sums p o fss gss).take k) ∧ Below w1.heap.size w1 wr) (fun _ i _ => fss.length - (intOf i).toNat)
  case atStart => exact ⟨0, [], Nat.zero_le _, rfl, PRowX.nil _ _ _, Below.refl _ _⟩
  case round =>
    obtain ⟨k, us, hk, rfl, hrow, hbr⟩ := hrel
    have HROW := hid hrow
    have HBR := hid hbr
    obtain ⟨ys, hys⟩ : ∃ ys, (sums p o fss gss).take k = ys := ⟨_, rfl⟩
    have HTL : Hid (ys.length = k) := by show _ = _; rw [← hys, List.length_take, sums_len HL.out]; omega
    rw [hys] at hrow HROW
    have HYS := hid hys
    clear hys
    obtain ⟨za, zc, hz⟩ := own_sl hrow.own
    subst hz
    clear hrow hbr
    by_cases hk2 : k < fss.length
    · have hk3 : k < gss.length := by have := HL.out; omega
      obtain ⟨b, off, fa, fc, rfl, hlt, c0, hpf⟩ := vlx_at HX.out k hk2
      obtain ⟨b2, off2, ga, gc, rfl, hlt2, d0, hpg⟩ := vlx_at HY.out k hk3
      have hkI : (k : Int) < (gss.length : Int) := by omega
      have HDN := hid (HBW.out.trans (HBR.out.mono HBW.out.size))
      have HTS : Hid ((sums p o fss gss).take (k + 1) = ys ++ [colL p o (fss.getD k [] ++ gss.getD k [])]) := by
        show _ = _
        rw [← HYS.out, take_snocL _ _ (by rw [sums_len HL.out]; exact hk2), sums_at HL.out hk2]
      have HFG := hid (And.intro (HF.out _ (getD_memL fss k hk2)) (HG.out _ (getD_memL gss k hk3)))
      generalize fss.getD k [] = f at c0 hpf HTS HFG
      generalize gss.getD k [] = g at d0 hpg HTS HFG
      have HPF := hid (hpf.below HBW.out)
      have HPG := hid (hpg.below HBW.out)
      clear hpf hpg
      obtain ⟨_, bx0, bx1, bx2, bx3⟩ := HBX.out
      have KEEP : Hid (∀ W, Below w1.heap.size w1 W → (Hid (Below w1.heap.size w1 W) ∧ W.cell? ⟨w.heap.size, 0, none⟩ = some (.int .i64 p) ∧ W.cell? ⟨w.heap.size, 1, none⟩ = some (.int .i64 n) ∧ W.cell? ⟨w.heap.size, 2, none⟩ = some (.int .i64 o) ∧ W.cell? ⟨w.heap.size, 3, none⟩ = some (.int .i64 v) ∧ W.cell? ⟨b, off + k, none⟩ = some (.slice fa f.length fc) ∧ W.cell? ⟨b2, off2 + k, none⟩ = some (.slice ga g.length gc))) :=
        fun W hb => ⟨hb, cell_keep bx0 hb, cell_keep bx1 hb, cell_keep bx2 hb, cell_keep bx3 hb, cell_keep (cell_keep c0 HBW.out) hb, cell_keep (cell_keep d0 HBW.out) hb⟩
      have HB0 : Hid (Below w1.heap.size w1 wr.drew) := HBR.out.drew
      clear bx0 bx1 bx2 bx3 c0 d0
      go_wp2
      go_region_held_law (fun W => Hid (Below w1.heap.size w1 W) ∧ W.cell? ⟨w.heap.size, 0, none⟩ = some (.int .i64 p) ∧ W.cell? ⟨w.heap.size, 1, none⟩ = some (.int .i64 n) ∧ W.cell? ⟨w.heap.size, 2, none⟩ = some (.int .i64 o) ∧ W.cell? ⟨w.heap.size, 3, none⟩ = some (.int .i64 v) ∧ W.cell? ⟨b, off + k, none⟩ = some (.slice fa f.length fc) ∧ W.cell? ⟨b2, off2 + k, none⟩ = some (.slice ga g.length gc))
        (first | exact KEEP.out _ HB0.out | exact KEEP.out _ HB7.out | exact KEEP.out _ (HB6.out.trans (belowNew.mono HB6.out.size)) | exact KEEP.out _ HB6.out)
        (first
          | (refine step_append_prowX rfl (.tmp 15) (.tmp 26) 56 rfl Try.underlying56 w1.heap.size (.slice za ys.length zc) us ys (by simp [Act.eval, Act.put]) (PR6.out.next belowNew) ⟨w6.heap.size, 0, none⟩ 1 (.slice ua6 (colL p o (f ++ g)).length uc6) (colL p o (f ++ g)) (HU6.out.below belowNew) (by simp [Act.eval, Act.put]) (one_newP _ _ _) (by rw [HTL.out]; omega) (Nat.le_trans HB6.out.size (by simp)) ?_; intro v7 w7 r1 r2; have HB7 := hid (show Below w1.heap.size w1 w7 from (PR6.out.next belowNew).grown (HB6.out.trans (belowNew.mono HB6.out.size)) r2 (Nat.le_refl _)); obtain ⟨va7, vc7, hv7⟩ := own_sl r1.own; rw [len_snoc] at hv7; subst hv7; have HR7 := hid r1; clear r1 r2)
          | (go_at_call 83; refine (refSum_plx g0 p n o v N _ _ f g _ ?_ HP.out HO.out hN0 hN HFG.out.1.1 HFG.out.2.1 ?_ ?_ ?_).mono ?_; exact Nat.lt_of_lt_of_le HG0.out (Nat.le_trans HBW.out.size HB0.out.size); (have h1 := HFG.out.1.2; have h2 := HFG.out.2.2; omega); exact HPF.out.below HB0.out; exact HPG.out.below HB0.out; rintro e w6 ⟨u6, rfl, hu6, hb6⟩; have PR6 := hid (HROW.out.next (((Below.refl wr.heap.size wr).drew).trans hb6)); have HB6 := hid (show Below w1.heap.size w1 w6 from HB0.out.trans (hb6.mono HB0.out.size)); have HU6 := hid hu6; obtain ⟨ua6, uc6, rfl, _, _⟩ := hu6.pl; clear hb6))
      all_goals
        go_wp2
        first
          | exact ⟨⟨k + 1, us ++ [_], by omega, by go_num, by rw [HTS.out]; exact HR7.out, HB7.out⟩, by simp [intOf]; omega⟩
          | (go_roundw
             case rel => exact ⟨k + 1, us ++ [_], by omega, by go_num, by rw [HTS.out]; exact HR7.out, HB7.out⟩
             case measure => simp [intOf]; omega)
    · have e : k = fss.length := by omega
      subst e
      have HE : Hid (sums p o fss gss = ys) := by show _ = _; rw [← HYS.out, List.take_of_length_le (by rw [sums_len HL.out]; exact Nat.le_refl _)]
      have HV := hid (HROW.out.vlx (Nat.lt_of_lt_of_le HG0.out HBW.out.size))
      go_wp2
      go_ret
      exact ⟨_, rfl, by rw [HE.out]; exact HV.out, HBW.out.trans (HBR.out.mono HBW.out.size)⟩

set_option maxRecDepth 100000 in
set_option maxHeartbeats 2000000 in
theorem vtimes_plx (g0 : Nat) (p n o v : Int) (N : Nat) (x y : Value) (f : List Tm) (gss : List (List Tm)) (w : World) (hg0 : g0 < w.heap.size) (hp : 2 ≤ p ∧ p ≤ 101) (ho : o = 1 ∨ o = 2) (hN0 : 0 < N) (hN : N ≤ 3) (hm : gss.length ≤ 1000) (hf : Right p o N f) (hg : ∀ g ∈ gss, Right p o N g) (pf : Pl w x f) (pg : Vl w y gss) :
    Calls Try.prog 43 #[ringV p n o v, x, y] w fun e w' => ∃ u, e = .returned u ∧ VlX g0 w' u (prods p o f gss) ∧ Below w.heap.size w w' := by
  have HG0 := hid hg0
  clear hg0
  have HX := hid pf
  have HY := hid pg
  have HF := hid hf
  have HG := hid hg
  have HP := hid hp
  have HO := hid ho
  obtain ⟨ax, cx, rfl, _, _⟩ := pf
  obtain ⟨ay, cy, rfl, _⟩ := pg
  unfold prods
  clear hf hg hp ho
  obtain ⟨w1, hw1⟩ : ∃ w1, w1 = w.alloc (.cells #[.int .i64 p, .int .i64 n, .int .i64 o, .int .i64 v] 39) := ⟨_, rfl⟩
  have hbx : BoxAt w1 w.heap.size p n o v := by rw [hw1]; exact BoxAt.new w p n o v _
  have hbw : Below w.heap.size w w1 := by rw [hw1]; exact below_oneG
  have HBX := hid hbx
  have HBW := hid hbw
  clear hbx hbw
  go_enter Try.func43, Try.ntmps43
  go_wp2_with fail
  rw [← hw1]
  clear hw1
  go_loopw [7, 8] (fun z i wr => ∃ (k : Nat) (us : List Value), k ≤ gss.length ∧ i = .int .i64 k ∧ PRowX g0 w1.heap.size wr z us (((gss.map fun g => colL p o (prodL p f g))).take k) ∧ Below w1.heap.size w1 wr) (fun _ i _ => gss.length - (intOf i).toNat)
  case atStart => exact ⟨0, [], Nat.zero_le _, rfl, PRowX.nil _ _ _, Below.refl _ _⟩
  case round =>
    obtain ⟨k, us, hk, rfl, hrow, hbr⟩ := hrel
    have HROW := hid hrow
    have HBR := hid hbr
    obtain ⟨ys, hys⟩ : ∃ ys, ((gss.map fun g => colL p o (prodL p f g))).take k = ys := ⟨_, rfl⟩
    have HTL : Hid (ys.length = k) := by show _ = _; rw [← hys, List.length_take, List.length_map]; omega
    rw [hys] at hrow HROW
    have HYS := hid hys
    clear hys
    obtain ⟨za, zc, hz⟩ := own_sl hrow.own
    subst hz
    clear hrow hbr
    by_cases hk2 : k < gss.length
    · obtain ⟨b2, off2, ga, gc, rfl, hlt2, d0, hpg⟩ := vl_at HY.out k hk2
      have HDN := hid (HBW.out.trans (HBR.out.mono HBW.out.size))
      have HTS : Hid (((gss.map fun g => colL p o (prodL p f g))).take (k + 1) = ys ++ [colL p o (prodL p f (gss.getD k []))]) := by
        show _ = _
        rw [← HYS.out, take_snocL _ _ (by rw [List.length_map]; exact hk2), getD_mapL (fun g => colL p o (prodL p f g)) _ _ hk2]
      have HGK := hid (HG.out _ (getD_memL gss k hk2))
      generalize gss.getD k [] = g at d0 hpg HTS HGK
      have HPG := hid (hpg.below HBW.out)
      clear hpg
      obtain ⟨_, bx0, bx1, bx2, bx3⟩ := HBX.out
      have KEEP : Hid (∀ W, Below w1.heap.size w1 W → (Hid (Below w1.heap.size w1 W) ∧ W.cell? ⟨w.heap.size, 0, none⟩ = some (.int .i64 p) ∧ W.cell? ⟨w.heap.size, 1, none⟩ = some (.int .i64 n) ∧ W.cell? ⟨w.heap.size, 2, none⟩ = some (.int .i64 o) ∧ W.cell? ⟨w.heap.size, 3, none⟩ = some (.int .i64 v) ∧ W.cell? ⟨b2, off2 + k, none⟩ = some (.slice ga g.length gc))) :=
        fun W hb => ⟨hb, cell_keep bx0 hb, cell_keep bx1 hb, cell_keep bx2 hb, cell_keep bx3 hb, cell_keep (cell_keep d0 HBW.out) hb⟩
      have HB0 : Hid (Below w1.heap.size w1 wr.drew) := HBR.out.drew
      clear bx0 bx1 bx2 bx3 d0
      go_wp2
      go_region_held_law (fun W => Hid (Below w1.heap.size w1 W) ∧ W.cell? ⟨w.heap.size, 0, none⟩ = some (.int .i64 p) ∧ W.cell? ⟨w.heap.size, 1, none⟩ = some (.int .i64 n) ∧ W.cell? ⟨w.heap.size, 2, none⟩ = some (.int .i64 o) ∧ W.cell? ⟨w.heap.size, 3, none⟩ = some (.int .i64 v) ∧ W.cell? ⟨b2, off2 + k, none⟩ = some (.slice ga g.length gc))
        (first | exact KEEP.out _ HB0.out | exact KEEP.out _ HB7.out | exact KEEP.out _ (HB6.out.trans (belowNew.mono HB6.out.size)) | exact KEEP.out _ HB6.out)
        (first
          | (refine step_append_prowX rfl (.tmp 15) (.tmp 23) 56 rfl Try.underlying56 w1.heap.size (.slice za ys.length zc) us ys (by simp [Act.eval, Act.put]) (PR6.out.next belowNew) ⟨w6.heap.size, 0, none⟩ 1 (.slice ua6 (colL p o (prodL p f g)).length uc6) (colL p o (prodL p f g)) (HU6.out.below belowNew) (by simp [Act.eval, Act.put]) (one_newP _ _ _) (by rw [HTL.out]; omega) (Nat.le_trans HB6.out.size (by simp)) ?_; intro v7 w7 r1 r2; have HB7 := hid (show Below w1.heap.size w1 w7 from (PR6.out.next belowNew).grown (HB6.out.trans (belowNew.mono HB6.out.size)) r2 (Nat.le_refl _)); obtain ⟨va7, vc7, hv7⟩ := own_sl r1.own; rw [len_snoc] at hv7; subst hv7; have HR7 := hid r1; clear r1 r2)
          | (go_at_call 84; refine (refProduct_plx g0 p n o v N _ _ f g _ ?_ HP.out HO.out hN0 hN HF.out.canon.len HGK.out.canon.len ?_ ?_ HF.out.bd HGK.out.bd HF.out.len HGK.out.len ?_ ?_).mono ?_; exact Nat.lt_of_lt_of_le HG0.out (Nat.le_trans HBW.out.size HB0.out.size); exact (fun t ht => ⟨by have := HF.out.canon.coef t ht; omega, (HF.out.canon.coef t ht).2⟩); exact (fun t ht => ⟨by have := HGK.out.canon.coef t ht; omega, (HGK.out.canon.coef t ht).2⟩); exact (HX.out.below HBW.out).below HB0.out; exact HPG.out.below HB0.out; rintro e w6 ⟨u6, rfl, hu6, hb6⟩; have PR6 := hid (HROW.out.next (((Below.refl wr.heap.size wr).drew).trans hb6)); have HB6 := hid (show Below w1.heap.size w1 w6 from HB0.out.trans (hb6.mono HB0.out.size)); have HU6 := hid hu6; obtain ⟨ua6, uc6, rfl, _, _⟩ := hu6.pl; clear hb6))
      all_goals
        go_wp2
        first
          | exact ⟨⟨k + 1, us ++ [_], by omega, by go_num, by rw [HTS.out]; exact HR7.out, HB7.out⟩, by simp [intOf]; omega⟩
          | (go_roundw
             case rel => exact ⟨k + 1, us ++ [_], by omega, by go_num, by rw [HTS.out]; exact HR7.out, HB7.out⟩
             case measure => simp [intOf]; omega)
    · have e : k = gss.length := by omega
      subst e
      have HE : Hid ((gss.map fun g => colL p o (prodL p f g)) = ys) := by show _ = _; rw [← HYS.out, List.take_of_length_le (by rw [List.length_map]; exact Nat.le_refl _)]
      have HV := hid (HROW.out.vlx (Nat.lt_of_lt_of_le HG0.out HBW.out.size))
      go_wp2
      go_ret
      exact ⟨_, rfl, by rw [HE.out]; exact HV.out, HBW.out.trans (HBR.out.mono HBW.out.size)⟩

end Go.Proofs.Ytkmjmmnnnbjghaa

/- CheckList, CheckVectors, CheckAlike of the reference. -/
namespace Go.Proofs.Ytkmjmmnnnbjghaa
set_option linter.unusedSimpArgs false
set_option linter.unusedVariables false
open Go.RowKit

/-- A list of vectors. -/
def VlsAt (w : World) (b off : Nat) (vss : List (List (List Tm))) : Prop :=
  ∀ i, i < vss.length → ∃ v, w.cell? ⟨b, off + i, none⟩ = some v ∧ Vl w v (vss.getD i [])
theorem VlsAt.below {w w' : World} {b off : Nat} {vss : List (List (List Tm))} (h : VlsAt w b off vss) (hlt : b < w.heap.size) (hb : Below w.heap.size w w') : VlsAt w' b off vss := by
  intro i hi
  obtain ⟨v, hc, hs⟩ := h i hi
  exact ⟨v, by rw [hb.cell (p := ⟨b, off + i, none⟩) hlt]; exact hc, hs.below hb⟩
def Wl (w : World) (v : Value) (vss : List (List (List Tm))) : Prop :=
  ∃ a cap, v = .slice a vss.length cap ∧ (0 < vss.length → ∃ b off, a = some ⟨b, off, none⟩ ∧ b < w.heap.size ∧ VlsAt w b off vss)
theorem Wl.below {w w' : World} {v : Value} {vss : List (List (List Tm))} (h : Wl w v vss) (hb : Below w.heap.size w w') : Wl w' v vss := by
  obtain ⟨a, cap, rfl, h⟩ := h
  refine ⟨a, cap, rfl, fun hp => ?_⟩
  obtain ⟨b, off, rfl, hlt, hc⟩ := h hp
  exact ⟨b, off, rfl, Nat.lt_of_lt_of_le hlt hb.size, hc.below hlt hb⟩
theorem wl_at {w : World} {a : Option Addr} {c : Nat} {vss : List (List (List Tm))} (h : Wl w (.slice a vss.length c) vss) (k : Nat) (hk : k < vss.length) : ∃ b off va vc, a = some ⟨b, off, none⟩ ∧ b < w.heap.size ∧ w.cell? ⟨b, off + k, none⟩ = some (.slice va (vss.getD k []).length vc) ∧ Vl w (.slice va (vss.getD k []).length vc) (vss.getD k []) := by
  obtain ⟨a2, c2, e, h1⟩ := h
  obtain ⟨b, off, rfl, hlt, hat⟩ := h1 (by omega)
  simp only [Value.slice.injEq, true_and] at e
  obtain ⟨rfl, rfl⟩ := e
  obtain ⟨v, hc, hp⟩ := hat k hk
  have hp2 := hp
  obtain ⟨fa, fc, rfl, _⟩ := hp
  exact ⟨b, off, fa, fc, rfl, hlt, hc, hp2⟩
/-- The first that is not 0. -/
def firstZ {α : Type} (F : List α → Int) : List (List α) → Int
  | [] => 0
  | a :: r => if F a = 0 then firstZ F r else F a
theorem firstZ_drop {α : Type} (F : List α → Int) (l : List (List α)) (k : Nat) (h : k < l.length) : firstZ F (l.drop k) = if F (l.getD k []) = 0 then firstZ F (l.drop (k + 1)) else F (l.getD k []) := by
  rw [List.drop_eq_getElem_cons h]
  simp [firstZ, List.getD_eq_getElem?_getD, h]
theorem firstZ_ok {α : Type} {F : List α → Int} : ∀ {l : List (List α)}, firstZ F l = 0 → ∀ a ∈ l, F a = 0
  | [], _, a, ha => by simp at ha
  | b :: r, h, a, ha => by
    unfold firstZ at h
    by_cases hb : F b = 0
    · rw [if_pos hb] at h
      rcases List.mem_cons.1 ha with rfl | ha
      · exact hb
      · exact firstZ_ok h a ha
    · rw [if_neg hb] at h; exact absurd h hb
/-- What is told of a vector of a rank. -/
def errVec (p n o rank : Int) (fss : List (List Tm)) : Int := if (fss.length : Int) ≠ rank then 1 else firstOne p n o fss
def errList (p n o rank : Int) (vss : List (List (List Tm))) : Int := if betweenB rank 1 40 = false then 3 else if 60 < vss.length then 2 else firstZ (errVec p n o rank) vss
def errVecs (p n o v rank : Int) (vss : List (List (List Tm))) : Int := if errR p n o v ≠ 0 then errR p n o v else errList p n o rank vss

set_option maxRecDepth 100000 in
set_option maxHeartbeats 2000000 in
theorem checkList_any (p n o v rank : Int) (lv : Value) (vss : List (List (List Tm))) (w : World) (hR : errR p n o v = 0) (hs : Wl w lv vss) :
    Calls Try.prog 89 #[ringV p n o v, .int .i64 rank, lv] w fun e w' => e = .returned (.int .i64 (errList p n o rank vss)) ∧ Below w.heap.size w w' := by
  have HS := hid hs
  obtain ⟨la, lc, rfl, _⟩ := hs
  obtain ⟨hpr, hn1, hn2, ho, _⟩ := ring_ok hR
  have HP := hid (errP_bd hpr)
  have HN := hid (And.intro hn1 hn2)
  have HO := hid ho
  obtain ⟨w1, hw1⟩ : ∃ w1, w1 = w.alloc (.cells #[.int .i64 p, .int .i64 n, .int .i64 o, .int .i64 v] 39) := ⟨_, rfl⟩
  have hbx : BoxAt w1 w.heap.size p n o v := by rw [hw1]; exact BoxAt.new w p n o v _
  have hbw : Below w.heap.size w w1 := by rw [hw1]; exact below_oneG
  have HBX := hid hbx
  have HBW := hid hbw
  clear hR hpr ho hbx hbw
  cases hbt : betweenB rank 1 40
  · have HE : Hid (errList p n o rank vss = 3) := by show _ = _; unfold errList; rw [if_pos hbt]
    rw [HE.out]
    go_enter Try.func89, Try.ntmps89
    go_wp2_with (go_at_call 59; refine (between_any _ _ _ _).mono ?_; rw [hbt]; rintro e w' ⟨rfl, rfl⟩)
    go_ret
    rw [← hw1]
    exact ⟨rfl, HBW.out⟩
  · by_cases hlen : 60 < vss.length
    · have HE : Hid (errList p n o rank vss = 2) := by show _ = _; unfold errList; rw [if_neg (by rw [hbt]; simp), if_pos hlen]
      rw [HE.out]
      go_enter Try.func89, Try.ntmps89
      go_wp2_with (go_at_call 59; refine (between_any _ _ _ _).mono ?_; rw [hbt]; rintro e w' ⟨rfl, rfl⟩)
      go_ret
      rw [← hw1]
      exact ⟨rfl, HBW.out⟩
    · have HE : Hid (errList p n o rank vss = firstZ (errVec p n o rank) vss) := by show _ = _; unfold errList; rw [if_neg (by rw [hbt]; simp), if_neg hlen]
      rw [HE.out]
      have HRK : Hid (1 ≤ rank ∧ rank ≤ 40) := by simpa [betweenB, Hid] using hbt
      go_enter Try.func89, Try.ntmps89
      go_wp2_with (go_at_call 59; refine (between_any _ _ _ _).mono ?_; rw [hbt]; rintro e w' ⟨rfl, rfl⟩)
      rw [← hw1]
      clear hw1 hbt
      go_loopw [7] (fun i wr => ∃ k : Nat, k ≤ vss.length ∧ i = .int .i64 k ∧ firstZ (errVec p n o rank) vss = firstZ (errVec p n o rank) (vss.drop k) ∧ Below w1.heap.size w1 wr) (fun i _ => vss.length - (intOf i).toNat)
      case atStart => exact ⟨0, Nat.zero_le _, rfl, rfl, Below.refl _ _⟩
      case round =>
        obtain ⟨k, hk, rfl, her, hbr⟩ := hrel
        have HBR := hid hbr
        have HER0 := hid her
        clear hbr her
        by_cases hk2 : k < vss.length
        · have HER := hid (HER0.out.trans (firstZ_drop (errVec p n o rank) vss k hk2))
          obtain ⟨b, off, va, vc, rfl, hlt, c0, hvl⟩ := wl_at HS.out k hk2
          have HDN := hid (HBW.out.trans (HBR.out.mono HBW.out.size))
          generalize vss.getD k [] = fss at c0 hvl HER
          have HVL := hid hvl
          have d0 := cell_keep c0 HDN.out
          clear hvl
          cases hln : ((fss.length : Int) != rank)
          · have hrk : (fss.length : Int) = rank := by simpa using hln
            subst hrk
            have HEV : Hid (errVec p n o (fss.length : Int) fss = firstOne p n o fss) := by show _ = _; unfold errVec; rw [if_neg (by simp)]
            have hf40 : fss.length ≤ 40 := by have := HRK.out; omega
            clear hln
            go_wp2_with fail
            go_loopw [8] (fun i wm => ∃ j : Nat, j ≤ fss.length ∧ i = .int .i64 j ∧ firstOne p n o fss = firstOne p n o (fss.drop j) ∧ Below w1.heap.size w1 wm) (fun i _ => fss.length - (intOf i).toNat)
            case atStart => exact ⟨0, Nat.zero_le _, rfl, rfl, HBR.out⟩
            case round =>
              clear d0
              obtain ⟨j, hj, rfl, hej, hbm⟩ := hrel
              have HBM := hid hbm
              have HEJ := hid hej
              clear hbm hej
              by_cases hj2 : j < fss.length
              · have HFJ := hid (HEJ.out.trans (firstOne_drop p n o fss j hj2))
                obtain ⟨b2, off2, fa, fc, rfl, hlt2, e0, hpf⟩ := vl_at HVL.out j hj2
                generalize fss.getD j [] = f at e0 hpf HFJ
                have HPF := hid (hpf.below HBW.out)
                obtain ⟨_, bx0, bx1, bx2, bx3⟩ := HBX.out
                have KEEP : Hid (∀ W, Below w1.heap.size w1 W → (Hid (Below w1.heap.size w1 W) ∧ W.cell? ⟨w.heap.size, 0, none⟩ = some (.int .i64 p) ∧ W.cell? ⟨w.heap.size, 1, none⟩ = some (.int .i64 n) ∧ W.cell? ⟨w.heap.size, 2, none⟩ = some (.int .i64 o) ∧ W.cell? ⟨w.heap.size, 3, none⟩ = some (.int .i64 v) ∧ W.cell? ⟨b, off + k, none⟩ = some (.slice (some ⟨b2, off2, none⟩) fss.length vc) ∧ W.cell? ⟨b2, off2 + j, none⟩ = some (.slice fa f.length fc))) :=
                  fun W hb => ⟨hb, cell_keep bx0 hb, cell_keep bx1 hb, cell_keep bx2 hb, cell_keep bx3 hb, cell_keep (cell_keep c0 HBW.out) hb, cell_keep (cell_keep e0 HBW.out) hb⟩
                have HB0 : Hid (Below w1.heap.size w1 wr.drew) := HBM.out.drew
                clear bx0 bx1 bx2 bx3 e0 hpf
                go_wp2_with fail
                go_region_held (fun W => Hid (Below w1.heap.size w1 W) ∧ W.cell? ⟨w.heap.size, 0, none⟩ = some (.int .i64 p) ∧ W.cell? ⟨w.heap.size, 1, none⟩ = some (.int .i64 n) ∧ W.cell? ⟨w.heap.size, 2, none⟩ = some (.int .i64 o) ∧ W.cell? ⟨w.heap.size, 3, none⟩ = some (.int .i64 v) ∧ W.cell? ⟨b, off + k, none⟩ = some (.slice (some ⟨b2, off2, none⟩) fss.length vc) ∧ W.cell? ⟨b2, off2 + j, none⟩ = some (.slice fa f.length fc))
                  (first | exact KEEP.out _ HB0.out | exact KEEP.out _ (HB0.out.trans (hb9.mono HB0.out.size)))
                  (first | (go_at_call 82; refine (checkOne_any p n o v _ f _ HP.out HN.out HO.out ?_).mono ?_; exact HPF.out.below HB0.out; rintro e w9 ⟨rfl, hb9⟩))
                have HB9 := hid (show Below w1.heap.size w1 w9 from HB0.out.trans (hb9.mono HB0.out.size))
                clear hb9
                cases hz : (errOne p n o f != 0)
                · have HZ : Hid (errOne p n o f = 0) := by simpa [Hid] using hz
                  go_wp2_with fail
                  go_roundw
                  case rel => exact ⟨j + 1, by omega, by go_num, by rw [HFJ.out, if_pos HZ.out], HB9.out⟩
                  case measure => simp [intOf]; omega
                · have HZ : Hid (errOne p n o f ≠ 0) := by simpa [Hid] using hz
                  go_wp2_with fail
                  go_ret
                  exact ⟨ret_int (by
                    have h : firstOne p n o fss = errOne p n o f := by rw [HFJ.out, if_neg HZ.out]
                    rw [HER.out, HEV.out, h, if_neg HZ.out]), HBW.out.trans (HB9.out.mono HBW.out.size)⟩
              · have hz : firstOne p n o fss = 0 := by rw [HEJ.out, List.drop_eq_nil_of_le (by omega)]; rfl
                have HZ := hid hz
                clear hz
                go_wp2_with fail
                go_roundw
                case rel => exact ⟨k + 1, by omega, by go_num, by rw [HER.out, HEV.out, if_pos HZ.out], HBM.out⟩
                case measure => simp [intOf]; omega
          · have HEV : Hid (errVec p n o rank fss = 1) := by show _ = _; unfold errVec; rw [if_pos (by simpa using hln)]
            go_wp2_with fail
            go_ret
            exact ⟨ret_int (by rw [HER.out, HEV.out]; simp), HBW.out.trans (HBR.out.mono HBW.out.size)⟩
        · go_wp2
          go_ret
          exact ⟨ret_int (by rw [HER0.out, List.drop_eq_nil_of_le (by omega)]; rfl), HBW.out.trans (HBR.out.mono HBW.out.size)⟩

set_option maxRecDepth 100000 in
set_option maxHeartbeats 1000000 in
theorem checkVectors_any (p n o v rank : Int) (lv : Value) (vss : List (List (List Tm))) (w : World) (hs : Wl w lv vss) :
    Calls Try.prog 47 #[ringV p n o v, .int .i64 rank, lv] w fun e w' => e = .returned (.int .i64 (errVecs p n o v rank vss)) ∧ Below w.heap.size w w' := by
  have HS := hid hs
  obtain ⟨la, lc, rfl, _⟩ := hs
  cases hR : (errR p n o v == 0)
  · have HE : Hid (errVecs p n o v rank vss = errR p n o v) := by show _ = _; unfold errVecs; rw [if_pos (by simpa using hR)]
    rw [HE.out]
    go_enter Try.func47, Try.ntmps47
    go_wp2_with (go_at_call 33; refine (checkRing_any _ _ _ _ _).mono ?_; rintro e w1 ⟨rfl, hb1⟩; have HB1 := hid (show Below w.heap.size w w1 from below_oneG.trans (hb1.mono (by simp))); clear hb1)
    go_ret
    exact ⟨rfl, HB1.out⟩
  · have hR0 : errR p n o v = 0 := by simpa using hR
    have HR := hid hR0
    have HE : Hid (errVecs p n o v rank vss = errList p n o rank vss) := by show _ = _; unfold errVecs; rw [if_neg (by simpa using hR0)]
    rw [HE.out]
    clear hR0
    go_enter Try.func47, Try.ntmps47
    go_wp2_with fail
    refine (checkRing_any _ _ _ _ _).mono ?_
    rw [HR.out]
    rintro e w1 ⟨rfl, hb1⟩
    have HB1 := hid (show Below w.heap.size w w1 from below_oneG.trans (hb1.mono (by simp)))
    obtain ⟨_, bx0, bx1, bx2, bx3⟩ := (BoxAt.new w p n o v 39).below hb1
    clear hb1
    go_wp2_with fail
    refine (checkList_any p n o v rank _ vss _ HR.out (HS.out.below HB1.out)).mono ?_
    rintro e w2 ⟨rfl, hb2⟩
    have HB2 := hid (HB1.out.trans (hb2.mono HB1.out.size))
    clear hb2
    go_wp2
    go_ret
    exact ⟨rfl, HB2.out⟩

end Go.Proofs.Ytkmjmmnnnbjghaa

/- CheckAlike of the reference. -/
namespace Go.Proofs.Ytkmjmmnnnbjghaa
set_option linter.unusedSimpArgs false
set_option linter.unusedVariables false
open Go.RowKit

def badR (fss : List (List Tm)) : Bool := !betweenB (fss.length : Int) 1 40
def unlV (m : Nat) (fss : List (List Tm)) : Bool := decide (fss.length ≠ m)
def errAlike (p n o v : Int) (vss : List (List (List Tm))) : Int :=
  if errR p n o v ≠ 0 then errR p n o v else if vss.any badR then 3 else if vss.any (unlV (vss.getD 0 []).length) then 1 else firstZ (firstOne p n o) vss
theorem unl_no {fss : List (List Tm)} {m : Nat} (h : ((fss.length : Int) != (m : Int)) = false) : unlV m fss = false := by
  have h1 : (fss.length : Int) = m := by simpa using h
  unfold unlV; exact decide_eq_false (by omega)
theorem unl_yes {fss : List (List Tm)} {m : Nat} (h : ((fss.length : Int) != (m : Int)) = true) : unlV m fss = true := by
  have h1 : ¬ (fss.length : Int) = m := by simpa using h
  unfold unlV; exact decide_eq_true (by omega)
theorem take_snocV {α : Type} (l : List (List α)) (k : Nat) (h : k < l.length) : l.take (k + 1) = l.take k ++ [l.getD k []] := by
  rw [List.take_succ_eq_append_getElem h]; simp [List.getD_eq_getElem?_getD, h]
theorem any_takeV {α : Type} (f : List α → Bool) (l : List (List α)) (k : Nat) (h : k < l.length) (h0 : (l.take k).any f = false) (h1 : f (l.getD k []) = false) : (l.take (k + 1)).any f = false := by
  rw [take_snocV _ _ h, List.any_append, h0]; simpa using h1
theorem getD_memV {α : Type} (l : List (List α)) (k : Nat) (h : k < l.length) : l.getD k [] ∈ l := by
  rw [List.getD_eq_getElem?_getD, List.getElem?_eq_getElem h]; simp
theorem any_atV {α : Type} (f : List α → Bool) (l : List (List α)) (k : Nat) (h : k < l.length) (h1 : f (l.getD k []) = true) : l.any f = true := by
  rw [List.any_eq_true]; exact ⟨_, getD_memV l k h, h1⟩
theorem badR_len {vss : List (List (List Tm))} (h : vss.any badR = false) {f : List (List Tm)} (hf : f ∈ vss) : f.length ≤ 4000000 := by
  have h1 := List.any_eq_false.1 h f hf
  simp [badR, betweenB] at h1
  omega

set_option maxRecDepth 100000 in
set_option maxHeartbeats 4000000 in
theorem checkAlike_any (p n o v : Int) (lv : Value) (vss : List (List (List Tm))) (w : World) (hm : vss.length ≤ 1000) (hs : Wl w lv vss) :
    Calls Try.prog 40 #[ringV p n o v, lv] w fun e w' => e = .returned (.int .i64 (errAlike p n o v vss)) ∧ Below w.heap.size w w' := by
  have HS := hid hs
  obtain ⟨la, lc, rfl, _⟩ := hs
  cases hR : (errR p n o v != 0)
  · have hR0 : errR p n o v = 0 := by simpa using hR
    have HR := hid hR0
    have HE : Hid (errAlike p n o v vss = if vss.any badR then 3 else if vss.any (unlV (vss.getD 0 []).length) then 1 else firstZ (firstOne p n o) vss) := by show _ = _; unfold errAlike; rw [if_neg (by simpa using hR0)]
    clear hR0
    go_enter Try.func40, Try.ntmps40
    go_wp2_with (go_at_call 33; refine (checkRing_any _ _ _ _ _).mono ?_; rintro e w1 ⟨rfl, hb1⟩; have HB1 := hid (show Below w.heap.size w w1 from below_oneG.trans (hb1.mono (by simp))); have HBX := hid ((BoxAt.new w p n o v 39).below hb1); clear hb1)
    have HS1 := hid (HS.out.below HB1.out)
    go_loopw [6] (fun i wr => ∃ k : Nat, k ≤ vss.length ∧ i = .int .i64 k ∧ (vss.take k).any badR = false ∧ wr = w1) (fun i _ => vss.length - (intOf i).toNat)
    case atStart => exact ⟨0, Nat.zero_le _, rfl, by simp, rfl⟩
    case round =>
      obtain ⟨k, hk, rfl, hnb, rfl⟩ := hrel
      have HNB := hid hnb
      clear hnb
      by_cases hk2 : k < vss.length
      · obtain ⟨b, off, va, vc, rfl, hlt, c0, _⟩ := wl_at HS1.out k hk2
        have H1 := hid (any_takeV badR vss k hk2 HNB.out)
        have H2 := hid (any_atV badR vss k hk2)
        generalize vss.getD k [] = fss at c0 H1 H2
        cases hbt : betweenB (fss.length : Int) 1 40
        · have HB : Hid (badR fss = true) := by show _ = _; unfold badR; rw [hbt]; rfl
          go_wp2_with (go_at_call 59; refine (between_any _ _ _ _).mono ?_; rw [hbt]; rintro e w' ⟨rfl, rfl⟩)
          go_ret
          exact ⟨ret_int (by rw [HE.out, if_pos (H2.out HB.out)]), HB1.out⟩
        · have HB : Hid (badR fss = false) := by show _ = _; unfold badR; rw [hbt]; rfl
          go_wp2_with (go_at_call 59; refine (between_any _ _ _ _).mono ?_; rw [hbt]; rintro e w' ⟨rfl, rfl⟩)
          go_roundw
          case rel => exact ⟨k + 1, by omega, by go_num, H1.out HB.out, by simp⟩
          case measure => simp [intOf]; omega
      · have HAB : Hid (vss.any badR = false) := by have h := HNB.out; rw [List.take_of_length_le (by omega)] at h; exact h
        have HE2 : Hid (errAlike p n o v vss = if vss.any (unlV (vss.getD 0 []).length) then 1 else firstZ (firstOne p n o) vss) := by show _ = _; rw [HE.out, if_neg (by rw [HAB.out]; simp)]
        clear HE HNB
        go_wp2_with fail
        go_loopw [7] (fun i wm => ∃ k : Nat, 1 ≤ k ∧ k ≤ 1001 ∧ i = .int .i64 k ∧ (vss.take k).any (unlV (vss.getD 0 []).length) = false ∧ Below wr.heap.size wr wm) (fun i _ => vss.length - (intOf i).toNat)
        case atStart =>
          refine ⟨1, Nat.le_refl _, by omega, rfl, ?_, Below.refl _ _⟩
          cases vss with
          | nil => simp
          | cons a l => simp [unlV]
        case round =>
          obtain ⟨k2, hk1, hk1b, rfl, hnu, hbm⟩ := hrel
          have HNU := hid hnu
          have HBM := hid hbm
          clear hnu hbm
          by_cases hk3 : k2 < vss.length
          · obtain ⟨b, off, va, vc, hla, hlt, c0, _⟩ := wl_at HS1.out k2 hk3
            obtain ⟨b2, off2, va2, vc2, hla2, hlt2, d0, _⟩ := wl_at HS1.out 0 (by omega)
            have H1 := hid (any_takeV (unlV (vss.getD 0 []).length) vss k2 hk3 HNU.out)
            have H2 := hid (any_atV (unlV (vss.getD 0 []).length) vss k2 hk3)
            subst hla
            simp only [Option.some.injEq, Addr.mk.injEq, and_true] at hla2
            obtain ⟨e1, e2⟩ := hla2
            subst e1
            subst e2
            generalize vss.getD k2 [] = fss at c0 H1 H2
            generalize hgs : vss.getD 0 [] = gss at d0 H1 H2
            have k0 := cell_keep c0 HBM.out
            have k1 := cell_keep d0 HBM.out
            simp only [Nat.add_zero] at k1
            have hpos : 0 < vss.length := by omega
            clear c0 d0
            cases hun : ((fss.length : Int) != (gss.length : Int))
            · have HU : Hid (unlV gss.length fss = false) := unl_no hun
              go_wp2_with fail
              go_quiet (fail)
              have HQ1 := hid (below_drewN HBM.out nq)
              go_wp2
              go_roundw
              case rel => exact ⟨k2 + 1, by omega, by omega, by go_num, by first | exact H1.out HU.out | (rw [hgs]; exact H1.out HU.out), HQ1.out⟩
              case measure => simp [intOf]; omega
            · have HU : Hid (unlV gss.length fss = true) := unl_yes hun
              go_wp2_with fail
              go_quiet (fail)
              have HQ1 := hid (below_drewN HBM.out nq)
              go_wp2
              go_ret
              exact ⟨ret_int (by rw [HE2.out, hgs, if_pos (H2.out HU.out)]), HB1.out.trans (HQ1.out.mono HB1.out.size)⟩
          · have HAU : Hid (vss.any (unlV (vss.getD 0 []).length) = false) := by have h := HNU.out; rw [List.take_of_length_le (by omega)] at h; exact h
            have HE3 : Hid (errAlike p n o v vss = firstZ (firstOne p n o) vss) := by show _ = _; rw [HE2.out, if_neg (by rw [HAU.out]; simp)]
            clear HE2 HNU
            go_wp2_with fail
            obtain ⟨wo, hwo⟩ : ∃ wo, wo = wr := ⟨_, rfl⟩
            subst hwo
            have HDN2 := hid (HB1.out.trans (HBM.out.mono HB1.out.size))
            go_loopw [8] (fun i wm => ∃ k : Nat, k ≤ vss.length ∧ i = .int .i64 k ∧ firstZ (firstOne p n o) vss = firstZ (firstOne p n o) (vss.drop k) ∧ Below wo.heap.size wo wm) (fun i _ => vss.length - (intOf i).toNat)
            case atStart => exact ⟨0, Nat.zero_le _, rfl, rfl, Below.refl _ _⟩
            case round =>
              obtain ⟨k4, hk4, rfl, her, hbr⟩ := hrel
              have HBR := hid hbr
              have HER0 := hid her
              clear hbr her
              by_cases hk5 : k4 < vss.length
              · have HER := hid (HER0.out.trans (firstZ_drop (firstOne p n o) vss k4 hk5))
                have HD3 := hid (HBM.out.trans (HBR.out.mono HBM.out.size))
                obtain ⟨b, off, va, vc, rfl, hlt, c0, hvl⟩ := wl_at HS1.out k4 hk5
                have HFLs : Hid ((vss.getD k4 []).length ≤ 4000000) := badR_len HAB.out (getD_memV vss k4 hk5)
                generalize vss.getD k4 [] = fss at c0 hvl HER HFLs
                have HVL := hid (hvl.below HD3.out)
                obtain ⟨_, bx0, bx1, bx2, bx3⟩ := HBX.out.below HD3.out
                have k0 := cell_keep c0 HD3.out
                have KEEP : Hid (∀ W, Below wr.heap.size wr W → (Hid (Below wr.heap.size wr W) ∧ W.cell? ⟨w.heap.size, 0, none⟩ = some (.int .i64 p) ∧ W.cell? ⟨w.heap.size, 1, none⟩ = some (.int .i64 n) ∧ W.cell? ⟨w.heap.size, 2, none⟩ = some (.int .i64 o) ∧ W.cell? ⟨w.heap.size, 3, none⟩ = some (.int .i64 v) ∧ W.cell? ⟨b, off + k4, none⟩ = some (.slice va fss.length vc))) :=
                  fun W hb => ⟨hb, cell_keep bx0 hb, cell_keep bx1 hb, cell_keep bx2 hb, cell_keep bx3 hb, cell_keep k0 hb⟩
                have HB0 : Hid (Below wr.heap.size wr wr.drew) := (Below.refl _ _).drew
                have HEP : Hid (errPolys p n o v fss = firstOne p n o fss) := by show _ = _; unfold errPolys; rw [if_pos HR.out]
                clear bx0 bx1 bx2 bx3 c0 k0 hvl
                have hfl : fss.length ≤ 4000000 := HFLs.out
                go_wp2_with fail
                go_region_held (fun W => Hid (Below wr.heap.size wr W) ∧ W.cell? ⟨w.heap.size, 0, none⟩ = some (.int .i64 p) ∧ W.cell? ⟨w.heap.size, 1, none⟩ = some (.int .i64 n) ∧ W.cell? ⟨w.heap.size, 2, none⟩ = some (.int .i64 o) ∧ W.cell? ⟨w.heap.size, 3, none⟩ = some (.int .i64 v) ∧ W.cell? ⟨b, off + k4, none⟩ = some (.slice va fss.length vc))
                  (first | exact KEEP.out _ HB0.out | exact KEEP.out _ (HB0.out.trans (hb9.mono HB0.out.size)))
                  (first | (go_at_call 41; refine (checkPolys_any p n o v _ fss _ hfl ?_).mono ?_; exact HVL.out.below HB0.out; rw [HEP.out]; rintro e w9 ⟨rfl, hb9⟩))
                have HB9 := hid (show Below wr.heap.size wr w9 from HB0.out.trans (hb9.mono HB0.out.size))
                clear hb9
                cases hz : (firstOne p n o fss != 0)
                · have HZ : Hid (firstOne p n o fss = 0) := by simpa [Hid] using hz
                  go_wp2_with fail
                  go_roundw
                  case rel => exact ⟨k4 + 1, by omega, by go_num, by rw [HER.out, if_pos HZ.out], HBR.out.trans (HB9.out.mono HBR.out.size)⟩
                  case measure => simp [intOf]; omega
                · have HZ : Hid (firstOne p n o fss ≠ 0) := by simpa [Hid] using hz
                  go_wp2_with fail
                  go_ret
                  exact ⟨ret_int (by rw [HE3.out, HER.out, if_neg HZ.out]), HDN2.out.trans ((HBR.out.trans (HB9.out.mono HBR.out.size)).mono HDN2.out.size)⟩
              · go_wp2
                go_ret
                exact ⟨ret_int (by rw [HE3.out, HER0.out, List.drop_eq_nil_of_le (by omega)]; rfl), HDN2.out.trans (HBR.out.mono HDN2.out.size)⟩
  · have HE : Hid (errAlike p n o v vss = errR p n o v) := by show _ = _; unfold errAlike; rw [if_pos (by simpa using hR)]
    rw [HE.out]
    go_enter Try.func40, Try.ntmps40
    go_wp2_with (go_at_call 33; refine (checkRing_any _ _ _ _ _).mono ?_; rintro e w1 ⟨rfl, hb1⟩; have HB1 := hid (show Below w.heap.size w w1 from below_oneG.trans (hb1.mono (by simp))); clear hb1)
    go_ret
    exact ⟨rfl, HB1.out⟩

end Go.Proofs.Ytkmjmmnnnbjghaa

/- Plain mathematics: degrees of sums and products. -/
namespace Go.Proofs.Ytkmjmmnnnbjghaa
set_option linter.unusedSimpArgs false
set_option linter.unusedVariables false

theorem fold_mem {p o : Int} : ∀ (l out : List Tm) (x : Tm), x ∈ l.foldl (ins p o) out → (∃ y ∈ l, x.2 = y.2) ∨ ∃ u ∈ out, x.2 = u.2
  | [], out, x, h => Or.inr ⟨x, h, rfl⟩
  | t :: l, out, x, h => by
    rcases fold_mem l (ins p o out t) x h with ⟨y, hy, e⟩ | ⟨u, hu, e⟩
    · exact Or.inl ⟨y, by simp [hy], e⟩
    · rcases ins_mem hu with e2 | ⟨y, hy, e2⟩
      · exact Or.inl ⟨t, by simp, by rw [e, e2]⟩
      · exact Or.inr ⟨y, hy, by rw [e, e2]⟩
theorem col_mem {p o : Int} {l : List Tm} {x : Tm} (h : x ∈ colL p o l) : ∃ y ∈ l, x.2 = y.2 := by
  rcases fold_mem l [] x (List.mem_filter.1 h).1 with h | ⟨u, hu, _⟩
  · exact h
  · simp at hu
theorem ordS_sum {o : Int} {xs ys : List Int} (h : 0 < ordS o xs ys) : sumI ys ≤ sumI xs := by
  have h2 := cmpI_vals (sumI xs) (sumI ys)
  unfold ordS at h
  by_cases hz : cmpI (sumI xs) (sumI ys) = 0
  · omega
  · rw [if_neg hz] at h; omega
theorem topF_ge : ∀ (ts : List Tm) (m : Int), m ≤ topF m ts ∧ ∀ x ∈ ts, sumI x.2 ≤ topF m ts
  | [], m => ⟨Int.le_refl _, fun x hx => by simp at hx⟩
  | t :: ts, m => by
    have h := topF_ge ts (if m < sumI t.2 then sumI t.2 else m)
    simp only [topF]
    have hm : m ≤ (if m < sumI t.2 then sumI t.2 else m) ∧ sumI t.2 ≤ (if m < sumI t.2 then sumI t.2 else m) := by split <;> omega
    refine ⟨Int.le_trans hm.1 h.1, fun x hx => ?_⟩
    rcases List.mem_cons.1 hx with rfl | hx
    · exact Int.le_trans hm.2 h.1
    · exact h.2 x hx
theorem topF_le {B : Int} : ∀ (ts : List Tm) (m : Int), (∀ x ∈ ts, sumI x.2 ≤ B) → m ≤ B → topF m ts ≤ B
  | [], m, _, hm => hm
  | t :: ts, m, h, hm => by
    simp only [topF]
    refine topF_le ts _ (fun x hx => h x (by simp [hx])) ?_
    have := h t (by simp)
    split <;> omega
theorem great_small {ts : List Tm} (h : ∀ x ∈ ts, sumI x.2 ≤ 200) : greatB ts = decide (2000 < ts.length) := by
  unfold greatB
  have := topF_le ts (-1) h (by omega)
  rw [decide_eq_false (by omega), Bool.false_or]
theorem great_large {ts : List Tm} {x : Tm} (hx : x ∈ ts) (h : 200 < sumI x.2) : greatB ts = true := by
  unfold greatB
  have := (topF_ge ts (-1)).2 x hx
  rw [decide_eq_true (by omega), Bool.true_or]
theorem right_head {p o : Int} {N : Nat} {t : Tm} {ts : List Tm} (h : Canon p o N (t :: ts)) : ∀ x ∈ t :: ts, sumI x.2 ≤ sumI t.2 := by
  intro x hx
  rcases List.mem_cons.1 hx with rfl | hx
  · exact Int.le_refl _
  · exact ordS_sum (h.falls.1 x hx)
theorem prod_deg {p o : Int} {N : Nat} {t u : Tm} {f g : List Tm} (hf : Canon p o N (t :: f)) (hg : Canon p o N (u :: g)) : ∀ x ∈ colL p o (prodL p (t :: f) (u :: g)), sumI x.2 ≤ sumI t.2 + sumI u.2 := by
  intro x hx
  obtain ⟨y, hy, e⟩ := col_mem hx
  simp only [Go.Proofs.Ytkmjmmnnnbjghaa.prodL, prodT, List.mem_flatMap, List.mem_map] at hy
  obtain ⟨a, ha, b, hb, rfl⟩ := hy
  rw [e]
  simp only
  rw [sumI_zip _ _ (by rw [hf.len a ha, hg.len b hb])]
  have h1 := right_head hf a ha
  have h2 := right_head hg b hb
  omega
theorem prod_lead {p o : Int} {N : Nat} (he : errP p = 0) {t u : Tm} {f g : List Tm} (hf : Canon p o N (t :: f)) (hg : Canon p o N (u :: g)) : ∃ x ∈ colL p o (prodL p (t :: f) (u :: g)), x.2 = zipI (· + ·) t.2 u.2 := by
  apply Classical.byContradiction
  intro hno
  have hz : lin (delta (zipI (· + ·) t.2 u.2)) (colL p o (prodL p (t :: f) (u :: g))) = 0 := lin_delta_none (fun x hx e => hno ⟨x, hx, e⟩)
  have hl := lin_col p o (delta (zipI (· + ·) t.2 u.2)) (prodL p (t :: f) (u :: g))
  rw [hz] at hl
  have lt := hf.len t (by simp)
  have lu := hg.len u (by simp)
  have e0 : prodL p (t :: f) (u :: g) = (t.1 * u.1 % p, zipI (· + ·) t.2 u.2) :: (prodT p t g ++ prodL p f (u :: g)) := rfl
  have hne : ∀ x ∈ prodT p t g ++ prodL p f (u :: g), x.2 ≠ zipI (· + ·) t.2 u.2 := by
    intro x hx e
    have pos : 0 < ordS o (zipI (· + ·) t.2 u.2) x.2 := by
      rcases List.mem_append.1 hx with hx | hx
      · simp only [prodT, List.mem_map] at hx
        obtain ⟨b, hb, rfl⟩ := hx
        have lb := hg.len b (by simp [hb])
        simp only
        rw [zip_comm t.2 u.2, zip_comm t.2 b.2, ordS_add o u.2 b.2 t.2 (by omega) (by omega)]
        exact hg.falls.1 b hb
      · simp only [Go.Proofs.Ytkmjmmnnnbjghaa.prodL, prodT, List.mem_flatMap, List.mem_map] at hx
        obtain ⟨a, ha, b, hb, rfl⟩ := hx
        have la := hf.len a (by simp [ha])
        have lb := hg.len b hb
        simp only
        have h1 : 0 < ordS o (zipI (· + ·) t.2 u.2) (zipI (· + ·) a.2 u.2) := by
          rw [ordS_add o t.2 a.2 u.2 (by omega) (by omega)]; exact hf.falls.1 a ha
        rcases List.mem_cons.1 hb with rfl | hb
        · exact h1
        · have h2 : 0 < ordS o (zipI (· + ·) a.2 u.2) (zipI (· + ·) a.2 b.2) := by
            rw [zip_comm a.2 u.2, zip_comm a.2 b.2, ordS_add o u.2 b.2 a.2 (by omega) (by omega)]; exact hg.falls.1 b hb
          exact ordS_trans o _ _ _ (by rw [zipI_len _ _ _ (by omega), zipI_len _ _ _ (by omega)]; omega) (by rw [zipI_len _ _ _ (by omega), zipI_len _ _ _ (by omega)]) h1 h2
    rw [e] at pos
    have := (ordS_zero o (zipI (· + ·) t.2 u.2) (zipI (· + ·) t.2 u.2) rfl).2 rfl
    omega
  rw [e0] at hl
  simp only [lin] at hl
  rw [lin_delta_none hne] at hl
  have h1 := prime_mulI he (hf.coef t (by simp)).1 (hf.coef t (by simp)).2 (hg.coef u (by simp)).1 (hg.coef u (by simp)).2
  have h2 : delta (zipI (· + ·) t.2 u.2) (zipI (· + ·) t.2 u.2) = 1 := by unfold delta; rw [if_pos rfl]
  rw [h2] at hl
  have h3 := dvd_neg hl
  have := Int.le_of_dvd (by omega) h3
  omega
/-- Too great: just if the degrees' sum is, or there are too many terms. -/
theorem great_prod {p o : Int} {N : Nat} (he : errP p = 0) {t u : Tm} {f g : List Tm} (hf : Canon p o N (t :: f)) (hg : Canon p o N (u :: g)) :
    greatB (colL p o (prodL p (t :: f) (u :: g))) = (decide (200 < sumI t.2 + sumI u.2) || decide (2000 < (colL p o (prodL p (t :: f) (u :: g))).length)) := by
  by_cases h : 200 < sumI t.2 + sumI u.2
  · obtain ⟨x, hx, e⟩ := prod_lead he hf hg
    rw [great_large hx (by rw [e, sumI_zip _ _ (by rw [hf.len t (by simp), hg.len u (by simp)])]; exact h), decide_eq_true h, Bool.true_or]
  · rw [great_small (fun x hx => by have := prod_deg hf hg x hx; omega), decide_eq_false h, Bool.false_or]
theorem great_none {p o : Int} {f g : List Tm} (h : f = [] ∨ g = []) : colL p o (prodL p f g) = [] := by
  rcases h with rfl | rfl
  · rfl
  · have : prodL p f [] = [] := by
      unfold Go.Proofs.Ytkmjmmnnnbjghaa.prodL
      induction f with
      | nil => rfl
      | cons t f ih => simp [prodT]
    rw [this]; rfl
theorem sum_deg {p o : Int} {N : Nat} {f g : List Tm} (hf : Right p o N f) (hg : Right p o N g) : ∀ x ∈ colL p o (f ++ g), sumI x.2 ≤ 200 := by
  intro x hx
  obtain ⟨y, hy, e⟩ := col_mem hx
  rw [e]
  exact (List.mem_append.1 hy).elim (hf.deg y) (hg.deg y)

end Go.Proofs.Ytkmjmmnnnbjghaa
