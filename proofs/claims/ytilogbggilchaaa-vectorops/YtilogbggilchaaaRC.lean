/- Sum of the reference. -/
import Derived.Test.YtilogbggilchaaaRB
import Derived.Deep.RegionHeldLaw
import Derived.Maps.AppendAt
namespace Go.Proofs.Ytilogbggilchaaa
set_option linter.unusedSimpArgs false
set_option linter.unusedVariables false
open Go.RowKit
theorem append_types {P : Program} {w : World} {t u ty e : TypeId} {i : TypeInfo} {v x : Value} (ht : P.underlying t = some (.slice e)) (hu : P.underlying u = some (.slice e)) (hi : P.info? e = some i) :
    (Builtin.append_ #[t, u] ty #[v, x]).run P w = (Builtin.append_ #[t, t] ty #[v, x]).run P w := by
  cases v <;> simp [Builtin.append_, run_underlying ht, run_underlying hu, sizeOf, typeInfo, hi]
theorem run_append_tvsA {P : Program} (w : World) (base : Nat) (t t2 ty e : TypeId) (i : TypeInfo) (z : Value) (ht : P.underlying t = some (.slice e)) (ht2 : P.underlying t2 = some (.slice e)) (hi : P.info? e = some i) (hz : i.zero = some z) (hsize : i.size = 2) (hby : i.bytes = 32) (hzs : z.cells.size = 2)
    (v : Value) (n : Nat) (xs : List Value) (hown : w.ownsRow base e 2 v n xs) (us : List TV) (m : Nat) (hm : us.length = m) (ua : Option Addr) (uc : Nat)
    (hcs : 0 < m → ∃ b off, ua = some ⟨b, off, none⟩ ∧ ∀ j u, (flat us)[j]? = some u → w.cell? ⟨b, off + j, none⟩ = some u) (hone : ∀ u ∈ flat us, u.oneCell' = true) (hb : n + m ≤ 8000000) (hbase : base ≤ w.heap.size) :
    ∃ v' w', (Builtin.append_ #[t, t2] ty #[v, .slice ua m uc]).run P w = .ok v' w' ∧ w'.ownsRow base e 2 v' (n + m) (xs ++ flat us) ∧ w.grownBy w' v.ownBlock ∧ (v'.ownBlock = v.ownBlock ∨ v'.ownBlock = some w.heap.size) := by
  rw [append_types ht ht2 hi]
  subst hm
  by_cases h0 : 0 < us.length
  · obtain ⟨b, off, rfl, hc⟩ := hcs h0
    obtain ⟨v', w', hr, h2, h3, _, h5⟩ := run_append_own_at (P := P) w base t ty e i z 2 32 ht hi hz hsize hby hzs (by decide) v n xs hown ⟨b, off, none⟩ us.length uc (flat us) (flat_len us) (fun j u hj => by
      have := hc j u hj
      by_cases hj0 : j = 0
      · subst hj0; simpa [Addr.add] using this
      · simpa [Addr.add, hj0] using this) hone (bytesOk hb).1 (bytesOk hb).2 hbase
    exact ⟨v', w', hr, h2, h3, h5⟩
  · have e0 : us = [] := List.length_eq_zero_iff.1 (by omega)
    subst e0
    cases ua with
    | none => exact ⟨v, w, run_append_none_c w base t ty e i 2 ht hi v n uc xs hown, by simpa [flat] using hown, grown_refl _ _, Or.inl rfl⟩
    | some ad =>
      obtain ⟨v', w', hr, h2, h3, _, h5⟩ := run_append_own_at (P := P) w base t ty e i z 2 32 ht hi hz hsize hby hzs (by decide) v n xs hown ad 0 uc [] (by simp) (fun j u hj => by simp at hj) (fun u hu => by simp at hu) (bytesOk hb).1 (bytesOk hb).2 hbase
      exact ⟨v', w', hr, h2, h3, h5⟩
theorem step_append_tvsA {P : Program} {ops : Array Oper} {o : Oper} {a : Act} {w : World} {K : Act → World → Prop} {Q : Exit → Act → World → Prop} {E : Prop} (hgd : o.guard = none) (s x : Operand) (t t2 : TypeId)
    (ho : o.op = .call { callee := .builtin .append, args := #[s, x], argTypes := #[t, t2] })
    (base : Nat) (e : TypeId) (i : TypeInfo) (z : Value) (ht : P.underlying t = some (.slice e)) (ht2 : P.underlying t2 = some (.slice e)) (hi : P.info? e = some i) (hz : i.zero = some z) (hsize : i.size = 2) (hby : i.bytes = 32) (hzs : z.cells.size = 2)
    (v : Value) (n : Nat) (xs : List Value) (hs : a.eval s = v) (hown : w.ownsRow base e 2 v n xs) (us : List TV) (m : Nat) (hm : us.length = m) (ua : Option Addr) (uc : Nat) (hx : a.eval x = .slice ua m uc)
    (hcs : 0 < m → ∃ b off, ua = some ⟨b, off, none⟩ ∧ ∀ j u, (flat us)[j]? = some u → w.cell? ⟨b, off + j, none⟩ = some u) (hone : ∀ u ∈ flat us, u.oneCell' = true) (hb : n + m ≤ 8000000) (hbase : base ≤ w.heap.size)
    (hK : ∀ v' w', w'.ownsRow base e 2 v' (n + m) (xs ++ flat us) → w.grownBy w' v.ownBlock → (v'.ownBlock = v.ownBlock ∨ v'.ownBlock = some w.heap.size) → K (a.put o.dst v') w') :
    if Region.wanted o (yielded ops a.tmps) = true then Oper.wp P o a w K Q else E := by
  have hw : Region.wanted o (yielded ops a.tmps) = true := by simp [Region.wanted, hgd]
  rw [if_pos hw]
  obtain ⟨v', w', hr, h2, h3, h4⟩ := run_append_tvsA (P := P) w base t t2 o.type e i z ht ht2 hi hz hsize hby hzs v n xs hown us m hm ua uc hcs hone hb hbase
  unfold Oper.wp execOp
  simp only [ho, resolve, invoke, builtin, Sem.run_bind, Sem.run_pure, Result.andThen_ok, List.map_toArray, List.map_cons, List.map_nil, hs, hx, hr]
  exact hK v' w' h2 h3 h4
set_option maxHeartbeats 1000000 in
theorem putTimesO_any (xs ys : List Int) (b off cap b2 off2 cap2 : Nat) (w : World) (hm : xs.length ≤ 3) (hxy : xs.length = ys.length)
    (hbx : ∀ x ∈ xs, 0 ≤ x ∧ x ≤ 200) (hby : ∀ x ∈ ys, 0 ≤ x ∧ x ≤ 200) (hlt : b < w.heap.size) (hlt2 : b2 < w.heap.size) (hc : IntsAt w b off xs) (hc2 : IntsAt w b2 off2 ys) :
    Calls Try.prog 69 #[.slice (some ⟨b, off, none⟩) xs.length cap, .slice (some ⟨b2, off2, none⟩) ys.length cap2, .int .i64 1] w fun e w' =>
      ∃ u, e = .returned u ∧ w'.ownsRow w.heap.size 3 1 u (zipI (· + ·) xs ys).length ((zipI (· + ·) xs ys).map (Value.int .i64)) ∧ Below w.heap.size w w' := by
  have HC := hid hc
  have HC2 := hid hc2
  have HBX := hid hbx
  have HBY := hid hby
  have HLZ := hid (zipI_len (· + ·) xs ys hxy)
  rw [← hxy]
  have HXY := hid hxy
  clear hc hc2 hbx hby hxy
  obtain ⟨i0, hi, hz0, hz1, hz2⟩ := info_parts Try.info_int
  go_enter Try.func69, Try.ntmps69
  go_wp2
  go_loopw [7, 8] (fun v i wr => ∃ k : Nat, k ≤ xs.length ∧ i = .int .i64 k ∧ wr.ownsRow w.heap.size 3 1 v k (((zipI (· + ·) xs ys).take k).map (Value.int .i64)) ∧ Below w.heap.size w wr) (fun _ i _ => xs.length - (intOf i).toNat)
  case atStart => exact ⟨0, Nat.zero_le _, rfl, World.ownsRow_nil _ _ _ _, Below.refl _ _⟩
  case round =>
    obtain ⟨k, hk, rfl, hown, hbr⟩ := hrel
    have HOWN := hid hown
    have HBR := hid hbr
    by_cases hk2 : k < xs.length
    · have hcell := HC.out k hk2
      have hcell2 := HC2.out k (by rw [← HXY.out]; exact hk2)
      have HZ := hid (zipI_at (· + ·) xs ys HXY.out k hk2)
      have hx := HBX.out _ (getD_mem xs k hk2)
      have hy := HBY.out _ (getD_mem ys k (by rw [← HXY.out]; exact hk2))
      generalize xs.getD k 0 = x at hcell HZ hx
      generalize ys.getD k 0 = y at hcell2 HZ hy
      rw [← hbr.cell (p := ⟨b, off + k, none⟩) hlt] at hcell
      rw [← hbr.cell (p := ⟨b2, off2 + k, none⟩) hlt2] at hcell2
      have hsz := hbr.size
      obtain ⟨hx1, hx2⟩ := hx
      obtain ⟨hy1, hy2⟩ := hy
      clear hown hbr
      go_wp2_with (at_builtin; refine wpList_append_own _ rfl _ _ 32 rfl w.heap.size 3 i0 (.int .i64 0) 1 8 Try.underlying32 hi hz0 hz1 hz2 rfl (by decide) _ _ _ rfl (HOWN.out.alloc _) ⟨wr.heap.size, 0, none⟩ 1 1 [.int .i64 (x + y)] rfl rfl (cell_one_new _ _ _) (one_cell1 _) (by unfold maxLen; omega) (by omega) (by simp; omega) ?_)
      intro v' w1 hown' hgrow _
      rw [← List.map_take] at hown'
      have R := put_step (zs := zipI (· + ·) xs ys) (by rw [HLZ.out]; exact hk2) (HZ.out.trans rfl) HBR.out HOWN.out hown' hgrow
      have R2 := hid R
      clear hown' hgrow R
      go_wp2
      go_roundw
      case rel => exact ⟨k + 1, by omega, by go_num, R2.out.1, R2.out.2⟩
      case measure => simp [intOf]; omega
    · go_wp2
      go_ret
      have e1 : k = (zipI (· + ·) xs ys).length := by rw [HLZ.out]; omega
      subst e1
      have h2 := HOWN.out
      rw [List.take_of_length_le (Nat.le_refl _)] at h2
      exact ⟨_, rfl, h2, HBR.out⟩


theorem putTimesO_sl (x y : Value) (xs ys : List Int) (w : World) (h0 : 0 < xs.length) (hm : xs.length ≤ 3) (hxy : xs.length = ys.length) (hbx : ∀ x ∈ xs, 0 ≤ x ∧ x ≤ 200) (hby : ∀ x ∈ ys, 0 ≤ x ∧ x ≤ 200) (hs : Sl w x xs) (hs2 : Sl w y ys) :
    Calls Try.prog 69 #[x, y, .int .i64 1] w fun e w' => ∃ u, e = .returned u ∧ w'.ownsRow w.heap.size 3 1 u (zipI (· + ·) xs ys).length ((zipI (· + ·) xs ys).map (Value.int .i64)) ∧ Below w.heap.size w w' := by
  obtain ⟨a, cap, rfl, h1⟩ := hs
  obtain ⟨a2, cap2, rfl, h2⟩ := hs2
  obtain ⟨b, off, rfl, hlt, hc⟩ := h1 h0
  obtain ⟨b2, off2, rfl, hlt2, hc2⟩ := h2 (by omega)
  exact putTimesO_any xs ys b off cap b2 off2 cap2 w hm hxy hbx hby hlt hlt2 hc hc2
def ApartO (r : Option Nat) (v : Value) : Prop := ∀ b off n c, v = .slice (some ⟨b, off, none⟩) n c → some b ≠ r
theorem grown_slO {w w' : World} {r : Option Nat} {v : Value} {xs : List Int} (h : w.grownBy w' r) (hs : Sl w v xs) (hne : ApartO r v) : Sl w' v xs := by
  obtain ⟨a, cap, rfl, h1⟩ := hs
  refine ⟨a, cap, rfl, fun hp => ?_⟩
  obtain ⟨b, off, rfl, hlt, hc⟩ := h1 hp
  exact ⟨b, off, rfl, Nat.lt_of_lt_of_le hlt h.size, fun i hi => h.cell (hc i hi) (hne b off _ _ rfl)⟩
structure Prd (N : Nat) (w1 wr : World) (v : Value) (ls : List TV) : Prop where
  own : wr.ownsRow w1.heap.size 34 2 v ls.length (flat ls)
  es : Es wr ls
  ap : ∀ t ∈ ls, ApartO v.ownBlock t.2.1
  ln : ∀ t ∈ ls, t.2.2.length = N
  below : Below w1.heap.size w1 wr
theorem Prd.next {N : Nat} {w1 wr w' : World} {v : Value} {ls : List TV} (h : Prd N w1 wr v ls) (hb : Below wr.heap.size wr w') : Prd N w1 w' v ls :=
  ⟨ownBlock_lt h.own hb, h.es.below hb, h.ap, h.ln, h.below.trans (hb.mono h.below.size)⟩
theorem Prd.add {N : Nat} {w1 wr w' : World} {v v' : Value} {ls : List TV} {t : TV} (hN : 0 < N) (h : Prd N w1 wr v ls) (hs : Sl wr t.2.1 t.2.2) (hl : t.2.2.length = N) (ha : ApartO v.ownBlock t.2.1)
    (hown : w'.ownsRow w1.heap.size 34 2 v' (ls.length + 1) (flat ls ++ flat [t])) (hg : wr.grownBy w' v.ownBlock) (hloc : v'.ownBlock = v.ownBlock ∨ v'.ownBlock = some wr.heap.size) : Prd N w1 w' v' (ls ++ [t]) := by
  have hall : ∀ u ∈ ls ++ [t], Sl wr u.2.1 u.2.2 ∧ ApartO v.ownBlock u.2.1 ∧ u.2.2.length = N := by
    intro u hu
    rcases List.mem_append.1 hu with hu | hu
    · exact ⟨h.es u hu, h.ap u hu, h.ln u hu⟩
    · rw [List.mem_singleton] at hu; subst hu; exact ⟨hs, ha, hl⟩
  refine ⟨by rw [flat_append, List.length_append]; exact hown, fun u hu => grown_slO hg (hall u hu).1 (hall u hu).2.1, fun u hu => ?_, fun u hu => (hall u hu).2.2, own_grown h.own h.below hg (Nat.le_refl _)⟩
  rcases hloc with e | e
  · rw [e]; exact (hall u hu).2.1
  · rw [e]
    intro b off n c hv hb
    obtain ⟨a, cap, hv2, h1⟩ := (hall u hu).1
    obtain ⟨b2, off2, hv3, hlt, _⟩ := h1 (by rw [(hall u hu).2.2]; exact hN)
    rw [hv2, hv3] at hv
    simp only [Value.slice.injEq, Option.some.injEq, Addr.mk.injEq] at hv hb
    omega
theorem own_apartO {w : World} {B : Nat} {T : TypeId} {s : Nat} {u v : Value} {n m : Nat} {xs ys : List Value} {W : World} {B2 : Nat} {T2 : TypeId} {s2 : Nat} (h : w.ownsRow B T s u n xs) (k : W.ownsRow B2 T2 s2 v m ys) (hB : W.heap.size ≤ B) : ApartO v.ownBlock u := by
  intro b off n c e hb
  have hu : u.ownBlock = some b := by rw [e]; rfl
  have h1 := (World.ownsRow.lt h b hu).1
  have h2 := (World.ownsRow.lt k b hb.symm).2
  omega
theorem prodL_take (p : Int) (fs gs : List Tm) (i : Nat) (h : i < fs.length) : prodL p (fs.take (i + 1)) gs = prodL p (fs.take i) gs ++ prodT p (fs.getD i noT) gs := by
  rw [List.take_succ_eq_append_getElem h, prodL_append]
  congr 1
  simp [Go.Proofs.Ytilogbggilchaaa.prodL, List.getD_eq_getElem?_getD, h]
theorem prodT_snoc (p : Int) (t : Tm) (gs : List Tm) (k : Nat) (h : k < gs.length) : prodT p t (gs.take (k + 1)) = prodT p t (gs.take k) ++ [(t.1 * (gs.getD k noT).1 % p, zipI (· + ·) t.2 (gs.getD k noT).2)] := by
  rw [List.take_succ_eq_append_getElem h]
  unfold prodT
  rw [List.map_append]
  congr 1
  simp [List.getD_eq_getElem?_getD, h]
theorem prodL_len (p : Int) (fs gs : List Tm) : (prodL p fs gs).length = fs.length * gs.length := by
  induction fs with
  | nil => simp [Go.Proofs.Ytilogbggilchaaa.prodL]
  | cons t fs ih =>
    have e : prodL p (t :: fs) gs = prodT p t gs ++ prodL p fs gs := rfl
    rw [e, List.length_append, ih]
    simp [prodT, Nat.add_mul]; omega
theorem prodL_tok {p : Int} {N : Nat} (hp : 2 ≤ p) {fs gs : List Tm} (lf : Len N fs) (lg : Len N gs) (bf : Bd2 fs) (bg : Bd2 gs) : ∀ t ∈ prodL p fs gs, Tok p N t := by
  intro t ht
  simp only [Go.Proofs.Ytilogbggilchaaa.prodL, prodT, List.mem_flatMap, List.mem_map] at ht
  obtain ⟨a, ha, b, hb, rfl⟩ := ht
  refine ⟨by simp only; rw [zipI_len _ _ _ (by rw [lf a ha, lg b hb])]; exact lf a ha, zip_bd _ _ (bf a ha) (bg b hb), Int.emod_nonneg _ (by omega), Int.emod_lt_of_pos _ (by omega)⟩
theorem two_len_mul {i k a b : Nat} (hi : i < a) (hk : k ≤ b) (ha : a ≤ 2000) (hb : b ≤ 2000) : i * b + k ≤ 4000000 := by
  have h1 : (i + 1) * b ≤ 2000 * 2000 := Nat.mul_le_mul (by omega) hb
  rw [Nat.add_mul] at h1; omega
end Go.Proofs.Ytilogbggilchaaa
