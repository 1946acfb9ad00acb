/- What DivideOf of the reference needs: memory, bounds. -/
import Derived.Test.YtkmjmmnnnbjghaaGreatZP
namespace Go.Proofs.YtkmjmmnnnbjghaaGreat
set_option linter.unusedSimpArgs false
set_option linter.unusedVariables false
open Go.RowKit

theorem PRow.mono {B B' : Nat} {w : World} {v : Value} {us : List Value} {fss : List (List Tm)} (h : PRow B' w v us fss) (hb : B ≤ B') : PRow B w v us fss := ⟨h.len, own_mono h.own hb, h.kind, h.pls⟩
/-- Where a list lies. -/
def vbk : Value → Option Nat
  | .slice (some a) _ _ => some a.block
  | _ => none
theorem Vl.far {w w' : World} {g : Nat} {x : Value} {fss : List (List Tm)} (h : Vl w x fss) (hk : SlK w g) (hg : w.grownBy w' (some g)) (hne : vbk x ≠ some g) : Vl w' x fss := by
  obtain ⟨a, c, rfl, h⟩ := h
  refine ⟨a, c, rfl, fun hp => ?_⟩
  obtain ⟨b, off, rfl, hlt, hat⟩ := h hp
  have hb : b ≠ g := fun e => hne (by simp [vbk, e])
  refine ⟨b, off, rfl, Nat.lt_of_lt_of_le hlt hg.size, fun i hi => ?_⟩
  obtain ⟨v, hc, hpl⟩ := hat i hi
  exact ⟨v, by rw [cell_far hg hlt hb]; exact hc, pl_keep hk hg hpl⟩
theorem PRow.far {B : Nat} {w w' : World} {g : Nat} {v : Value} {us : List Value} {fss : List (List Tm)} (h : PRow B w v us fss) (hk : SlK w g) (hg : w.grownBy w' (some g)) (hne : v.ownBlock ≠ some g) : PRow B w' v us fss := by
  refine ⟨h.len, h.own.kept hg (Or.inr hne), fun g2 h2 j u hu => ?_, fun i hi => pl_keep hk hg (h.pls i hi)⟩
  have hlt := (World.ownsRow.lt h.own g2 h2).2
  rw [cell_far hg hlt (fun e => hne (by rw [h2, e]))] at hu
  exact h.kind g2 h2 j u hu
theorem PRow.put {B : Nat} {w : World} {g c n : Nat} {us : List Value} {fss : List (List Tm)} {i : Nat} {u : Value} {f : List Tm} (h : PRow B w (.slice (some ⟨g, 0, none⟩) n c) us fss) (hn : n = fss.length) (hi : i < fss.length) (hu : Pl w u f) :
    PRow B (w.setCell ⟨g, i, none⟩ u) (.slice (some ⟨g, 0, none⟩) n c) (us.set i u) (fss.set i f) ∧ w.grownBy (w.setCell ⟨g, i, none⟩ u) (some g) := by
  subst hn
  have hk := h.kind g rfl
  obtain ⟨s1, s2⟩ := h.own.stored i u
  have huS : ∃ a n c, u = .slice a n c := by obtain ⟨a, c, e, _⟩ := hu; exact ⟨_, _, _, e⟩
  refine ⟨⟨by simp [h.len], by rw [List.length_set]; exact s1, fun g2 h2 => ?_, fun k hk2 => ?_⟩, s2⟩
  · simp only [Value.ownBlock, Option.some.injEq] at h2
    subst h2
    rcases h.own.2 with ⟨h', _⟩ | ⟨g', cap', cur, h', hb, hg, _⟩
    · simp at h'
    · simp only [Value.slice.injEq, Option.some.injEq, Addr.mk.injEq, and_true, true_and] at h'
      obtain ⟨rfl, rfl⟩ := h'
      have hcur := row_slk hg hk
      refine slk_row (heap_setCell_same w g i cur _ u hg) fun y hy => ?_
      rw [Array.mem_toList_iff] at hy
      rcases Array.mem_or_eq_of_mem_setIfInBounds hy with h9 | h9
      · exact hcur y (by rw [Array.mem_toList_iff]; exact h9)
      · rw [h9]; exact huS
  · rw [List.length_set] at hk2
    by_cases e : i = k
    · subst e
      have e1 : (us.set i u).getD i nilV = u := by simp [List.getD_eq_getElem?_getD, show i < us.length by rw [h.len]; exact hi]
      have e2 : (fss.set i f).getD i [] = f := by simp [List.getD_eq_getElem?_getD, hi]
      rw [e1, e2]; exact pl_keep hk s2 hu
    · have e1 : (us.set i u).getD k nilV = us.getD k nilV := by simp [List.getD_eq_getElem?_getD, List.getElem?_set_ne e]
      have e2 : (fss.set i f).getD k [] = fss.getD k [] := by simp [List.getD_eq_getElem?_getD, List.getElem?_set_ne e]
      rw [e1, e2]; exact pl_keep hk s2 (h.pls k hk2)
/-- Memory tells one list only. -/
theorem sl_uniq {w : World} {v : Value} {xs ys : List Int} (h : Sl w v xs) (k : Sl w v ys) : xs = ys := by
  obtain ⟨a, c, rfl, h⟩ := h
  obtain ⟨a2, c2, e, k⟩ := k
  simp only [Value.slice.injEq] at e
  obtain ⟨rfl, e, rfl⟩ := e
  apply List.ext_getElem?
  intro i
  by_cases hi : i < xs.length
  · obtain ⟨b, off, rfl, _, hc⟩ := h (by omega)
    obtain ⟨b2, off2, e3, _, hc2⟩ := k (by omega)
    simp only [Option.some.injEq, Addr.mk.injEq, and_true] at e3
    obtain ⟨rfl, rfl⟩ := e3
    have h1 := hc i hi
    have h2 := hc2 i (by omega)
    rw [h1] at h2
    simp only [Option.some.injEq, Value.int.injEq, true_and] at h2
    have hi2 : i < ys.length := by omega
    simp only [List.getD_eq_getElem?_getD, List.getElem?_eq_getElem hi, List.getElem?_eq_getElem hi2, Option.getD_some] at h2 ⊢
    rw [h2]
  · rw [List.getElem?_eq_none (by omega), List.getElem?_eq_none (by omega)]
theorem pl_uniq {w : World} {v : Value} {xs ys : List Tm} (h : Pl w v xs) (k : Pl w v ys) : xs = ys := by
  obtain ⟨a, c, rfl, _, h⟩ := h
  obtain ⟨a2, c2, e, _, k⟩ := k
  simp only [Value.slice.injEq] at e
  obtain ⟨rfl, e, rfl⟩ := e
  apply List.ext_getElem?
  intro i
  by_cases hi : i < xs.length
  · obtain ⟨b, off, rfl, _, hc⟩ := h (by omega)
    obtain ⟨b2, off2, e3, _, hc2⟩ := k (by omega)
    simp only [Option.some.injEq, Addr.mk.injEq, and_true] at e3
    obtain ⟨rfl, rfl⟩ := e3
    obtain ⟨h1, u1, h2, h3⟩ := hc i hi
    obtain ⟨k1, u2, k2, k3⟩ := hc2 i (by omega)
    rw [h1] at k1
    rw [h2] at k2
    simp only [Option.some.injEq, Value.int.injEq, true_and] at k1 k2
    subst k2
    have h4 := sl_uniq h3 k3
    have hi2 : i < ys.length := by omega
    simp only [List.getD_eq_getElem?_getD, List.getElem?_eq_getElem hi, List.getElem?_eq_getElem hi2, Option.getD_some] at k1 h4 ⊢
    exact congrArg some (Prod.ext k1 h4)
  · rw [List.getElem?_eq_none (by omega), List.getElem?_eq_none (by omega)]
theorem vl_uniq {w : World} {v : Value} {xs ys : List (List Tm)} (h : Vl w v xs) (k : Vl w v ys) : xs = ys := by
  obtain ⟨a, c, rfl, h⟩ := h
  obtain ⟨a2, c2, e, k⟩ := k
  simp only [Value.slice.injEq] at e
  obtain ⟨rfl, e, rfl⟩ := e
  apply List.ext_getElem?
  intro i
  by_cases hi : i < xs.length
  · obtain ⟨b, off, rfl, _, hc⟩ := h (by omega)
    obtain ⟨b2, off2, e3, _, hc2⟩ := k (by omega)
    simp only [Option.some.injEq, Addr.mk.injEq, and_true] at e3
    obtain ⟨rfl, rfl⟩ := e3
    obtain ⟨u1, h2, h3⟩ := hc i hi
    obtain ⟨u2, k2, k3⟩ := hc2 i (by omega)
    rw [h2] at k2
    simp only [Option.some.injEq] at k2
    subst k2
    have h4 := pl_uniq h3 k3
    have hi2 : i < ys.length := by omega
    simp only [List.getD_eq_getElem?_getD, List.getElem?_eq_getElem hi, List.getElem?_eq_getElem hi2, Option.getD_some] at h4 ⊢
    rw [h4]
  · rw [List.getElem?_eq_none (by omega), List.getElem?_eq_none (by omega)]
open Classical in
/-- How far it is to the end, out of memory. -/
noncomputable def msV (o ov : Int) (x : Value) (w : World) : Nat := if h : ∃ v, Vl w x v then dms o ov h.choose else 0
theorem msV_eq {o ov : Int} {x : Value} {w : World} {v : List (List Tm)} (h : Vl w x v) : msV o ov x w = dms o ov v := by
  unfold msV
  have he : ∃ v, Vl w x v := ⟨v, h⟩
  rw [dif_pos he, vl_uniq he.choose_spec h]
/-- What falls is not long. -/
theorem falls_neq {o : Int} : ∀ {f : List Tm}, Falls o f → f.Pairwise fun a b => a.2 ≠ b.2
  | [], _ => List.Pairwise.nil
  | t :: ts, h => List.Pairwise.cons (fun u hu e => by
      have h1 := h.1 u hu
      rw [e, (ordS_zero o u.2 u.2 rfl).2 rfl] at h1
      omega) (falls_neq h.2)
def idT (t : Tm) : Nat := ((t.2.getD 0 0) * 64016001 + ((t.2.getD 1 0) * 8001 + t.2.getD 2 0)).toNat
theorem canon_short {p o : Int} {N : Nat} (hN : N ≤ 3) {f : List Tm} (h : Canon p o N f) (hb : ∀ t ∈ f, ∀ x ∈ t.2, 0 ≤ x ∧ x ≤ 8000) : f.length ≤ 600000000000 := by
  have hg : ∀ t ∈ f, ∀ i, 0 ≤ t.2.getD i 0 ∧ t.2.getD i 0 ≤ 8000 := fun t ht i => by
    by_cases hi : i < t.2.length
    · rw [List.getD_eq_getElem?_getD, List.getElem?_eq_getElem hi]; exact hb t ht _ (List.getElem_mem hi)
    · rw [List.getD_eq_getElem?_getD, List.getElem?_eq_none (by omega)]; simp
  have hn : (f.map idT).Nodup := by
    rw [List.nodup_iff_pairwise_ne, List.pairwise_map]
    refine List.Pairwise.imp_of_mem (R := fun a b : Tm => a.2 ≠ b.2) (fun {a b} ha hb2 hne e => hne ?_) (falls_neq h.falls)
    have a0 := hg a ha 0; have a1 := hg a ha 1; have a2 := hg a ha 2
    have b0 := hg b hb2 0; have b1 := hg b hb2 1; have b2 := hg b hb2 2
    have la := h.len a ha
    have lb := h.len b hb2
    unfold idT at e
    have e0 : a.2.getD 0 0 = b.2.getD 0 0 ∧ a.2.getD 1 0 = b.2.getD 1 0 ∧ a.2.getD 2 0 = b.2.getD 2 0 := by omega
    apply List.ext_getElem?
    intro i
    by_cases hi : i < N
    · have h3 : a.2.getD i 0 = b.2.getD i 0 := by
        have : i = 0 ∨ i = 1 ∨ i = 2 := by omega
        rcases this with rfl | rfl | rfl
        · exact e0.1
        · exact e0.2.1
        · exact e0.2.2
      simp only [List.getD_eq_getElem?_getD, List.getElem?_eq_getElem (show i < a.2.length by omega), List.getElem?_eq_getElem (show i < b.2.length by omega), Option.getD_some] at h3 ⊢
      rw [h3]
    · rw [List.getElem?_eq_none (by omega), List.getElem?_eq_none (by omega)]
  have hb : ∀ x ∈ f.map idT, x < 600000000000 := fun x hx => by
    obtain ⟨t, ht, rfl⟩ := List.mem_map.1 hx
    have a0 := hg t ht 0; have a1 := hg t ht 1; have a2 := hg t ht 2
    unfold idT
    omega
  have := nodup_le _ _ hn hb
  rwa [List.length_map] at this
theorem le_sumI : ∀ {xs : List Int}, (∀ x ∈ xs, 0 ≤ x) → ∀ x ∈ xs, x ≤ sumI xs
  | [], _, x, hx => by simp at hx
  | y :: ys, h, x, hx => by
    have h0 := h y (by simp)
    have h1 := sumI_nn (xs := ys) fun z hz => h z (by simp [hz])
    simp only [sumI]
    rcases List.mem_cons.1 hx with rfl | hx
    · omega
    · have := le_sumI (xs := ys) (fun z hz => h z (by simp [hz])) x hx; omega
theorem vok_bd {p o ov : Int} {N R : Nat} (hx : RCx p o ov N R) {v : List (List Tm)} (h : Vok p o N (Dg ov) v) (hl : v.length = R) : ∀ f ∈ v, Canon p o N f ∧ (∀ t ∈ f, ∀ x ∈ t.2, 0 ≤ x ∧ x ≤ 8000) ∧ f.length ≤ 600000000000 := by
  intro f hf
  obtain ⟨i, hi, rfl⟩ := List.getElem_of_mem hf
  have e : v.getD i [] = v[i] := by simp [List.getD_eq_getElem?_getD, hi]
  rw [← e]
  have hd := (Dg_bd (ov := ov) hx.r i (by omega)).2
  have hb : ∀ t ∈ v.getD i [], ∀ x ∈ t.2, 0 ≤ x ∧ x ≤ 8000 := fun t ht x hx2 => by
    have h1 := h.nn i t ht
    have h2 := le_sumI h1 x hx2
    have h3 := h.deg i t ht
    exact ⟨h1 x hx2, by omega⟩
  exact ⟨h.canon i, hb, canon_short hx.n3 (h.canon i) hb⟩
theorem rgb_of {p o ov : Int} {N R : Nat} (hx : RCx p o ov N R) {v : List (List Tm)} (h : Vok p o N (Dg ov) v) (hl : v.length = R) : ∀ f ∈ v, Rgb p o N f := fun f hf => by
  obtain ⟨h1, h2, h3⟩ := vok_bd hx h hl f hf
  exact ⟨h1, fun t ht x hx => by have := h2 t ht x hx; omega, h3⟩
theorem sm_of {p o ov : Int} {N R : Nat} (hx : RCx p o ov N R) {v : List (List Tm)} (h : Vok p o N (Dg ov) v) (hl : v.length = R) : ∀ f ∈ v, Sm p N f := fun f hf => by
  obtain ⟨h1, h2, h3⟩ := vok_bd hx h hl f hf
  exact ⟨fun t ht => ⟨h1.len t ht, fun x hx => by have := h2 t ht x hx; omega, by have := h1.coef t ht; omega, (h1.coef t ht).2⟩, by omega⟩

theorem made_nil (L : Nat) : (madeCells (Value.cells (.slice none 0 0)) (L * 1)).toList = List.replicate L (.slice none 0 0) := by
  apply List.ext_getElem?
  intro i
  by_cases h : i < L
  · simp [madeCells, Value.cells, h, Nat.mod_one]
  · simp [madeCells, Value.cells, h]
theorem prow_made {w' : World} {B g n : Nat} (h : w'.ownsRow B 54 1 (.slice (some ⟨g, 0, none⟩) n n) n (madeCells (Value.cells (.slice none 0 0)) (n * 1)).toList) : PRow B w' (.slice (some ⟨g, 0, none⟩) n n) (List.replicate n (.slice none 0 0)) (List.replicate n []) := by
  rw [made_nil] at h
  refine ⟨by simp, by rw [List.length_replicate]; exact h, fun g2 h2 => ?_, fun i hi => ?_⟩
  · simp only [Value.ownBlock, Option.some.injEq] at h2
    subst h2
    rcases h.2 with ⟨h', _⟩ | ⟨g', cap', cur, h', hb, hg, hnc, hcm, hcs, htake⟩
    · simp at h'
    · simp only [Value.slice.injEq, Option.some.injEq, Addr.mk.injEq, and_true, true_and] at h'
      obtain ⟨rfl, rfl⟩ := h'
      refine slk_row hg fun u hu => ?_
      rw [List.take_of_length_le (by simp [hcs])] at htake
      rw [htake] at hu
      exact ⟨_, _, _, List.eq_of_mem_replicate hu⟩
  · rw [List.length_replicate] at hi
    have e1 : (List.replicate n (Value.slice none 0 0)).getD i nilV = .slice none 0 0 := by simp [List.getD_eq_getElem?_getD, hi]
    have e2 : (List.replicate n ([] : List Tm)).getD i [] = [] := by simp [List.getD_eq_getElem?_getD, hi]
    rw [e1, e2]; exact Pl.empty _
theorem prow_vbk {B : Nat} {w : World} {v : Value} {us : List Value} {fss : List (List Tm)} (h : PRow B w v us fss) : ∀ g, vbk v = some g → B ≤ g := by
  intro g hg
  rcases h.own.2 with ⟨rfl, _⟩ | ⟨g', cap', cur, rfl, hb, _⟩
  · simp [vbk] at hg
  · simp only [vbk, Option.some.injEq] at hg
    omega
/-- The worlds of DivideOf. -/
structure DoR (p o ov : Int) (N R : Nat) (lss : List (List (List Tm))) (w1 wr : World) (qa la : Nat) (x : Value) (s0 s : DS) : Prop where
  vl : Vl wr x s.v
  nq : vbk x ≠ some qa
  nl : vbk x ≠ some la
  q : ∃ uq, PRow w1.heap.size wr (.slice (some ⟨qa, 0, none⟩) lss.length lss.length) uq s.q
  l : ∃ ul, PRow w1.heap.size wr (.slice (some ⟨la, 0, none⟩) R R) ul s.l
  dv : Dv p o ov lss s0 s
  inv : DInv p o ov N R lss s
  below : Below w1.heap.size w1 wr
theorem dsV_none {o ov : Int} {lss : List (List (List Tm))} {j : Nat} {e : List Int} (h : dvI o ov lss j e = none) : dsV o ov lss j e = -1 := by unfold dsV; rw [h]
theorem dsV_some {o ov : Int} {lss : List (List (List Tm))} {j i : Nat} {e : List Int} (h : dvI o ov lss j e = some i) : dsV o ov lss j e = i := by unfold dsV; rw [h]
theorem dstep_none {p o ov : Int} {lss : List (List (List Tm))} {s : DS} {j : Nat} {t : Tm} (h : leadF o ov s.v s.v.length = some (j, t)) (hd : dvI o ov lss j t.2 = none) : dstep p o ov lss s = some ⟨sums p o s.v (atPl s.v.length j [(p - t.1, t.2)]), s.q, s.l.set j (s.l.getD j [] ++ [t])⟩ := by
  unfold dstep; rw [h]; simp only; rw [hd]
theorem dstep_some {p o ov : Int} {lss : List (List (List Tm))} {s : DS} {j i : Nat} {t : Tm} (h : leadF o ov s.v s.v.length = some (j, t)) (hd : dvI o ov lss j t.2 = some i) : dstep p o ov lss s = some ⟨sums p o s.v (prods p o [(p - (byT p t (ldT o ov (lss.getD i []))).1, (byT p t (ldT o ov (lss.getD i []))).2)] (lss.getD i [])), s.q.set i (s.q.getD i [] ++ [byT p t (ldT o ov (lss.getD i []))]), s.l⟩ := by
  unfold dstep; rw [h]; simp only; rw [hd]
theorem vbk_lt {w : World} {x : Value} {fss : List (List Tm)} (h : Vl w x fss) (h0 : 0 < fss.length) : ∀ g, vbk x = some g → g < w.heap.size := by
  intro g hg
  obtain ⟨a, c, rfl, h⟩ := h
  obtain ⟨b, off, rfl, hlt, _⟩ := h h0
  simp only [vbk, Option.some.injEq] at hg
  omega

set_option maxRecDepth 100000 in
set_option maxHeartbeats 2000000 in
theorem vsumF_any (p n o v : Int) (N : Nat) (x y : Value) (fss gss : List (List Tm)) (w : World) (hp : 2 ≤ p ∧ p ≤ 101) (ho : o = 1 ∨ o = 2) (hN0 : 0 < N) (hN : N ≤ 3) (hl : fss.length = gss.length) (hm : fss.length ≤ 1000) (hf : ∀ f ∈ fss, Sm p N f) (hg : ∀ g ∈ gss, Sm p N g) (pf : Vl w x fss) (pg : Vl w y gss) :
    Calls Tryz.prog 39 #[ringV p n o v, x, y] w fun e w' => ∃ u us, e = .returned u ∧ PRow w.heap.size w' u us (sums p o fss gss) ∧ Below w.heap.size w w' := by
  have HX := hid pf
  have HY := hid pg
  have HF := hid hf
  have HG := hid hg
  have HP := hid hp
  have HO := hid ho
  have HL := hid hl
  obtain ⟨ax, cx, rfl, _⟩ := pf
  obtain ⟨ay, cy, rfl, _⟩ := pg
  clear hf hg hp ho hl
  obtain ⟨w1, hw1⟩ : ∃ w1, w1 = w.alloc (.cells #[.int .i64 p, .int .i64 n, .int .i64 o, .int .i64 v] 23) := ⟨_, rfl⟩
  have hbx : BoxAt w1 w.heap.size p n o v := by rw [hw1]; exact BoxAt.new w p n o v _
  have hbw : Below w.heap.size w w1 := by rw [hw1]; exact below_oneG
  have HBX := hid hbx
  have HBW := hid hbw
  clear hbx hbw
  go_enter Tryz.func39, Tryz.ntmps39
  go_wp2_with fail
  rw [← hw1]
  clear hw1
  go_loopw [7, 8] (fun z i wr => ∃ (k : Nat) (us : List Value), k ≤ fss.length ∧ i = .int .i64 k ∧ PRow w1.heap.size wr z us ((sums p o fss gss).take k) ∧ Below w1.heap.size w1 wr) (fun _ i _ => fss.length - (intOf i).toNat)
  case atStart => exact ⟨0, [], Nat.zero_le _, rfl, PRow.nil _ _, Below.refl _ _⟩
  case round =>
    obtain ⟨k, us, hk, rfl, hrow, hbr⟩ := hrel
    have HROW := hid hrow
    have HBR := hid hbr
    obtain ⟨ys, hys⟩ : ∃ ys, (sums p o fss gss).take k = ys := ⟨_, rfl⟩
    have HTL : Hid (ys.length = k) := by show _ = _; rw [← hys, List.length_take, sums_len HL.out]; omega
    rw [hys] at hrow HROW
    have HYS := hid hys
    clear hys
    obtain ⟨za, zc, hz⟩ := own_sl hrow.own
    subst hz
    clear hrow hbr
    by_cases hk2 : k < fss.length
    · have hk3 : k < gss.length := by have := HL.out; omega
      obtain ⟨b, off, fa, fc, rfl, hlt, c0, hpf⟩ := vl_at HX.out k hk2
      obtain ⟨b2, off2, ga, gc, rfl, hlt2, d0, hpg⟩ := vl_at HY.out k hk3
      have hkI : (k : Int) < (gss.length : Int) := by omega
      have HDN := hid (HBW.out.trans (HBR.out.mono HBW.out.size))
      have HTS : Hid ((sums p o fss gss).take (k + 1) = ys ++ [colL p o (fss.getD k [] ++ gss.getD k [])]) := by
        show _ = _
        rw [← HYS.out, take_snocL _ _ (by rw [sums_len HL.out]; exact hk2), sums_at HL.out hk2]
      have HFG := hid (And.intro (HF.out _ (getD_memL fss k hk2)) (HG.out _ (getD_memL gss k hk3)))
      generalize fss.getD k [] = f at c0 hpf HTS HFG
      generalize gss.getD k [] = g at d0 hpg HTS HFG
      have HPF := hid (hpf.below HBW.out)
      have HPG := hid (hpg.below HBW.out)
      clear hpf hpg
      obtain ⟨_, bx0, bx1, bx2, bx3⟩ := HBX.out
      have KEEP : Hid (∀ W, Below w1.heap.size w1 W → (Hid (Below w1.heap.size w1 W) ∧ W.cell? ⟨w.heap.size, 0, none⟩ = some (.int .i64 p) ∧ W.cell? ⟨w.heap.size, 1, none⟩ = some (.int .i64 n) ∧ W.cell? ⟨w.heap.size, 2, none⟩ = some (.int .i64 o) ∧ W.cell? ⟨w.heap.size, 3, none⟩ = some (.int .i64 v) ∧ W.cell? ⟨b, off + k, none⟩ = some (.slice fa f.length fc) ∧ W.cell? ⟨b2, off2 + k, none⟩ = some (.slice ga g.length gc))) :=
        fun W hb => ⟨hb, cell_keep bx0 hb, cell_keep bx1 hb, cell_keep bx2 hb, cell_keep bx3 hb, cell_keep (cell_keep c0 HBW.out) hb, cell_keep (cell_keep d0 HBW.out) hb⟩
      have HB0 : Hid (Below w1.heap.size w1 wr.drew) := HBR.out.drew
      clear bx0 bx1 bx2 bx3 c0 d0
      go_wp2
      go_region_held_law (fun W => Hid (Below w1.heap.size w1 W) ∧ W.cell? ⟨w.heap.size, 0, none⟩ = some (.int .i64 p) ∧ W.cell? ⟨w.heap.size, 1, none⟩ = some (.int .i64 n) ∧ W.cell? ⟨w.heap.size, 2, none⟩ = some (.int .i64 o) ∧ W.cell? ⟨w.heap.size, 3, none⟩ = some (.int .i64 v) ∧ W.cell? ⟨b, off + k, none⟩ = some (.slice fa f.length fc) ∧ W.cell? ⟨b2, off2 + k, none⟩ = some (.slice ga g.length gc))
        (first | exact KEEP.out _ HB0.out | exact KEEP.out _ HB7.out | exact KEEP.out _ (HB6.out.trans (belowNew.mono HB6.out.size)) | exact KEEP.out _ HB6.out)
        (first
          | (refine step_append_prow rfl (.tmp 15) (.tmp 26) 25 rfl Tryz.underlying25 w1.heap.size (.slice za ys.length zc) us ys (by simp [Act.eval, Act.put]) (PR6.out.next belowNew) ⟨w6.heap.size, 0, none⟩ 1 (.slice ua6 (colL p o (f ++ g)).length uc6) (colL p o (f ++ g)) (HU6.out.below belowNew) (by simp [Act.eval, Act.put]) (one_newP _ _ _) (by rw [HTL.out]; omega) (Nat.le_trans HB6.out.size (by simp)) ?_; intro v7 w7 r1 r2; have HB7 := hid (show Below w1.heap.size w1 w7 from (PR6.out.next belowNew).grown (HB6.out.trans (belowNew.mono HB6.out.size)) r2 (Nat.le_refl _)); obtain ⟨va7, vc7, hv7⟩ := own_sl r1.own; rw [len_snoc] at hv7; subst hv7; have HR7 := hid r1; clear r1 r2)
          | (go_at_call 37; refine (refSum_any p n o v N _ _ f g _ HP.out HO.out hN0 hN HFG.out.1.1 HFG.out.2.1 ?_ ?_ ?_).mono ?_; (have h1 := HFG.out.1.2; have h2 := HFG.out.2.2; omega); exact HPF.out.below HB0.out; exact HPG.out.below HB0.out; rintro e w6 ⟨u6, rfl, hu6, hb6⟩; have PR6 := hid (HROW.out.next (((Below.refl wr.heap.size wr).drew).trans hb6)); have HB6 := hid (show Below w1.heap.size w1 w6 from HB0.out.trans (hb6.mono HB0.out.size)); have HU6 := hid hu6; obtain ⟨ua6, uc6, rfl, _, _⟩ := hu6; clear hb6))
      all_goals
        go_wp2
        first
          | exact ⟨⟨k + 1, us ++ [_], by omega, by go_num, by rw [HTS.out]; exact HR7.out, HB7.out⟩, by simp [intOf]; omega⟩
          | (go_roundw
             case rel => exact ⟨k + 1, us ++ [_], by omega, by go_num, by rw [HTS.out]; exact HR7.out, HB7.out⟩
             case measure => simp [intOf]; omega)
    · have e : k = fss.length := by omega
      subst e
      have HE : Hid (sums p o fss gss = ys) := by show _ = _; rw [← HYS.out, List.take_of_length_le (by rw [sums_len HL.out]; exact Nat.le_refl _)]
      have HV := hid (HROW.out.mono HBW.out.size)
      go_wp2
      go_ret
      exact ⟨_, us, rfl, by rw [HE.out]; exact HV.out, HBW.out.trans (HBR.out.mono HBW.out.size)⟩

end Go.Proofs.YtkmjmmnnnbjghaaGreat

/- The sum's take. -/
namespace Go.Proofs.YtkmjmmnnnbjghaaGreat
set_option linter.unusedSimpArgs false
set_option linter.unusedVariables false
open Go.RowKit

theorem OrdB.frm {S : Nat → Prop} {w w' : World} {ob : Nat} {p k0 k1 k2 : Int} {sv : Value} (h : OrdB w ob p k0 k1 k2 sv) (hf : Frm S w w') (hn : ¬ S ob) : OrdB w' ob p k0 k1 k2 sv :=
  ⟨Nat.lt_of_lt_of_le h.lt hf.size, hf.cell h.c0 hn, hf.cell h.c1 hn, hf.cell h.c2 hn, hf.cell h.c3 hn, hf.cell h.c4 hn⟩
theorem SumW.ob_apart {B : Nat} {w : World} {sb ob : Nat} {rv : Value} {us : List Value} {rows : List (List Ft)} {p k0 k1 k2 : Int} {sv : Value} (h : SumW B w sb ob rv us rows) (ho : OrdB w ob p k0 k1 k2 sv) : rv.ownBlock ≠ some ob := by
  intro e
  obtain ⟨_, _, _, h2⟩ := h.rws.kind ob e 0 _ ho.c0
  cases h2
theorem sum_bd (key : Int) {p : Int} (hp : 2 ≤ p ∧ p ≤ 101) : ∀ (rows : List (List Ft)), (∀ r ∈ rows, ∀ t ∈ r, 0 ≤ t.c ∧ t.c < p) → 0 ≤ tkS key rows ∧ tkS key rows ≤ 101 * rows.length
  | [], _ => by simp [tkS]
  | r :: rows, h => by
    have ih := sum_bd key hp rows fun r hr => h r (by simp [hr])
    have h1 : 0 ≤ tkC key r ∧ tkC key r ≤ 101 := by
      cases r with
      | nil => simp [tkC]
      | cons t ts =>
        have := h (t :: ts) (by simp) t (by simp)
        simp only [tkC]; split <;> omega
    simp only [tkS, List.map_cons, List.sum_cons, List.length_cons] at ih ⊢
    omega
/-- Rows of which the first ones are taken from. -/
def tkM (key : Int) (rows : List (List Ft)) (m : Nat) : List (List Ft) := tk key (rows.take m) ++ rows.drop m
theorem tkM_len (key : Int) (rows : List (List Ft)) (m : Nat) : (tkM key rows m).length = rows.length := by
  simp [tkM, tk]; omega
theorem tkM_at (key : Int) (rows : List (List Ft)) (m : Nat) (h : m < rows.length) : (tkM key rows m).getD m [] = rows.getD m [] := by
  have hl : (tk key (rows.take m)).length = m := by simp [tk]; omega
  unfold tkM
  rw [List.getD_eq_getElem?_getD, List.getElem?_append_right (by omega), hl, Nat.sub_self, List.getElem?_drop, Nat.add_zero, List.getD_eq_getElem?_getD]
theorem tkM_set (key : Int) (rows : List (List Ft)) (m : Nat) (h : m < rows.length) : (tkM key rows m).set m (tk1 key (rows.getD m [])) = tkM key rows (m + 1) := by
  have hl : (tk key (rows.take m)).length = m := by simp [tk]; omega
  have e : rows.getD m [] = rows[m] := by simp [List.getD_eq_getElem?_getD, h]
  unfold tkM
  rw [List.set_append_right _ _ (by omega), hl, Nat.sub_self, List.drop_eq_getElem_cons h, List.set_cons_zero, List.take_succ_eq_append_getElem h, e]
  unfold tk
  rw [List.map_append, List.append_assoc]; rfl
theorem tkS_succ (key : Int) (rows : List (List Ft)) (m : Nat) (h : m < rows.length) : tkS key (rows.take (m + 1)) = tkS key (rows.take m) + tkC key (rows.getD m []) := by
  have e : rows.getD m [] = rows[m] := by simp [List.getD_eq_getElem?_getD, h]
  rw [List.take_succ_eq_append_getElem h, e]
  unfold tkS
  rw [List.map_append, List.sum_append]
  simp only [List.map_cons, List.map_nil, List.sum_cons, List.sum_nil]; omega
theorem tkM_same (key : Int) (rows : List (List Ft)) (m : Nat) (h : m < rows.length) (he : tk1 key (rows.getD m []) = rows.getD m []) : tkM key rows (m + 1) = tkM key rows m := by
  rw [← tkM_set key rows m h, he]
  have := tkM_at key rows m h
  apply List.ext_getElem?
  intro i
  rw [List.getElem?_set]
  split
  · rename_i e
    subst e
    rw [tkM_len, if_pos h]
    have hl : m < (tkM key rows m).length := by rw [tkM_len]; exact h
    rw [← this, List.getD_eq_getElem?_getD, List.getElem?_eq_getElem hl]; rfl
  · rfl

/-- A slice below a block's number. -/
def VLt (L : Nat) (u : Value) : Prop := ∀ g, u.ownBlock = some g → g < L
/-- The rows with terms lie below a block's number. -/
def LocR (L : Nat) (us : List Value) (rows : List (List Ft)) : Prop := ∀ i, i < rows.length → rows.getD i [] ≠ [] → VLt L (us.getD i nilV)
theorem Fv.vlt {w : World} {v : Value} {fs : List Ft} (h : Fv w v fs) (hn : fs ≠ []) : VLt w.heap.size v := by
  obtain ⟨a, cap, rfl, _, h1⟩ := h
  obtain ⟨b, off, rfl, hlt, _⟩ := h1 (List.length_pos_iff.2 hn)
  intro g hg
  simp only [Value.ownBlock, Option.some.injEq] at hg
  omega
theorem SumW.loc {B : Nat} {w : World} {sb ob : Nat} {rv : Value} {us : List Value} {rows : List (List Ft)} (h : SumW B w sb ob rv us rows) : LocR w.heap.size us rows := fun i hi hn => (h.rws.fvs i hi).vlt hn
/-- A flat vector lies apart from a block. -/
theorem fv_far {w w' : World} {g L : Nat} {v : Value} {fs : List Ft} (h : Fv w v fs) (hg : w.grownBy w' (some g)) (hv : fs ≠ [] → VLt L v) (hL : L ≤ g) : Fv w' v fs := by
  obtain ⟨a, cap, rfl, hc, h1⟩ := h
  refine ⟨a, cap, rfl, hc, fun hp => ?_⟩
  obtain ⟨b, off, rfl, hlt, hcs⟩ := h1 hp
  have hb := hv (List.length_pos_iff.1 hp) b rfl
  exact ⟨b, off, rfl, Nat.lt_of_lt_of_le hlt hg.size, fun j u hj => by rw [cell_far hg hlt (by omega)]; exact hcs j u hj⟩
theorem SumW.far {B : Nat} {w w' : World} {sb ob g L : Nat} {rv : Value} {us : List Value} {rows : List (List Ft)} (h : SumW B w sb ob rv us rows) (hg : w.grownBy w' (some g)) (hl : LocR L us rows) (hL : L ≤ g) (hs : sb ≠ g) (hr : rv.ownBlock ≠ some g) : SumW B w' sb ob rv us rows :=
  ⟨World.ownsRow.kept h.box hg (Or.inr (by simpa [Value.ownBlock] using hs)), h.kind.below (hg.block sb h.lt.2 (by simpa using hs)),
    h.rws.len, World.ownsRow.kept h.rws.own hg (Or.inr hr), fun k hk => KdB.below (h.rws.kind k hk) (hg.block k (World.ownsRow.lt h.rws.own k hk).2 (fun e => hr (by rw [hk, e]))), fun i hi => fv_far (h.rws.fvs i hi) hg (hl i hi) hL⟩

/-- The worlds of take. -/
structure TkW (B L : Nat) (w wr : World) (sb ob : Nat) (rv : Value) (rows : List (List Ft)) : Prop where
  sum : ∃ us, SumW B wr sb ob rv us rows ∧ LocR L us rows
  frm : Frm (fun k => rv.ownBlock = some k) w wr
theorem TkW.next {B L : Nat} {w wr w' : World} {sb ob : Nat} {rv : Value} {rows : List (List Ft)} (h : TkW B L w wr sb ob rv rows) (hb : Below wr.heap.size wr w') : TkW B L w w' sb ob rv rows := by
  obtain ⟨us, hs, hl⟩ := h.sum
  exact ⟨⟨us, hs.next hb, hl⟩, h.frm.trans (Frm.of_below (S := fun _ => False) hb) fun _ _ h => h.elim⟩
theorem TkW.put {B L : Nat} {w wr : World} {sb ob g n c : Nat} {rows : List (List Ft)} (h : TkW B L w wr sb ob (.slice (some ⟨g, 0, none⟩) n c) rows) (i : Nat) (hi : i < rows.length) (u : Value) (f : List Ft) (hu : Fv wr u f) (hv : VLt L u) : TkW B L w (wr.setCell ⟨g, i, none⟩ u) sb ob (.slice (some ⟨g, 0, none⟩) n c) (rows.set i f) := by
  obtain ⟨us, hs, hl⟩ := h.sum
  have s := hs.put i hi u f hu
  refine ⟨⟨_, s.1, fun j hj hne => ?_⟩, h.frm.trans (Frm.of_grown (S := fun k => k = g) s.2 fun x e => by simpa using e.symm) fun x _ e => by subst e; rfl⟩
  rw [List.length_set] at hj
  rw [getD_set] at hne ⊢
  rw [hs.rws.len]
  by_cases e : i = j ∧ j < rows.length
  · rw [if_pos e]; exact hv
  · rw [if_neg e] at hne ⊢; exact hl j hj hne
theorem TkW.far {B L : Nat} {w wr w' : World} {sb ob g : Nat} {rv : Value} {rows : List (List Ft)} (h : TkW B L w wr sb ob rv rows) (hg : wr.grownBy w' (some g)) (hL : L ≤ g) (hw : w.heap.size ≤ g) (hs : sb < w.heap.size) (hr : ∀ k, rv.ownBlock = some k → k < w.heap.size) : TkW B L w w' sb ob rv rows := by
  obtain ⟨us, hs1, hl⟩ := h.sum
  exact ⟨⟨us, hs1.far hg hl hL (by omega) (fun e => by have := hr g e; omega), hl⟩, h.frm.trans (Frm.of_grown (S := fun k => k = g) hg fun x e => by simpa using e.symm) fun x hx e => by omega⟩

set_option maxRecDepth 100000 in
set_option maxHeartbeats 2000000 in
theorem take_any (B L sb ob : Nat) (p k0 k1 k2 key : Int) (sv rv : Value) (us : List Value) (rows : List (List Ft)) (w : World) (hs : SumW B w sb ob rv us rows) (hL : LocR L us rows) (hob : OrdB w ob p k0 k1 k2 sv) (hp : 2 ≤ p ∧ p ≤ 101) (hn : rows.length ≤ 1000) (hc : ∀ r ∈ rows, ∀ t ∈ r, 0 ≤ t.c ∧ t.c < p) :
    Calls Tryz.prog 102 #[.pointer (some ⟨sb, 0, none⟩), .int .i64 key] w fun e w' => e = .returned (.int .u8 (tkS key rows % p)) ∧ TkW B L w w' sb ob rv (tk key rows) := by
  have HS := hid hs
  have HOB := hid hob
  have HC := hid hc
  have HAP := hid (hs.ob_apart hob)
  have hq := sum_bd key hp rows hc
  have HBD := hid hq
  obtain ⟨hp0, hp1⟩ := hp
  have H0 : Hid (TkW B L w w sb ob rv (tkM key rows 0)) := by
    show TkW _ _ _ _ _ _ _ _
    have e : tkM key rows 0 = rows := by simp [tkM, tk]
    rw [e]; exact ⟨⟨us, hs, hL⟩, Frm.refl _ _⟩
  obtain ⟨q0, q1, q2⟩ := hs.cells
  obtain ⟨ra, rc, rfl⟩ := own_sl hs.rws.own
  clear hs hL hob hc hq
  go_enter Tryz.func102, Tryz.ntmps102
  go_wp2
  clear q0 q1 q2
  go_loopw [5, 13] (fun s i wr => ∃ m : Nat, m ≤ rows.length ∧ i = .int .i64 m ∧ s = .int .u32 (tkS key (rows.take m)) ∧ TkW B L w wr sb ob (.slice ra rows.length rc) (tkM key rows m)) (fun _ i _ => rows.length - (intOf i).toNat)
  case atStart => exact ⟨0, Nat.zero_le _, rfl, by simp [tkS], H0.out⟩
  case round =>
    clear H0
    obtain ⟨m, hm, rfl, rfl, ht⟩ := hrel
    have HT := hid ht
    obtain ⟨us1, hs1, hl1⟩ := ht.sum
    have HL1 := hid hl1
    have HS1 := hid hs1
    obtain ⟨x0, x1, x2⟩ := hs1.cells
    clear ht hs1 hl1
    by_cases hm2 : m < rows.length
    · have hml : m < (tkM key rows m).length := by rw [tkM_len]; exact hm2
      obtain ⟨g, c, e, _, hlt, z1, z2⟩ := HS1.out.rws.at m hml
      simp only [Value.slice.injEq] at e
      obtain ⟨rfl, _, rfl⟩ := e
      have hfv := HS1.out.rws.fvs m hml
      rw [tkM_at key rows m hm2] at hfv
      have HSET := hid (tkM_set key rows m hm2)
      have HSAME := hid (tkM_same key rows m hm2)
      have HSUC := hid (tkS_succ key rows m hm2)
      have hb0 := sum_bd key ⟨hp0, hp1⟩ (rows.take m) fun r hr => HC.out r (List.mem_of_mem_take hr)
      have hlm : ((rows.take m).length : Int) ≤ 1000 := by rw [List.length_take]; omega
      have hrow : ∀ t ∈ rows.getD m [], 0 ≤ t.c ∧ t.c < p := fun t ht => by
        rcases getD_mem_or rows m with h | h
        · rw [h] at ht; simp at ht
        · exact HC.out _ h t ht
      have hvl := HL1.out m hml
      rw [tkM_at key rows m hm2] at hvl
      generalize us1.getD m nilV = u at hfv z1 hvl
      generalize rows.getD m [] = row at hfv HSET HSAME HSUC hrow hvl
      generalize tkS key (rows.take m) = acc at HSUC hb0
      cases row with
      | nil =>
        obtain ⟨a, cap, rfl, _, _⟩ := hfv
        go_wp2
        go_roundw
        case rel => exact ⟨m + 1, by omega, by go_num, by rw [HSUC.out]; simp [tkC], by rw [HSAME.out rfl]; exact HT.out⟩
        case measure => simp [intOf]; omega
      | cons t ts =>
        obtain ⟨b, of2, cap, rfl, hcap, hlt2, hft, h1, h2⟩ := hfv.head
        obtain ⟨f0, f1, f2, f3, f4, f5, f6⟩ := hft
        have htc := hrow t (by simp)
        have hle : (1 : Int) ≤ (ts.length : Int) + 1 := by omega
        obtain ⟨A, hA, hplA⟩ := Fv.tail ⟨h1, h2⟩
        have HPA := hid hplA
        have HVA : Hid (VLt L (.slice (some A) ts.length (cap - 1))) := fun g hg => by
          have hb2 := hvl (by simp) b rfl
          simp only [Value.ownBlock, Option.some.injEq] at hg
          have : A.block = b := by
            by_cases hc1 : cap = 1
            · rw [if_pos hc1] at hA; simp only [Option.some.injEq] at hA; rw [← hA]
            · rw [if_neg hc1] at hA; simp only [Option.some.injEq] at hA; rw [← hA]
          omega
        clear hfv hrow h1 h2 hplA hvl
        by_cases hk : t.k = key
        · have w32 : IntKind.u32.wrap (acc + t.c) = acc + t.c := by rw [IntKind.wrap_u32]; omega
          have w32c : IntKind.u32.wrap t.c = t.c := by rw [IntKind.wrap_u32]; omega
          go_wp2
          go_region
          all_goals
            have HTD := hid (HT.out.next (Below.refl wr.heap.size wr).drew)
            have HP := hid (HTD.out.put m hml _ ts (HPA.out.below (Below.refl wr.heap.size wr).drew) HVA.out)
            go_wp2
            go_roundw
            case rel => exact ⟨m + 1, by omega, by go_num, by rw [HSUC.out]; simp [tkC, hk], by rw [← HSET.out]; simp only [tk1, if_pos hk]; exact HP.out⟩
            case measure => simp [intOf]; omega
        · have HK := hid hk
          go_wp2
          go_roundw
          case rel => exact ⟨m + 1, by omega, by go_num, by rw [HSUC.out]; simp [tkC, HK.out], by rw [HSAME.out (by simp [tk1, HK.out])]; exact HT.out⟩
          case measure => simp [intOf]; omega
    · have e : m = rows.length := by omega
      subst e
      have HO2 := hid (HOB.out.frm HT.out.frm HAP.out)
      have c0 := HO2.out.c0
      rw [List.take_of_length_le (Nat.le_refl _)]
      have HB2 := HBD.out
      have hm0 := Int.emod_nonneg (tkS key rows) (show p ≠ 0 by omega)
      have hm1 := Int.emod_lt_of_pos (tkS key rows) (show 0 < p by omega)
      have w8 : IntKind.u8.wrap (tkS key rows % p) = tkS key rows % p := by rw [IntKind.wrap_u8]; omega
      have hfin : tkM key rows rows.length = tk key rows := by simp [tkM]
      rw [hfin] at HT
      go_wp2
      go_ret
      exact ⟨rfl, HT.out⟩

end Go.Proofs.YtkmjmmnnnbjghaaGreat

/- The sum's Next. -/
namespace Go.Proofs.YtkmjmmnnnbjghaaGreat
set_option linter.unusedSimpArgs false
set_option linter.unusedVariables false
open Go.RowKit

def lenC : Option Value → Nat
  | some (.slice _ k _) => k
  | _ => 0
/-- How many terms the rows have, as memory tells it. -/
def cellLen (w : World) : Value → Nat
  | .slice (some ⟨b, off, _⟩) n _ => ((List.range n).map fun i => lenC (w.cell? ⟨b, off + i, none⟩)).sum
  | _ => 0
theorem tot_range (rows : List (List Ft)) : ((List.range rows.length).map fun i => (rows.getD i []).length).sum = tot rows := by
  unfold tot
  congr 1
  apply List.ext_getElem
  · simp
  · intro i h1 h2
    simp at h1
    simp [List.getD_eq_getElem?_getD, h1]
theorem RowsW.total {B : Nat} {w : World} {v : Value} {us : List Value} {rows : List (List Ft)} (h : RowsW B w v us rows) : cellLen w v = tot rows := by
  rcases h.own.2 with ⟨rfl, h0⟩ | ⟨g, cap, cur, rfl, _⟩
  · rw [List.length_eq_zero_iff] at h0
    subst h0; rfl
  · simp only [cellLen]
    rw [← tot_range rows]
    congr 1
    refine List.map_congr_left fun i hi => ?_
    rw [List.mem_range] at hi
    obtain ⟨g2, c2, e, _, _, hc, _⟩ := h.at i hi
    simp only [Value.slice.injEq, Option.some.injEq, Addr.mk.injEq, true_and, and_true] at e
    obtain ⟨rfl, _⟩ := e
    rw [Nat.zero_add, hc]
    obtain ⟨a, c, e2, _⟩ := h.fvs i hi
    rw [e2]; rfl
/-- The worlds of Next. -/
structure NxW (p : Int) (B : Nat) (w wr : World) (sb ob : Nat) (rv : Value) (rows cur : List (List Ft)) : Prop where
  tk : TkW B w.heap.size w wr sb ob rv cur
  res : Bx w.heap.size wr w.heap.size ⟨0, 0, 0, 0, 0, 0, 0⟩
  go : ∀ r rows2, Nx p cur r rows2 → Nx p rows r rows2
  co : ∀ r ∈ cur, ∀ t ∈ r, 0 < t.c ∧ t.c < p
  dn : ∀ r ∈ cur, Dn r
  len : cur.length = rows.length
theorem NxW.next {p : Int} {B : Nat} {w wr w' : World} {sb ob : Nat} {rv : Value} {rows cur : List (List Ft)} (h : NxW p B w wr sb ob rv rows cur) (hb : Below wr.heap.size wr w') : NxW p B w w' sb ob rv rows cur :=
  ⟨h.tk.next hb, h.res.below hb, h.go, h.co, h.dn, h.len⟩
theorem TkW.trans {B L L2 : Nat} {w w1 w2 : World} {sb ob : Nat} {rv : Value} {rows rows2 : List (List Ft)} (h : TkW B L2 w w1 sb ob rv rows) (k : TkW B L w1 w2 sb ob rv rows2) : TkW B L w w2 sb ob rv rows2 := ⟨k.sum, h.frm.trans k.frm fun _ _ h => h⟩
theorem bx_frm {B : Nat} {S : Nat → Prop} {w w' : World} {g : Nat} {t : Ft} (h : Bx B w g t) (hf : Frm S w w') (hn : ¬ S g) : Bx B w' g t := hf.own h fun k e => by
  simp only [Value.ownBlock, Option.some.injEq] at e; subst e; exact hn
theorem TkW.rv_lt {B L : Nat} {w wr : World} {sb ob : Nat} {rv : Value} {rows : List (List Ft)} (h : TkW B L w wr sb ob rv rows) : ∀ g, rv.ownBlock = some g → B ≤ g ∧ g < wr.heap.size := by
  obtain ⟨us, hs, _⟩ := h.sum
  exact World.ownsRow.lt hs.rws.own

set_option maxRecDepth 100000 in
set_option maxHeartbeats 2000000 in
theorem next_any (B sb ob : Nat) (p k0 k1 k2 : Int) (sv rv : Value) (us : List Value) (rows : List (List Ft)) (w : World) (hs : SumW B w sb ob rv us rows) (hob : OrdB w ob p k0 k1 k2 sv) (hp : 2 ≤ p ∧ p ≤ 101) (hn : rows.length ≤ 1000) (hc : ∀ r ∈ rows, ∀ t ∈ r, 0 < t.c ∧ t.c < p) (hd : ∀ r ∈ rows, Dn r) :
    Calls Tryz.prog 61 #[.pointer (some ⟨sb, 0, none⟩)] w fun e w' => ∃ r, e = .returned (.tuple #[ftV (grF r), .bool r.isSome]) ∧ ∃ rows2, Nx p rows r rows2 ∧ TkW B w.heap.size w w' sb ob rv rows2 := by
  have HOB := hid hob
  have HAP := hid (hs.ob_apart hob)
  have HRL : Hid (∀ g, rv.ownBlock = some g → g < w.heap.size) := fun g hg => (World.ownsRow.lt hs.rws.own g hg).2
  have HSL := hid hs.lt.2
  obtain ⟨w0, hw0⟩ : ∃ w0, w0 = w.alloc (.cells #[.int .i64 0, .int .u16 0, .int .u16 0, .int .u16 0, .int .u16 0, .int .u8 0, .int .u8 0] 52) := ⟨_, rfl⟩
  have H0 : Hid (NxW p B w w0 sb ob rv rows rows) := by
    show NxW _ _ _ _ _ _ _ _ _
    rw [hw0]
    exact ⟨⟨⟨us, hs.next belowNew, hs.loc⟩, Frm.of_below belowNew⟩, Bx.new w _ (Nat.le_refl _), fun _ _ h => h, hc, hd, rfl⟩
  clear hs hob hc hd
  go_enter Tryz.func61, Tryz.ntmps61
  go_wp2_with fail
  rw [← hw0]
  clear hw0
  go_loopw [3] (fun f wr => f = .bool false ∧ ∃ cur, NxW p B w wr sb ob rv rows cur) (fun _ wr => cellLen wr rv)
  case atStart => exact ⟨rfl, rows, H0.out⟩
  case round =>
    clear H0
    obtain ⟨rfl, cur, ht⟩ := hrel
    have HT := hid ht
    obtain ⟨us1, hs1, _⟩ := ht.tk.sum
    obtain ⟨x0, x1, x2⟩ := hs1.cells
    have HG := hid (greatest_any sb rv cur wr hs1.lt.2 x1 hs1.rws.rws (by rw [ht.len]; exact hn))
    have HTOT := hid hs1.rws.total
    clear ht hs1 x0 x1 x2
    cases hgr : grt cur with
    | none =>
      have HGR := hid hgr
      rw [hgr] at HG
      simp only [grF, ftV, Option.getD_none, Option.isSome_none] at HG
      clear hgr
      go_upto_region 2 with (go_at_call 101; refine HG.out.mono ?_; rintro e w1 ⟨rfl, hb1⟩; have HT1 := hid (HT.out.next hb1); have HBX := hid (Bx.new w1 w.heap.size HT1.out.tk.frm.size); obtain ⟨y0, y1, y2, y3, y4, y5, y6⟩ := HBX.out.at; have z0 := World.ownsRow.frozenAt HBX.out 0; have z1 := World.ownsRow.frozenAt HBX.out 1; have z2 := World.ownsRow.frozenAt HBX.out 2; have z3 := World.ownsRow.frozenAt HBX.out 3; have z4 := World.ownsRow.frozenAt HBX.out 4; have z5 := World.ownsRow.frozenAt HBX.out 5; have z6 := World.ownsRow.frozenAt HBX.out 6; simp only [Nat.zero_add] at y0 y1 y2 y3 y4 y5 y6; clear hb1)
      obtain ⟨wq, hwq⟩ : ∃ wq, wq = w1.alloc (.cells #[.int .i64 0, .int .u16 0, .int .u16 0, .int .u16 0, .int .u16 0, .int .u8 0, .int .u8 0] 52) := ⟨_, rfl⟩
      have HQ : Hid (NxW p B w wq sb ob rv rows cur ∧ Bx w.heap.size wq w1.heap.size ⟨0, 0, 0, 0, 0, 0, 0⟩ ∧ w.heap.size < w1.heap.size ∧ cellLen wq rv = tot cur) := by
        show _ ∧ _ ∧ _ ∧ _
        rw [hwq]
        obtain ⟨us2, hs2, _⟩ := (HT1.out.next (belowNew (A := .cells #[.int .i64 0, .int .u16 0, .int .u16 0, .int .u16 0, .int .u16 0, .int .u8 0, .int .u8 0] 52))).tk.sum
        exact ⟨HT1.out.next belowNew, box7 HT1.out.tk.frm.size ⟨0, 0, 0, 0, 0, 0, 0⟩, (World.ownsRow.lt HT1.out.res _ rfl).2, hs2.rws.total⟩
      rw [← hwq]
      clear hwq HBX y0 y1 y2 y3 y4 y5 y6 z0 z1 z2 z3 z4 z5 z6
      have HLT2 := HQ.out.2.2.1
      obtain ⟨v0, v1, v2, v3, v4, v5, v6⟩ := HQ.out.1.res.at
      have r0 := World.ownsRow.frozenAt HQ.out.1.res 0
      have r1 := World.ownsRow.frozenAt HQ.out.1.res 1
      have r2 := World.ownsRow.frozenAt HQ.out.1.res 2
      have r3 := World.ownsRow.frozenAt HQ.out.1.res 3
      have r4 := World.ownsRow.frozenAt HQ.out.1.res 4
      have r5 := World.ownsRow.frozenAt HQ.out.1.res 5
      have r6 := World.ownsRow.frozenAt HQ.out.1.res 6
      simp only [Nat.zero_add] at v0 v1 v2 v3 v4 v5 v6
      have HP := hid (HQ.out.1.res.put ⟨0, 0, 0, 0, 0, 0, 0⟩)
      have hpat := HP.out.1.at
      have HPT := hid (HQ.out.1.tk.far HP.out.2 (Nat.le_refl _) (Nat.le_refl _) HSL.out HRL.out)
      unfold lay7 at hpat HPT
      obtain ⟨s0, s1, s2, s3, s4, s5, s6⟩ := hpat
      simp only [Nat.zero_add] at s0 s1 s2 s3 s4 s5 s6
      go_wp2
      refine bodyPost_ret (v := .tuple #[ftV (grF none), .bool false]) (by simp [results, Tryz.results61, go_sem, s0, s1, s2, s3, s4, s5, s6, ftV, grF]) rfl ⟨none, rfl, cur, HQ.out.1.go _ _ (Nx.stop cur HGR.out), HPT.out⟩
    | some t =>
      have HGR := hid hgr
      rw [hgr] at HG
      simp only [grF, ftV, Option.getD_some, Option.isSome_some] at HG
      clear hgr
      go_upto_region 2 with (go_at_call 101; refine HG.out.mono ?_; rintro e w1 ⟨rfl, hb1⟩; have HT1 := hid (HT.out.next hb1); have HBX := hid (Bx.new w1 w.heap.size HT1.out.tk.frm.size); obtain ⟨y0, y1, y2, y3, y4, y5, y6⟩ := HBX.out.at; have z0 := World.ownsRow.frozenAt HBX.out 0; have z1 := World.ownsRow.frozenAt HBX.out 1; have z2 := World.ownsRow.frozenAt HBX.out 2; have z3 := World.ownsRow.frozenAt HBX.out 3; have z4 := World.ownsRow.frozenAt HBX.out 4; have z5 := World.ownsRow.frozenAt HBX.out 5; have z6 := World.ownsRow.frozenAt HBX.out 6; simp only [Nat.zero_add] at y0 y1 y2 y3 y4 y5 y6; clear hb1)
      obtain ⟨wq, hwq⟩ : ∃ wq, wq = w1.alloc (.cells #[.int .i64 t.k, .int .u16 t.a, .int .u16 t.b, .int .u16 t.d, .int .u16 t.z, .int .u8 t.pl, .int .u8 t.c] 52) := ⟨_, rfl⟩
      have HQ : Hid (NxW p B w wq sb ob rv rows cur ∧ Bx w.heap.size wq w1.heap.size t ∧ w.heap.size < w1.heap.size ∧ cellLen wq rv = tot cur) := by
        show _ ∧ _ ∧ _ ∧ _
        rw [hwq]
        obtain ⟨us2, hs2, _⟩ := (HT1.out.next (belowNew (A := .cells #[.int .i64 t.k, .int .u16 t.a, .int .u16 t.b, .int .u16 t.d, .int .u16 t.z, .int .u8 t.pl, .int .u8 t.c] 52))).tk.sum
        exact ⟨HT1.out.next belowNew, box7 HT1.out.tk.frm.size t, (World.ownsRow.lt HT1.out.res _ rfl).2, hs2.rws.total⟩
      rw [← hwq]
      clear hwq HBX y0 y1 y2 y3 y4 y5 y6 z0 z1 z2 z3 z4 z5 z6
      have HLT2 := HQ.out.2.2.1
      have HTA : Hid (Calls Tryz.prog 102 #[.pointer (some ⟨sb, 0, none⟩), .int .i64 t.k] wq fun e w' => e = .returned (.int .u8 (tkS t.k cur % p)) ∧ TkW B w.heap.size wq w' sb ob rv (tk t.k cur)) := by
        obtain ⟨us2, hs2, hl2⟩ := HQ.out.1.tk.sum
        exact take_any B w.heap.size sb ob p k0 k1 k2 t.k sv rv us2 cur wq hs2 hl2 (HOB.out.frm HQ.out.1.tk.frm HAP.out) hp (by rw [HQ.out.1.len]; exact hn) fun r hr t ht => by have := HQ.out.1.co r hr t ht; omega
      obtain ⟨b0, b1, b2, b3, b4, b5, b6⟩ := HQ.out.2.1.at
      simp only [Nat.zero_add] at b0 b1 b2 b3 b4 b5 b6
      have hmem := (grt_some HQ.out.1.dn HGR.out).1
      have HMEM := hid hmem
      obtain ⟨t2, ht2⟩ : ∃ t2 : Ft, t2 = { t with c := tkS t.k cur % p } := ⟨_, rfl⟩
      have HT2 := hid ht2
      have hcd : tkS t.k cur % p = t2.c := by rw [ht2]
      have HCD := hid hcd
      have HEN : Hid ((encF t).set 6 (.int .u8 t2.c) = encF t2) := by show _ = _; rw [ht2]; rfl
      rw [hcd] at HTA
      clear hmem hcd ht2
      have STEP : Hid (∀ w3, TkW B w.heap.size wq w3 sb ob rv (tk t.k cur) → TkW B w.heap.size w w3 sb ob rv (tk t.k cur) ∧ Bx w.heap.size w3 w1.heap.size t ∧ Bx w.heap.size w3 w.heap.size ⟨0, 0, 0, 0, 0, 0, 0⟩) := fun w3 h3 =>
        ⟨HQ.out.1.tk.trans h3, bx_frm HQ.out.2.1 h3.frm (fun e => by have := HRL.out _ e; omega), bx_frm HQ.out.1.res h3.frm (fun e => by have := HRL.out _ e; omega)⟩
      go_upto_region 5 with (go_at_call 102; refine HTA.out.mono ?_; rintro e w3 ⟨rfl, h3⟩; have H3 := hid (STEP.out w3 h3); clear h3; have d6 := (H3.out.2.1.at).2.2.2.2.2.2; have f6 := World.ownsRow.frozenAt H3.out.2.1 6; simp only [Nat.zero_add] at d6)
      have s6 := World.ownsRow.stored H3.out.2.1 6 (.int .u8 t2.c)
      obtain ⟨w4, hw4⟩ : ∃ w4, w4 = w3.setCell ⟨w1.heap.size, 6, none⟩ (.int .u8 t2.c) := ⟨_, rfl⟩
      have H4 : Hid (TkW B w.heap.size w w4 sb ob rv (tk t.k cur) ∧ Bx w.heap.size w4 w1.heap.size t2 ∧ Bx w.heap.size w4 w.heap.size ⟨0, 0, 0, 0, 0, 0, 0⟩) := by
        show _ ∧ _ ∧ _
        rw [hw4]
        exact ⟨H3.out.1.far s6.2 (by omega) (by omega) HSL.out HRL.out, by have := s6.1; rw [HEN.out] at this; exact this, World.ownsRow.kept H3.out.2.2 s6.2 (Or.inr (by simp [Value.ownBlock]; omega))⟩
      rw [← hw4]
      clear hw4 s6 d6 f6
      obtain ⟨e0, e1, e2, e3, e4, e5, e6⟩ := H4.out.2.1.at
      simp only [Nat.zero_add] at e0 e1 e2 e3 e4 e5 e6
      by_cases hz : t2.c = 0
      · have HZ := hid hz
        go_wp2
        go_roundw
        case rel =>
          refine ⟨rfl, tk t.k cur, H4.out.1, H4.out.2.2, fun r rows2 h => HQ.out.1.go _ _ (Nx.go cur rows2 t r HGR.out (HCD.out.trans HZ.out) h), fun r hr x hx => ?_, fun r hr => ?_, ?_⟩
          · obtain ⟨r0, h0, rfl⟩ := List.mem_map.1 hr
            exact HQ.out.1.co r0 h0 x (tk1_sub _ r0 x hx)
          · obtain ⟨r0, h0, rfl⟩ := List.mem_map.1 hr
            exact tk1_dn (HQ.out.1.dn r0 h0)
          · have := HQ.out.1.len; simp [tk, this]
        case measure =>
          obtain ⟨us4, hs4, _⟩ := H4.out.1.sum
          have h4 := hs4.rws.total
          obtain ⟨ts, hm⟩ := HMEM.out
          have h5 := tk_tot_lt hm
          have h6 := HTOT.out
          omega
      · have HZ := hid hz
        go_upto_region 6 with fail
        obtain ⟨v0, v1, v2, v3, v4, v5, v6⟩ := H4.out.2.2.at
        have r0 := World.ownsRow.frozenAt H4.out.2.2 0
        have r1 := World.ownsRow.frozenAt H4.out.2.2 1
        have r2 := World.ownsRow.frozenAt H4.out.2.2 2
        have r3 := World.ownsRow.frozenAt H4.out.2.2 3
        have r4 := World.ownsRow.frozenAt H4.out.2.2 4
        have r5 := World.ownsRow.frozenAt H4.out.2.2 5
        have r6 := World.ownsRow.frozenAt H4.out.2.2 6
        simp only [Nat.zero_add] at v0 v1 v2 v3 v4 v5 v6
        have HP := hid (H4.out.2.2.put t2)
        have hpat := HP.out.1.at
        have HPT := hid (H4.out.1.far HP.out.2 (Nat.le_refl _) (Nat.le_refl _) HSL.out HRL.out)
        unfold lay7 at hpat HPT
        obtain ⟨s0, s1, s2, s3, s4, s5, s6⟩ := hpat
        simp only [Nat.zero_add] at s0 s1 s2 s3 s4 s5 s6
        have HNX := hid (HQ.out.1.go _ _ (Nx.hit cur t HGR.out (by rw [HCD.out]; exact HZ.out)))
        rw [← HT2.out] at HNX
        go_wp2
        refine bodyPost_ret (v := .tuple #[ftV (grF (some t2)), .bool true]) (by simp [results, Tryz.results61, go_sem, s0, s1, s2, s3, s4, s5, s6, ftV, grF]) rfl ⟨some t2, rfl, _, HNX.out, HPT.out⟩

end Go.Proofs.YtkmjmmnnnbjghaaGreat

/- The sum's Add. -/
namespace Go.Proofs.YtkmjmmnnnbjghaaGreat
set_option linter.unusedSimpArgs false
set_option linter.unusedVariables false
open Go.RowKit

theorem bitLen_le (f : Nat) : ∀ x, Lib.bitLenAux f x ≤ f := by
  induction f with
  | zero => intro x; simp [Lib.bitLenAux]
  | succ f ih =>
    intro x
    simp only [Lib.bitLenAux]
    split
    · omega
    · have := ih (x / 2); omega
theorem bitLen64 (x : Nat) : Lib.bitLen x ≤ 64 := bitLen_le 64 x
/-- One of the rows stored: what there is of a key. -/
theorem cnt_set (k : Int) (f : List Ft) : ∀ (rows : List (List Ft)) (a : Nat), a < rows.length → cnt k (rows.set a f).flatten = cnt k rows.flatten - cnt k (rows.getD a []) + cnt k f
  | [], a, h => by simp at h
  | r :: rows, 0, h => by
    simp only [List.set_cons_zero, List.flatten_cons, cnt_append, List.getD_cons_zero]; omega
  | r :: rows, a + 1, h => by
    have := cnt_set k f rows a (by simpa using h)
    simp only [List.set_cons_succ, List.flatten_cons, cnt_append, List.getD_cons_succ]; omega
theorem tot_set (f : List Ft) : ∀ (rows : List (List Ft)) (a : Nat), a < rows.length → tot (rows.set a f) + (rows.getD a []).length = tot rows + f.length
  | [], a, h => by simp at h
  | r :: rows, 0, h => by
    simp only [tot, List.set_cons_zero, List.map_cons, List.sum_cons, List.getD_cons_zero]; omega
  | r :: rows, a + 1, h => by
    have := tot_set f rows a (by simpa using h)
    simp only [tot, List.set_cons_succ, List.map_cons, List.sum_cons, List.getD_cons_succ] at this ⊢; omega
theorem Rok.set {p : Int} {G : Ft → Prop} {rows : List (List Ft)} {f : List Ft} (h : Rok p G rows) (hf : Rok p G [f]) (a : Nat) : Rok p G (rows.set a f) := by
  refine ⟨fun r hr => ?_, fun r hr => ?_, fun r hr => ?_⟩ <;> rcases List.mem_or_eq_of_mem_set hr with hr | rfl
  · exact h.dn r hr
  · exact hf.dn r (by simp)
  · exact h.co r hr
  · exact hf.co r (by simp)
  · exact h.gd r hr
  · exact hf.gd r (by simp)
theorem Rok.nil (p : Int) (G : Ft → Prop) : Rok p G [[]] := ⟨fun r hr => by simp at hr; subst hr; exact List.Pairwise.nil, fun r hr t ht => by simp at hr; subst hr; simp at ht, fun r hr t ht => by simp at hr; subst hr; simp at ht⟩
theorem Rok.append {p : Int} {G : Ft → Prop} {a b : List (List Ft)} (h : Rok p G a) (k : Rok p G b) : Rok p G (a ++ b) := by
  refine ⟨fun r hr => ?_, fun r hr => ?_, fun r hr => ?_⟩ <;> rcases List.mem_append.1 hr with hr | hr
  · exact h.dn r hr
  · exact k.dn r hr
  · exact h.co r hr
  · exact k.co r hr
  · exact h.gd r hr
  · exact k.gd r hr
theorem Rok.getD {p : Int} {G : Ft → Prop} {rows : List (List Ft)} (h : Rok p G rows) (a : Nat) : Rok p G [rows.getD a []] := by
  rcases getD_mem_or rows a with e | hm
  · rw [e]; exact Rok.nil p G
  · exact ⟨fun r hr => by simp at hr; subst hr; exact h.dn _ (by simpa using hm), fun r hr => by simp at hr; subst hr; exact h.co _ (by simpa using hm), fun r hr => by simp at hr; subst hr; exact h.gd _ (by simpa using hm)⟩
theorem Rok.merge {p : Int} {G : Ft → Prop} (hp : 2 ≤ p) (hG : ∀ x t, Alk x t → G t → G x) {f g : List Ft} (h : Rok p G [f]) (k : Rok p G [g]) : Rok p G [mergeK p f g] := by
  have hm := mergeK_mem p hp f g (h.co f (by simp)) (k.co g (by simp))
  refine ⟨fun r hr => ?_, fun r hr t ht => ?_, fun r hr t ht => ?_⟩ <;> (rw [List.mem_singleton] at hr; subst hr)
  · exact mergeK_dn p f g (h.dn f (by simp)) (k.dn g (by simp))
  · exact (hm t ht).2
  · obtain ⟨⟨u, hu, ha⟩, _⟩ := hm t ht
    rcases hu with hu | hu
    · exact hG t u ha (h.gd f (by simp) u hu)
    · exact hG t u ha (k.gd g (by simp) u hu)
theorem Tryz.infoFv : (Tryz.prog.info? 64).map (fun i => (i.zero, i.size, i.bytes)) = some (some (.slice none 0 0), 1, 24) := by kernel_rfl
/-- The worlds of Add. -/
structure AdW (p : Int) (G : Ft → Prop) (B : Nat) (w wr : World) (sb ob : Nat) (rv0 rv : Value) (rows0 : List (List Ft)) (f0 : List Ft) (rows : List (List Ft)) (v : Value) (f : List Ft) : Prop where
  sum : ∃ us, SumW B wr sb ob rv us rows
  frm : Frm (SFp sb rv0) w wr
  loc : ∀ k, rv.ownBlock = some k → k < w.heap.size → rv0.ownBlock = some k
  fv : Fv wr v f
  ok : Rok p G rows
  okf : Rok p G [f]
  cn : ∀ k, p ∣ cnt k rows.flatten + cnt k f - (cnt k rows0.flatten + cnt k f0)
theorem AdW.next {p : Int} {G : Ft → Prop} {B : Nat} {w wr w' : World} {sb ob : Nat} {rv0 rv : Value} {rows0 rows : List (List Ft)} {f0 f : List Ft} {v : Value} (h : AdW p G B w wr sb ob rv0 rv rows0 f0 rows v f) (hb : Below wr.heap.size wr w') : AdW p G B w w' sb ob rv0 rv rows0 f0 rows v f := by
  obtain ⟨us, hs⟩ := h.sum
  exact ⟨⟨us, hs.next hb⟩, h.frm.trans (Frm.of_below (S := fun _ => False) hb) (fun _ _ h => h.elim), h.loc, h.fv.below hb, h.ok, h.okf, h.cn⟩
/-- A row merged with what is added, and taken out. -/
theorem AdW.merge {p : Int} {G : Ft → Prop} {B : Nat} {w wr : World} {sb ob g n c : Nat} {rv0 : Value} {rows0 rows : List (List Ft)} {f0 f : List Ft} {v v2 : Value} (hp : 2 ≤ p) (hG : ∀ x t, Alk x t → G t → G x) (h : AdW p G B w wr sb ob rv0 (.slice (some ⟨g, 0, none⟩) n c) rows0 f0 rows v f) (a : Nat) (ha : a < rows.length) (hv : Fv wr v2 (mergeK p f (rows.getD a []))) :
    AdW p G B w (wr.setCell ⟨g, a, none⟩ (.slice none 0 0)) sb ob rv0 (.slice (some ⟨g, 0, none⟩) n c) rows0 f0 (rows.set a []) v2 (mergeK p f (rows.getD a [])) := by
  obtain ⟨us, hs⟩ := h.sum
  have s := hs.put a ha (.slice none 0 0) [] (fv_nil none 0)
  have hf : Frm (fun k => k = g) wr (wr.setCell ⟨g, a, none⟩ (.slice none 0 0)) := Frm.of_grown s.2 fun x e => by simpa using e.symm
  refine ⟨⟨_, s.1⟩, h.frm.trans hf fun x hx e => ?_, h.loc, fv_frm hf (fun k e => by subst e; exact slk_nou (hs.rws.kind _ rfl)) hv, h.ok.set (Rok.nil p G) a, h.okf.merge hp hG (h.ok.getD a), fun k => ?_⟩
  · subst e; exact Or.inr (h.loc _ rfl hx)
  · rw [cnt_set k [] rows a ha]
    obtain ⟨m, hm⟩ := mergeK_cnt p k f (rows.getD a [])
    obtain ⟨q, hq⟩ := h.cn k
    exact ⟨m + q, by simp only [cnt]; rw [Int.mul_add]; omega⟩
/-- One more row. -/
theorem AdW.grow {p : Int} {G : Ft → Prop} {B : Nat} {w wr w2 : World} {sb ob : Nat} {rv0 rv v2 : Value} {us : List Value} {rows0 rows : List (List Ft)} {f0 f : List Ft} {v : Value} (h : AdW p G B w wr sb ob rv0 rv rows0 f0 rows v f) (hs : SumW B wr sb ob rv us rows)
    (h2 : w2.ownsRow B 64 1 v2 (rows.length + 1) (us ++ [.slice none 0 0])) (g2 : wr.grownBy w2 rv.ownBlock) (k2 : ∀ g, v2.ownBlock = some g → SlK w2 g) (l2 : v2.ownBlock = rv.ownBlock ∨ v2.ownBlock = some wr.heap.size) :
    AdW p G B w (w2.setCell ⟨sb, 1, none⟩ v2) sb ob rv0 v2 rows0 f0 (rows ++ [[]]) v f := by
  have hg := hs.grow (fv_nil none 0) h2 g2 k2
  have hf : Frm (SFp sb rv) wr (w2.setCell ⟨sb, 1, none⟩ v2) := by
    have hb2 := World.ownsRow.kept hs.box g2 (Or.inr (by simpa [Value.ownBlock] using fun e => hs.apart e.symm))
    have s := World.ownsRow.stored hb2 1 v2
    exact (Frm.of_grown (S := SFp sb rv) g2 fun x e => Or.inr e).trans (Frm.of_grown (S := fun k => k = sb) s.2 fun x e => by simpa using e.symm) fun x _ e => Or.inl e
  refine ⟨⟨_, hg⟩, h.frm.trans hf fun x hx e => ?_, fun k hk hlt => ?_, fv_frm hf (fun k e => ?_) h.fv, h.ok.append (Rok.nil p G), h.okf, fun k => ?_⟩
  · rcases e with e | e
    · exact Or.inl e
    · exact Or.inr (h.loc x e hx)
  · rcases l2 with l2 | l2
    · exact h.loc k (by rw [← l2]; exact hk) hlt
    · rw [l2] at hk
      simp only [Option.some.injEq] at hk
      have := h.frm.size; omega
  · rcases e with e | e
    · subst e; exact hs.kind
    · exact slk_nou (hs.rws.kind k e)
  · have := h.cn k
    rw [List.flatten_append, cnt_append]
    simpa [cnt] using this
/-- At an append of an empty row. -/
theorem wpList_append_rows {ops : Array Oper} {rest : List Oper} {w : World} {o : Oper} {a : Act} {Q : Exit → Act → World → Prop} (hgd : o.guard = none) (s x : Operand) (t : TypeId)
    (ho : o.op = .call { callee := .builtin .append, args := #[s, x], argTypes := #[t, t] }) (ht : Tryz.prog.underlying t = some (.slice 64))
    (B : Nat) (v : Value) (us : List Value) (rows : List (List Ft)) (hs : a.eval s = v) (h : RowsW B w v us rows) (ad : Addr) (c : Nat) (hx : a.eval x = .slice (some ad) 1 c)
    (hnew : ∀ j y, [Value.slice none 0 0][j]? = some y → w.cell? (ad.add j) = some y) (hn : rows.length ≤ 1000) (hB : B ≤ w.heap.size)
    (hK : ∀ v' w', w'.ownsRow B 64 1 v' (rows.length + 1) (us ++ [.slice none 0 0]) → w.grownBy w' v.ownBlock → (∀ g, v'.ownBlock = some g → SlK w' g) → (v'.ownBlock = v.ownBlock ∨ v'.ownBlock = some w.heap.size) → wpList Tryz.prog ops Q rest (a.put o.dst v') w') : wpList Tryz.prog ops Q (o :: rest) a w := by
  refine wpList_plain hgd fun K hK' => ?_
  obtain ⟨i0, hi, hz0, hz1, hz2⟩ := info_parts Tryz.infoFv
  obtain ⟨v', w', hr, h2, h3, h4, h5⟩ := run_append_kdb (P := Tryz.prog) w (fun u => ∃ a n c, u = .slice a n c) B t o.type 64 i0 _ 1 24 ht hi hz0 hz1 hz2 rfl (by decide) (fun u hu => by simp [Value.cells] at hu; exact ⟨_, _, _, hu⟩) v rows.length us h.own h.kind ad 1 c [.slice none 0 0] (by decide) rfl hnew (fun u hu => by rw [List.mem_singleton] at hu; subst hu; rfl) (fun u hu => by rw [List.mem_singleton] at hu; exact ⟨_, _, _, hu⟩) (by unfold maxLen; omega) (by omega) hB
  unfold Oper.wp execOp
  simp only [ho, resolve, invoke, builtin, Sem.run_bind, Sem.run_pure, Result.andThen_ok, List.map_toArray, List.map_cons, List.map_nil, hs, hx, hr]
  exact hK' _ _ (hK v' w' h2 h3 h4 h5)

end Go.Proofs.YtkmjmmnnnbjghaaGreat
