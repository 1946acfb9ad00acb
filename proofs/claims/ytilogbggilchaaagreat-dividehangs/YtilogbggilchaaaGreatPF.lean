/- Rows of terms of the call's own. -/
import Derived.Test.YtilogbggilchaaaGreatH
import Derived.Test.YtilogbggilchaaaGreatFR
import Derived.Test.YtilogbggilchaaaGreatFA
import Derived.Deep.OwnRows
import Derived.Deep.RegionHeld
import Derived.Test.YtilogbggilchaaaGreatFG
namespace Go.Proofs.YtilogbggilchaaaGreat
set_option linter.unusedSimpArgs false
set_option linter.unusedVariables false
open Go.RowKit
theorem Tryz.infoTerm : (Tryz.prog.info? 57).map (fun i => (i.zero, i.size, i.bytes)) = some (some (.agg #[.int .i64 0, .slice none 0 0]), 2, 32) := by kernel_rfl

abbrev TV := Int × Value × List Int
def tm (t : TV) : Tm := (t.1, t.2.2)
def flat (ts : List TV) : List Value := ts.flatMap fun t => [.int .i64 t.1, t.2.1]
theorem flat_len (ts : List TV) : (flat ts).length = ts.length * 2 := by
  induction ts with
  | nil => rfl
  | cons t ts ih => simp only [flat, List.flatMap_cons, List.length_append, List.length_cons, List.length_nil] at ih ⊢; omega
theorem flat_cons (t : TV) (ts : List TV) : flat (t :: ts) = .int .i64 t.1 :: t.2.1 :: flat ts := rfl
theorem flat_append (ts us : List TV) : flat (ts ++ us) = flat ts ++ flat us := by unfold flat; rw [List.flatMap_append]
def noTV : TV := (0, .slice none 0 0, [])
theorem flat_at : ∀ (ts : List TV) (i : Nat), i < ts.length → (flat ts)[i * 2]? = some (.int .i64 (ts.getD i noTV).1) ∧ (flat ts)[i * 2 + 1]? = some (ts.getD i noTV).2.1
  | [], i, h => by simp at h
  | t :: ts, 0, h => by simp [flat_cons]
  | t :: ts, i + 1, h => by
    have := flat_at ts i (by simpa using h)
    rw [flat_cons, show (i + 1) * 2 = i * 2 + 1 + 1 by omega]
    simpa using this
theorem tm_at (ts : List TV) (i : Nat) (h : i < ts.length) : (ts.map tm).getD i noT = tm (ts.getD i noTV) := by
  simp [List.getD_eq_getElem?_getD, h]
theorem tv_mem (ts : List TV) (i : Nat) (h : i < ts.length) : ts.getD i noTV ∈ ts := by
  rw [List.getD_eq_getElem?_getD, List.getElem?_eq_getElem h]; simp

def Es (w : World) (ts : List TV) : Prop := ∀ t ∈ ts, Sl w t.2.1 t.2.2
theorem Es.below {w w' : World} {ts : List TV} (h : Es w ts) (hb : Below w.heap.size w w') : Es w' ts := fun t ht => (h t ht).below hb
theorem flat_one {w : World} {ts : List TV} (h : Es w ts) : ∀ u ∈ flat ts, u.oneCell' = true := by
  intro u hu
  simp only [flat, List.mem_flatMap] at hu
  obtain ⟨t, ht, hu⟩ := hu
  simp only [List.mem_cons, List.not_mem_nil, or_false] at hu
  rcases hu with rfl | rfl
  · rfl
  · obtain ⟨a, c, e, _⟩ := h t ht; rw [e]; rfl

theorem own_pl {w : World} {B : Nat} {v : Value} {ts : List TV} (h : w.ownsRow B 57 2 v ts.length (flat ts)) (he : Es w ts) : Pl w v (ts.map tm) := by
  rcases h.2 with ⟨h1, h2⟩ | ⟨g, cap, cur, rfl, hg, hh, hn, hm, hcs, ht⟩
  · refine ⟨none, 0, by rw [h1]; simp [h2], by simp [h2], fun hp => by simp at hp; omega⟩
  · refine ⟨_, cap, by rw [List.length_map], by rw [List.length_map]; exact hn, fun hp => ⟨g, 0, rfl, ?_, fun i hi => ?_⟩⟩
    · apply Nat.lt_of_not_le; intro hle; rw [Array.getElem?_eq_none hle] at hh; simp at hh
    · rw [List.length_map] at hi
      rw [tm_at ts i hi]
      have key : ∀ j, j < ts.length * 2 → w.cell? ⟨g, j, none⟩ = (flat ts)[j]? := by
        intro j hj
        have h1 : (cur.toList.take (ts.length * 2))[j]? = (flat ts)[j]? := by rw [ht]
        rw [List.getElem?_take, if_pos hj] at h1
        rw [← h1]
        unfold World.cell?
        simp only [hh]
        simp
      have h2 := flat_at ts i hi
      refine ⟨?_, (ts.getD i noTV).2.1, ?_, he _ (tv_mem ts i hi)⟩
      · rw [Nat.zero_add, key _ (by omega), h2.1]; rfl
      · rw [Nat.zero_add, key _ (by omega), h2.2]

theorem Pl.tvs {w : World} {v : Value} {ts : List Tm} (h : Pl w v ts) : ∃ (a : Option Addr) (cap : Nat) (us : List TV), v = .slice a us.length cap ∧ us.length ≤ cap ∧ us.map tm = ts ∧ Es w us ∧
    (0 < us.length → ∃ b off, a = some ⟨b, off, none⟩ ∧ b < w.heap.size ∧ ∀ j u, (flat us)[j]? = some u → w.cell? ⟨b, off + j, none⟩ = some u) := by
  obtain ⟨a, cap, rfl, hcap, h⟩ := h
  by_cases hp : 0 < ts.length
  · obtain ⟨b, off, rfl, hlt, hc⟩ := h hp
    obtain ⟨V, hV⟩ := Go.Deep.choose_lt (α := Value) (n := ts.length) (p := fun i u => w.cell? ⟨b, off + i * 2 + 1, none⟩ = some u ∧ Sl w u (ts.getD i noT).2) (fun i hi => by
      obtain ⟨_, v, h1, h2⟩ := hc i hi; exact ⟨v, h1, h2⟩)
    let us : List TV := (List.range ts.length).map fun i => ((ts.getD i noT).1, V i, (ts.getD i noT).2)
    have hl : us.length = ts.length := by simp [us]
    have hat : ∀ i, i < ts.length → us.getD i noTV = ((ts.getD i noT).1, V i, (ts.getD i noT).2) := fun i hi => by simp [us, List.getD_eq_getElem?_getD, hi]
    refine ⟨some ⟨b, off, none⟩, cap, us, by rw [hl], by rw [hl]; exact hcap, ?_, ?_, fun _ => ⟨b, off, rfl, hlt, ?_⟩⟩
    · apply List.ext_getElem?
      intro i
      by_cases hi : i < ts.length
      · simp [us, tm, hi]
      · rw [List.getElem?_eq_none (by simp; omega), List.getElem?_eq_none (by omega)]
    · intro t ht
      simp only [us, List.mem_map, List.mem_range] at ht
      obtain ⟨i, hi, rfl⟩ := ht
      exact (hV i hi).2
    · intro j u hj
      have hjl : j < us.length * 2 := by
        rw [← flat_len]
        apply Nat.lt_of_not_le; intro hle; rw [List.getElem?_eq_none hle] at hj; simp at hj
      rw [hl] at hjl
      have hi : j / 2 < ts.length := by omega
      have hf := flat_at us (j / 2) (by rw [hl]; exact hi)
      rw [hat _ hi] at hf
      by_cases he : j % 2 = 0
      · have e : j / 2 * 2 = j := by omega
        rw [e] at hf
        rw [hf.1] at hj
        simp only [Option.some.injEq] at hj
        subst hj
        have := (hc _ hi).1
        rwa [e] at this
      · have e : j / 2 * 2 + 1 = j := by omega
        rw [e] at hf
        rw [hf.2] at hj
        simp only [Option.some.injEq] at hj
        subst hj
        have := (hV _ hi).1
        rwa [Nat.add_assoc, e] at this
  · have e : ts = [] := List.length_eq_zero_iff.1 (by omega)
    subst e
    exact ⟨a, cap, [], rfl, Nat.zero_le _, rfl, fun t ht => by simp at ht, fun h => absurd h (by simp)⟩
def Apart (g : Nat) (v : Value) : Prop := ∀ b off n c, v = .slice (some ⟨b, off, none⟩) n c → b ≠ g
structure Half (w : World) (wr : World) (g n : Nat) (us : List TV) : Prop where
  own : ∃ rest, wr.ownsRow w.heap.size 57 2 (.slice (some ⟨g, 0, none⟩) n n) n (flat us ++ rest) ∧ (flat us ++ rest).length = n * 2
  es : Es wr us
  apart : ∀ t ∈ us, Apart g t.2.1
  below : Below w.heap.size w wr
  ge : w.heap.size ≤ g
theorem Half.next {w wr w' : World} {g n : Nat} {us : List TV} (h : Half w wr g n us) (hb : Below wr.heap.size wr w') : Half w w' g n us := by
  obtain ⟨rest, h1, h2⟩ := h.own
  exact ⟨⟨rest, ownBlock_lt h1 hb, h2⟩, h.es.below hb, h.apart, h.below.trans (hb.mono h.below.size), h.ge⟩
theorem Half.lt {w wr : World} {g n : Nat} {us : List TV} (h : Half w wr g n us) : g < wr.heap.size := by
  obtain ⟨rest, h1, _⟩ := h.own
  exact (World.ownsRow.lt h1 g rfl).2
theorem Half.cells {w wr : World} {g n : Nat} {us : List TV} (h : Half w wr g n us) (hk : us.length < n) :
    ∃ a b, wr.cell? ⟨g, us.length * 2, none⟩ = some a ∧ wr.cell? ⟨g, us.length * 2 + 1, none⟩ = some b ∧ wr.frozen? ⟨g, us.length * 2, none⟩ = false ∧ wr.frozen? ⟨g, us.length * 2 + 1, none⟩ = false := by
  obtain ⟨rest, h1, h2⟩ := h.own
  have e1 := h1.cellAt (us.length * 2) (by omega)
  have e2 := h1.cellAt (us.length * 2 + 1) (by omega)
  rw [List.getElem?_eq_getElem (by omega)] at e1 e2
  exact ⟨_, _, e1, e2, h1.frozenAt _, h1.frozenAt _⟩
theorem set_two (l : List Value) (a b : Value) : ∀ r : List Value, 2 ≤ r.length → ((l ++ r).set l.length a).set (l.length + 1) b = l ++ [a, b] ++ r.drop 2
  | [], h => by simp at h
  | [_], h => by simp at h
  | x :: y :: r, _ => by simp [List.set_append_right]
theorem Half.put {w wr : World} {g n : Nat} {us : List TV} (h : Half w wr g n us) (hk : us.length < n) (t : TV) (hs : Sl wr t.2.1 t.2.2) (ha : Apart g t.2.1) :
    Half w ((wr.setCell ⟨g, us.length * 2, none⟩ (.int .i64 t.1)).setCell ⟨g, us.length * 2 + 1, none⟩ t.2.1) g n (us ++ [t]) := by
  obtain ⟨rest, h1, h2⟩ := h.own
  have s1 := h1.stored (us.length * 2) (.int .i64 t.1)
  have s2 := s1.1.stored (us.length * 2 + 1) t.2.1
  have hg := grown_trans s1.2 s2.2
  rw [List.length_append, flat_len] at h2
  refine ⟨⟨rest.drop 2, ?_, ?_⟩, ?_, ?_, h.below.trans (grown_below hg h.ge h.below.size), h.ge⟩
  · have e := set_two (flat us) (.int .i64 t.1) t.2.1 rest (by omega)
    rw [flat_len] at e
    have := s2.1
    rw [e] at this
    rw [flat_append]
    exact this
  · rw [List.length_append, flat_len, List.length_drop, List.length_append]; simp; omega
  · intro u hu
    rcases List.mem_append.1 hu with hu | hu
    · exact grown_sl hg (h.es u hu) (h.apart u hu)
    · rw [List.mem_singleton] at hu; subst hu
      exact grown_sl hg hs ha
  · intro u hu
    rcases List.mem_append.1 hu with hu | hu
    · exact h.apart u hu
    · rw [List.mem_singleton] at hu; subst hu; exact ha
theorem Half.drawn {w wr : World} {g n : Nat} {us : List TV} (h : Half w wr g n us) : Half w wr.drew g n us := h.next (Below.refl _ _).drew
theorem Half.done {w wr : World} {g n : Nat} {us : List TV} (h : Half w wr g n us) (hn : us.length = n) : Pl wr (.slice (some ⟨g, 0, none⟩) n n) (us.map tm) := by
  obtain ⟨rest, h1, h2⟩ := h.own
  rw [List.length_append, flat_len] at h2
  have e : rest = [] := List.length_eq_zero_iff.1 (by omega)
  rw [e, List.append_nil] at h1
  subst hn
  exact own_pl h1 h.es
theorem Half.made {w w' : World} {n : Nat} {z : Array Value} (h : w'.ownsRow w.heap.size 57 2 (.slice (some ⟨w.heap.size, 0, none⟩) n n) n (madeCells z (n * 2)).toList) (hg : w.grownBy w' none) : Half w w' w.heap.size n [] :=
  ⟨⟨(madeCells z (n * 2)).toList, h, by simp [flat, size_madeCells]⟩, fun t ht => by simp at ht, fun t ht => by simp at ht, ⟨hg.os, hg.tape, hg.output, hg.size, fun k hk => hg.block k hk (by simp)⟩, Nat.le_refl _⟩

theorem take_tm (us : List TV) (k : Nat) (h : k < us.length) : (us.take (k + 1)).map tm = (us.take k).map tm ++ [tm (us.getD k noTV)] := by
  rw [List.take_succ_eq_append_getElem h, List.map_append]
  simp [List.getD_eq_getElem?_getD, h]
theorem own_sl' {w : World} {B : Nat} {T : TypeId} {s : Nat} {v : Value} {n : Nat} {xs : List Value} (h : w.ownsRow B T s v n xs) : ∃ a c, v = .slice a n c := by
  rcases h.2 with ⟨h1, h2⟩ | ⟨g, c, cur, h1, _⟩
  · exact ⟨none, 0, by rw [h1, h2]⟩
  · exact ⟨_, c, h1⟩
theorem ownsRow_slI {w : World} {B : Nat} {v : Value} {zs : List Int} (h : Own w B v zs) : Sl w v zs := by
  obtain ⟨_, h | ⟨g, cap, cur, rfl, hg, hh, hn, hm, hcs, ht⟩⟩ := h
  · obtain ⟨rfl, h0⟩ := h
    refine ⟨none, 0, by rw [h0], fun hp => absurd hp (by omega)⟩
  · refine ⟨_, cap, rfl, fun _ => ⟨g, 0, rfl, ?_, fun i hi => ?_⟩⟩
    · apply Nat.lt_of_not_le; intro hle; rw [Array.getElem?_eq_none hle] at hh; simp at hh
    · have e : cur.toList[i]? = some (.int .i64 (zs.getD i 0)) := by
        have h1 : (cur.toList.take (zs.length * 1))[i]? = (zs.map (Value.int .i64))[i]? := by rw [ht]
        rw [List.getElem?_take, if_pos (by omega), List.getElem?_map] at h1
        rw [h1, List.getD_eq_getElem?_getD, List.getElem?_eq_getElem hi]; rfl
      unfold World.cell?
      simp only [hh, Nat.zero_add]
      simpa using e
theorem own_apart {w : World} {B g : Nat} {v : Value} {zs : List Int} (h : Own w B v zs) (hg : g < B) : Apart g v := by
  intro b off n c e hb
  have hv : v.ownBlock = some b := by rw [e]; rfl
  have := (World.ownsRow.lt h b hv).1
  omega

set_option maxHeartbeats 1000000 in
theorem bareClone_any (v : Value) (ts : List Tm) (w : World) (hm : ts.length ≤ 1200000000000) (hl : ∀ t ∈ ts, t.2.length ≤ 400) (hs : Pl w v ts) :
    Calls Tryz.prog 116 #[v] w fun e w' => ∃ u, e = .returned u ∧ Pl w' u ts ∧ Below w.heap.size w w' := by
  obtain ⟨a, cap, us, rfl, _, hus, hes, hcs⟩ := hs.tvs
  have hul : us.length = ts.length := by rw [← hus, List.length_map]
  have HUS := hid hus
  have HES := hid hes
  have HCS := hid hcs
  have HL := hid hl
  have hm' : us.length ≤ 1200000000000 := by omega
  clear hs hus hes hcs hl hm hul
  obtain ⟨i0, hi, hz0, hz1, hz2⟩ := info_parts Tryz.infoTerm
  go_enter Tryz.func116, Tryz.ntmps116
  go_wp2_with (at_make; refine wpList_make_full _ rfl _ _ 54 rfl w.heap.size 57 i0 _ 2 Tryz.underlying54 hi hz0 hz1 .i64 .i64 _ _ us.length rfl rfl rfl rfl (by rw [hz2]; omega) (by unfold maxLen; omega) (Nat.le_refl _) ?_; intro w1 hown hgrow; have HH := hid (Half.made hown hgrow); clear hown hgrow)
  clear hi hz0 hz1 hz2
  go_loopw [11] (fun i wr => ∃ k : Nat, k ≤ us.length ∧ i = .int .i64 k ∧ ∃ vs : List TV, vs.length = k ∧ vs.map tm = (us.take k).map tm ∧ Half w wr w.heap.size us.length vs) (fun i _ => us.length - (intOf i).toNat)
  case atStart => exact ⟨0, Nat.zero_le _, rfl, [], rfl, rfl, HH.out⟩
  case round =>
    clear HH
    obtain ⟨k, hk, rfl, vs, hvk, hvt, hh⟩ := hrel
    have HH := hid hh
    clear hh
    by_cases hk2 : k < us.length
    · obtain ⟨b, off, rfl, hlt, hcell⟩ := HCS.out (by omega)
      have hf := flat_at us k hk2
      have c0 := hcell _ _ hf.1
      have c1 := hcell _ _ hf.2
      rw [← HH.out.below.cell (p := ⟨b, off + k * 2, none⟩) hlt] at c0
      rw [← Nat.add_assoc, ← HH.out.below.cell (p := ⟨b, off + k * 2 + 1, none⟩) hlt] at c1
      have HSL := hid (HES.out _ (tv_mem us k hk2))
      have HT := hid (take_tm us k hk2)
      have HLE := hid (HL.out (tm (us.getD k noTV)) (by rw [← HUS.out]; exact List.mem_map_of_mem (tv_mem us k hk2)))
      generalize us.getD k noTV = t at c0 c1 HSL HT HLE
      obtain ⟨tc, tv, te⟩ := t
      obtain ⟨ea, ec, he, _⟩ := HSL.out
      simp only at c0 c1 he
      subst he
      subst hvk
      clear hf hcell
      have H1 := hid (HH.out.next (belowNew (A := .cells #[.int .i64 tc, .slice ea te.length ec] 57)))
      have HB1 := hid (HH.out.below.trans ((belowNew (w := wr) (A := .cells #[.int .i64 tc, .slice ea te.length ec] 57)).mono HH.out.below.size))
      have D0 : Hid ((wr.alloc (.cells #[.int .i64 tc, .slice ea te.length ec] 57)).drew.cell? ⟨wr.heap.size, 0, none⟩ = some (.int .i64 tc)) := by show _ = _; simp [go_sem]
      go_wp2
      go_region_with (go_at_call 78; refine (clone_any _ te _ HLE.out ((HSL.out.below HB1.out).below (Below.refl _ _).drew)).mono ?_; rintro e w9 ⟨u, rfl, hu, hb9⟩; have HH9 := hid (H1.out.drawn.next hb9); have HU := hid (And.intro (ownsRow_slI hu) (own_apart hu (H1.out.drawn.lt))); obtain ⟨x0, x1, y0, y1, z0, z1⟩ := HH9.out.cells hk2; have d0 := D0.out; rw [← hb9.cell (by simp)] at d0; obtain ⟨ua, uc, rfl⟩ := own_sl' hu; clear hb9 hu)
      all_goals
        go_wp2
        go_roundw
        case rel => exact ⟨vs.length + 1, by omega, by go_num, vs ++ [_], by simp, by rw [List.map_append, hvt, HT.out]; rfl, HH9.out.put hk2 (tc, _, te) HU.out.1 HU.out.2⟩
        case measure => simp [intOf]; omega
    · have e : k = us.length := by omega
      subst e
      go_wp2
      go_ret
      refine ⟨_, rfl, ?_, HH.out.below⟩
      have h := HH.out.done hvk
      rw [hvt, List.take_of_length_le (Nat.le_refl _), HUS.out] at h
      exact h
theorem prodT_take (p : Int) (b : Tm) (us : List TV) (k : Nat) (h : k < us.length) : prodT p b ((us.take (k + 1)).map tm) = prodT p b ((us.take k).map tm) ++ [(b.1 * (us.getD k noTV).1 % p, zipI (· + ·) b.2 (us.getD k noTV).2.2)] := by
  rw [take_tm us k h]; simp [prodT, tm]
theorem Half.down {w w2 wr : World} {g n : Nat} {us : List TV} (h : Half w2 wr g n us) (hb : Below w.heap.size w w2) : Below w.heap.size w wr := hb.trans (h.below.mono hb.size)
theorem mulBd {a b : Int} (h : 0 ≤ a ∧ a ≤ 101 ∧ 0 ≤ b ∧ b ≤ 101) : 0 ≤ a * b ∧ a * b ≤ 10201 := by
  obtain ⟨h1, h2, h3, h4⟩ := h
  refine ⟨Int.mul_nonneg h1 h3, ?_⟩
  have := Int.mul_le_mul h2 h4 h3 (by omega : (0 : Int) ≤ 101)
  omega

theorem scaleStart {w w1 : World} {p n o v bc : Int} {bv : Value} {T1 T2 : TypeId} {m : Nat} {z : Array Value}
    (h : w1.ownsRow (w.heap.size + 1 + 1) 57 2 (.slice (some ⟨((w.alloc (.cells #[.int .i64 p, .int .i64 n, .int .i64 o, .int .i64 v] T1)).alloc (.cells #[.int .i64 bc, bv] T2)).heap.size, 0, none⟩) m m) m (madeCells z (m * 2)).toList)
    (hg : ((w.alloc (.cells #[.int .i64 p, .int .i64 n, .int .i64 o, .int .i64 v] T1)).alloc (.cells #[.int .i64 bc, bv] T2)).grownBy w1 none) :
    ∃ w2, Below w.heap.size w w2 ∧ w2.heap.size = w.heap.size + 1 + 1 ∧ w2.cell? ⟨w.heap.size, 0, none⟩ = some (.int .i64 p) ∧ w2.cell? ⟨w.heap.size + 1, 0, none⟩ = some (.int .i64 bc) ∧ w2.cell? ⟨w.heap.size + 1, 1, none⟩ = some bv ∧ Half w2 w1 (w.heap.size + 1 + 1) m [] := by
  refine ⟨(w.alloc (.cells #[.int .i64 p, .int .i64 n, .int .i64 o, .int .i64 v] T1)).alloc (.cells #[.int .i64 bc, bv] T2), below_two, by simp, by simp [go_sem], by simp [go_sem], by simp [go_sem], ?_⟩
  have e : ((w.alloc (.cells #[.int .i64 p, .int .i64 n, .int .i64 o, .int .i64 v] T1)).alloc (.cells #[.int .i64 bc, bv] T2)).heap.size = w.heap.size + 1 + 1 := by simp
  have k := Half.made (w := (w.alloc (.cells #[.int .i64 p, .int .i64 n, .int .i64 o, .int .i64 v] T1)).alloc (.cells #[.int .i64 bc, bv] T2)) (n := m) (z := z) (by rw [e]; rw [e] at h; exact h) hg
  rw [e] at k
  exact k

set_option maxHeartbeats 2000000 in
theorem bareScale_any (p n o v bc : Int) (bv : Value) (be : List Int) (fv : Value) (ts : List Tm) (w : World) (hp : 2 ≤ p ∧ p ≤ 101) (hbc : 0 ≤ bc ∧ bc < p) (h0 : 0 < be.length) (hbl : be.length ≤ 3)
    (hbe : ∀ x ∈ be, 0 ≤ x ∧ x ≤ 20000) (hts : ∀ t ∈ ts, t.2.length = be.length ∧ (∀ x ∈ t.2, 0 ≤ x ∧ x ≤ 20000) ∧ 0 ≤ t.1 ∧ t.1 < p) (hm : ts.length ≤ 1200000000000) (hs : Sl w bv be) (hf : Pl w fv ts) :
    Calls Tryz.prog 130 #[ringV p n o v, .agg #[.int .i64 bc, bv], fv] w fun e w' => ∃ u, e = .returned u ∧ Pl w' u (prodT p (bc, be) ts) ∧ Below w.heap.size w w' := by
  obtain ⟨a, cap, us, rfl, _, hus, hes, hcs⟩ := hf.tvs
  obtain ⟨ba, bcap, rfl, hbs⟩ := hs
  obtain ⟨bb, boff, rfl, hblt, hbint⟩ := hbs h0
  have hul : us.length = ts.length := by rw [← hus, List.length_map]
  have HUS := hid hus
  have HES := hid hes
  have HCS := hid hcs
  have HBE := hid hbe
  have HBI := hid hbint
  have HTS : Hid (∀ t ∈ us, t.2.2.length = be.length ∧ (∀ x ∈ t.2.2, 0 ≤ x ∧ x ≤ 20000) ∧ 0 ≤ t.1 ∧ t.1 < p) := fun t ht => hts (tm t) (by rw [← hus]; exact List.mem_map_of_mem ht)
  have hm' : us.length ≤ 1200000000000 := by omega
  clear hf hus hes hcs hts hm hul hbs hbe hbint
  obtain ⟨i0, hi, hz0, hz1, hz2⟩ := info_parts Tryz.infoTerm
  obtain ⟨hp1, hp2⟩ := hp
  obtain ⟨hc1, hc2⟩ := hbc
  go_enter Tryz.func130, Tryz.ntmps130
  go_wp2_with (at_make; refine wpList_make_full _ rfl _ _ 54 rfl (w.heap.size + 1 + 1) 57 i0 _ 2 Tryz.underlying54 hi hz0 hz1 .i64 .i64 _ _ us.length rfl rfl rfl rfl (by rw [hz2]; omega) (by unfold maxLen; omega) (by simp) ?_; intro w1 hown hgrow; have HX := hid (scaleStart hown hgrow); clear hown hgrow)
  clear hi hz0 hz1 hz2
  obtain ⟨w2, hb2, hsz, kp, kc, kv, hh⟩ := HX.out
  have HB2 := hid hb2
  have HK := hid (And.intro hsz (And.intro kp (And.intro kc kv)))
  have HH0 := hid hh
  clear HX hb2 hsz kp kc kv hh
  go_loopw [17] (fun i wr => ∃ k : Nat, k ≤ us.length ∧ i = .int .i64 k ∧ ∃ vs : List TV, vs.length = k ∧ vs.map tm = prodT p (bc, be) ((us.take k).map tm) ∧ Half w2 wr (w.heap.size + 1 + 1) us.length vs) (fun i _ => us.length - (intOf i).toNat)
  case atStart => exact ⟨0, Nat.zero_le _, rfl, [], rfl, rfl, HH0.out⟩
  case round =>
    clear HH0
    obtain ⟨wo, hwo⟩ : ∃ wo : World, wo = wr := ⟨_, rfl⟩
    subst hwo
    obtain ⟨k, hk, rfl, vs, hvk, hvt, hh⟩ := hrel
    have HH := hid hh
    clear hh
    by_cases hk2 : k < us.length
    · obtain ⟨b, off, rfl, hlt, hcell⟩ := HCS.out (by omega)
      have hf := flat_at us k hk2
      have c0 := hcell _ _ hf.1
      have c1 := hcell _ _ hf.2
      have HDN := hid (HH.out.down HB2.out)
      rw [← HDN.out.cell (p := ⟨b, off + k * 2, none⟩) hlt] at c0
      rw [← Nat.add_assoc, ← HDN.out.cell (p := ⟨b, off + k * 2 + 1, none⟩) hlt] at c1
      have HSL := hid (HES.out _ (tv_mem us k hk2))
      have HT := hid (prodT_take p (bc, be) us k hk2)
      have HLE := hid (HTS.out _ (tv_mem us k hk2))
      generalize us.getD k noTV = t at c0 c1 HSL HT HLE
      obtain ⟨tc, tv, te⟩ := t
      obtain ⟨ea, ec, he, hei⟩ := HSL.out
      simp only at c0 c1 he
      subst he
      subst hvk
      have hte : te.length ≤ 3 := by have := HLE.out.1; simp only at this; omega
      have hte0 : 0 < te.length := by have := HLE.out.1; simp only at this; omega
      obtain ⟨eb, eoff, rfl, helt, heint⟩ := hei hte0
      have HEI := hid heint
      clear hf hcell hei heint
      obtain ⟨w3, hw3⟩ : ∃ w3, w3 = wo.alloc (.cells #[.int .i64 tc, .slice (some ⟨eb, eoff, none⟩) te.length ec] 57) := ⟨_, rfl⟩
      have hb3 : Below wo.heap.size wo w3 := by rw [hw3]; exact belowNew
      have hs3 : w3.heap.size = wo.heap.size + 1 := by rw [hw3]; simp
      have q0 : w3.cell? ⟨wo.heap.size, 0, none⟩ = some (.int .i64 tc) := by rw [hw3]; simp [go_sem]
      have q1 : w3.cell? ⟨wo.heap.size, 1, none⟩ = some (.slice (some ⟨eb, eoff, none⟩) te.length ec) := by rw [hw3]; simp [go_sem]
      have hwl : w.heap.size + 1 + 1 < wo.heap.size := HH.out.lt
      have H3 := hid (HH.out.next hb3)
      have HD3 := hid (HDN.out.trans (hb3.mono HDN.out.size))
      have HQ := hid (And.intro q0 q1)
      have HS3 := hid (And.intro hs3 hwl)
      have HB3 := hid hb3
      have HW3 := hid hw3
      clear q0 q1 hs3 hwl hb3 hw3
      have HLZ := hid (zipI_len (· + ·) be te HLE.out.1.symm)
      have hmk := fun (w : World) => run_make_row' (P := Tryz.prog) 55 3 (.int .i64 0) 8 Tryz.underlying55 Tryz.info_int rfl .i64 .i64 te.length (by omega) (by omega) w
      go_wp2
      clear hmk c0 c1
      go_loopw [28] (fun i wx => ∃ j : Nat, j ≤ te.length ∧ i = .int .i64 j ∧ OwnK w3 wx te.length j (zipI (· + ·) be te)) (fun i _ => te.length - (intOf i).toNat)
      case atStart => exact ⟨0, Nat.zero_le _, rfl, by rw [HW3.out]; exact OwnK.start _ _ _⟩
      case round =>
        obtain ⟨j, hj, rfl, hown⟩ := hrel
        have HO := hid hown
        clear hown
        by_cases hj2 : j < te.length
        · have hjb : j < be.length := by have := HLE.out.1; omega
          have HXD := hid (HD3.out.trans (HO.out.1.mono HD3.out.size))
          have x0 := HBI.out j hjb
          have x1 := HEI.out j hj2
          have HZ := hid (zipI_at (· + ·) be te HLE.out.1.symm j hjb)
          have hx := HBE.out _ (getD_mem be j hjb)
          have hy := HLE.out.2.1 _ (getD_mem te j hj2)
          generalize be.getD j 0 = x at x0 HZ hx
          generalize te.getD j 0 = y at x1 HZ hy
          rw [← HXD.out.cell (p := ⟨bb, boff + j, none⟩) hblt] at x0
          rw [← HXD.out.cell (p := ⟨eb, eoff + j, none⟩) helt] at x1
          have b1 := HK.out.2.2.2
          rw [← H3.out.below.cell (p := ⟨w.heap.size + 1, 1, none⟩) (by rw [HK.out.1]; simp), ← HO.out.1.cell (p := ⟨w.heap.size + 1, 1, none⟩) (by have := HS3.out; simp only; omega)] at b1
          have b2 := HQ.out.2
          rw [← HO.out.1.cell (p := ⟨wo.heap.size, 1, none⟩) (by have := HS3.out; simp only; omega)] at b2
          obtain ⟨hsome, hfr⟩ := HO.out.2.2.1 j hj2
          rw [HS3.out.1] at hsome hfr
          obtain ⟨u, hu⟩ := Option.isSome_iff_exists.1 hsome
          obtain ⟨hx1, hx2⟩ := hx
          obtain ⟨hy1, hy2⟩ := hy
          clear hsome
          go_wp2
          go_region
          all_goals
            go_wp2
            go_roundw
            case rel => exact ⟨j + 1, by omega, by go_num, by have h := (HO.out.step hj2 _ HZ.out.symm).drawn; rw [HS3.out.1] at h; exact h⟩
            case measure => simp [intOf]; omega
        · have e : j = te.length := by omega
          subst e
          have HXB := hid (HB3.out.trans (HO.out.1.mono HB3.out.size))
          have HHx := hid (HH.out.next HXB.out)
          have HSx : Hid (Sl wr (.slice (some ⟨wo.heap.size + 1, 0, none⟩) te.length te.length) (zipI (· + ·) be te)) := by
            have h : OwnK w3 wr (zipI (· + ·) be te).length (zipI (· + ·) be te).length (zipI (· + ·) be te) := by rw [HLZ.out, ← HLE.out.1]; exact HO.out
            have h2 := h.sl
            rw [HS3.out.1, HLZ.out, ← HLE.out.1] at h2
            exact h2
          have b0 := HK.out.2.2.1
          rw [← H3.out.below.cell (p := ⟨w.heap.size + 1, 0, none⟩) (by rw [HK.out.1]; simp), ← HO.out.1.cell (p := ⟨w.heap.size + 1, 0, none⟩) (by have := HS3.out; simp only; omega)] at b0
          have r0 := HK.out.2.1
          rw [← H3.out.below.cell (p := ⟨w.heap.size, 0, none⟩) (by rw [HK.out.1]; simp; omega), ← HO.out.1.cell (p := ⟨w.heap.size, 0, none⟩) (by have := HS3.out; simp only; omega)] at r0
          have t0 := HQ.out.1
          rw [← HO.out.1.cell (p := ⟨wo.heap.size, 0, none⟩) (by have := HS3.out; simp only; omega)] at t0
          obtain ⟨x0, x1, y0, y1, z0, z1⟩ := HHx.out.cells hk2
          have hmul := mulBd (a := bc) (b := tc) ⟨by omega, by omega, HLE.out.2.2.1, by have := HLE.out.2.2.2; omega⟩
          obtain ⟨hm1, hm2⟩ := hmul
          have HAP : Hid (Apart (w.heap.size + 1 + 1) (.slice (some ⟨wo.heap.size + 1, 0, none⟩) te.length te.length)) := by
            intro b' off' n' c' e' hb'
            simp only [Value.slice.injEq, Option.some.injEq, Addr.mk.injEq] at e'
            have := HS3.out.2
            omega
          go_wp2
          go_roundw
          case rel => exact ⟨vs.length + 1, by omega, by go_num, vs ++ [_], by simp, by rw [List.map_append, hvt, HT.out]; rfl, HHx.out.put hk2 (bc * tc % p, _, zipI (· + ·) be te) HSx.out HAP.out⟩
          case measure => simp [intOf]; omega
    · have e : k = us.length := by omega
      subst e
      go_wp2
      go_ret
      refine ⟨_, rfl, ?_, HH.out.down HB2.out⟩
      have h := HH.out.done hvk
      rw [hvt, List.take_of_length_le (Nat.le_refl _), HUS.out] at h
      exact h
end Go.Proofs.YtilogbggilchaaaGreat
