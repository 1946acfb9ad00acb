/- clone, of terms. -/
import Derived.Test.YtilogbggilchaaaDoorPF
import Derived.Test.YtilogbggilchaaaDoorFI
namespace Go.Proofs.YtilogbggilchaaaDoor
set_option linter.unusedSimpArgs false
set_option linter.unusedVariables false
open Go.RowKit
def Apart (g : Nat) (v : Value) : Prop := ∀ b off n c, v = .slice (some ⟨b, off, none⟩) n c → b ≠ g
structure Half (w : World) (wr : World) (g n : Nat) (us : List TV) : Prop where
  own : ∃ rest, wr.ownsRow w.heap.size 55 2 (.slice (some ⟨g, 0, none⟩) n n) n (flat us ++ rest) ∧ (flat us ++ rest).length = n * 2
  es : Es wr us
  apart : ∀ t ∈ us, Apart g t.2.1
  below : Below w.heap.size w wr
  ge : w.heap.size ≤ g
theorem Half.next {w wr w' : World} {g n : Nat} {us : List TV} (h : Half w wr g n us) (hb : Below wr.heap.size wr w') : Half w w' g n us := by
  obtain ⟨rest, h1, h2⟩ := h.own
  exact ⟨⟨rest, ownBlock_lt h1 hb, h2⟩, h.es.below hb, h.apart, h.below.trans (hb.mono h.below.size), h.ge⟩
theorem Half.lt {w wr : World} {g n : Nat} {us : List TV} (h : Half w wr g n us) : g < wr.heap.size := by
  obtain ⟨rest, h1, _⟩ := h.own
  exact (World.ownsRow.lt h1 g rfl).2
theorem Half.cells {w wr : World} {g n : Nat} {us : List TV} (h : Half w wr g n us) (hk : us.length < n) :
    ∃ a b, wr.cell? ⟨g, us.length * 2, none⟩ = some a ∧ wr.cell? ⟨g, us.length * 2 + 1, none⟩ = some b ∧ wr.frozen? ⟨g, us.length * 2, none⟩ = false ∧ wr.frozen? ⟨g, us.length * 2 + 1, none⟩ = false := by
  obtain ⟨rest, h1, h2⟩ := h.own
  have e1 := h1.cellAt (us.length * 2) (by omega)
  have e2 := h1.cellAt (us.length * 2 + 1) (by omega)
  rw [List.getElem?_eq_getElem (by omega)] at e1 e2
  exact ⟨_, _, e1, e2, h1.frozenAt _, h1.frozenAt _⟩
theorem set_two (l : List Value) (a b : Value) : ∀ r : List Value, 2 ≤ r.length → ((l ++ r).set l.length a).set (l.length + 1) b = l ++ [a, b] ++ r.drop 2
  | [], h => by simp at h
  | [_], h => by simp at h
  | x :: y :: r, _ => by simp [List.set_append_right]
theorem Half.put {w wr : World} {g n : Nat} {us : List TV} (h : Half w wr g n us) (hk : us.length < n) (t : TV) (hs : Sl wr t.2.1 t.2.2) (ha : Apart g t.2.1) :
    Half w ((wr.setCell ⟨g, us.length * 2, none⟩ (.int .i64 t.1)).setCell ⟨g, us.length * 2 + 1, none⟩ t.2.1) g n (us ++ [t]) := by
  obtain ⟨rest, h1, h2⟩ := h.own
  have s1 := h1.stored (us.length * 2) (.int .i64 t.1)
  have s2 := s1.1.stored (us.length * 2 + 1) t.2.1
  have hg := grown_trans s1.2 s2.2
  rw [List.length_append, flat_len] at h2
  refine ⟨⟨rest.drop 2, ?_, ?_⟩, ?_, ?_, h.below.trans (grown_below hg h.ge h.below.size), h.ge⟩
  · have e := set_two (flat us) (.int .i64 t.1) t.2.1 rest (by omega)
    rw [flat_len] at e
    have := s2.1
    rw [e] at this
    rw [flat_append]
    exact this
  · rw [List.length_append, flat_len, List.length_drop, List.length_append]; simp; omega
  · intro u hu
    rcases List.mem_append.1 hu with hu | hu
    · exact grown_sl hg (h.es u hu) (h.apart u hu)
    · rw [List.mem_singleton] at hu; subst hu
      exact grown_sl hg hs ha
  · intro u hu
    rcases List.mem_append.1 hu with hu | hu
    · exact h.apart u hu
    · rw [List.mem_singleton] at hu; subst hu; exact ha
theorem Half.drawn {w wr : World} {g n : Nat} {us : List TV} (h : Half w wr g n us) : Half w wr.drew g n us := h.next (Below.refl _ _).drew
theorem Half.done {w wr : World} {g n : Nat} {us : List TV} (h : Half w wr g n us) (hn : us.length = n) : Pl wr (.slice (some ⟨g, 0, none⟩) n n) (us.map tm) := by
  obtain ⟨rest, h1, h2⟩ := h.own
  rw [List.length_append, flat_len] at h2
  have e : rest = [] := List.length_eq_zero_iff.1 (by omega)
  rw [e, List.append_nil] at h1
  subst hn
  exact own_pl h1 h.es
theorem Half.made {w w' : World} {n : Nat} {z : Array Value} (h : w'.ownsRow w.heap.size 55 2 (.slice (some ⟨w.heap.size, 0, none⟩) n n) n (madeCells z (n * 2)).toList) (hg : w.grownBy w' none) : Half w w' w.heap.size n [] :=
  ⟨⟨(madeCells z (n * 2)).toList, h, by simp [flat, size_madeCells]⟩, fun t ht => by simp at ht, fun t ht => by simp at ht, ⟨hg.os, hg.tape, hg.output, hg.size, fun k hk => hg.block k hk (by simp)⟩, Nat.le_refl _⟩

theorem take_tm (us : List TV) (k : Nat) (h : k < us.length) : (us.take (k + 1)).map tm = (us.take k).map tm ++ [tm (us.getD k noTV)] := by
  rw [List.take_succ_eq_append_getElem h, List.map_append]
  simp [List.getD_eq_getElem?_getD, h]
theorem own_sl' {w : World} {B : Nat} {T : TypeId} {s : Nat} {v : Value} {n : Nat} {xs : List Value} (h : w.ownsRow B T s v n xs) : ∃ a c, v = .slice a n c := by
  rcases h.2 with ⟨h1, h2⟩ | ⟨g, c, cur, h1, _⟩
  · exact ⟨none, 0, by rw [h1, h2]⟩
  · exact ⟨_, c, h1⟩
theorem ownsRow_slI {w : World} {B : Nat} {v : Value} {zs : List Int} (h : Own w B v zs) : Sl w v zs := by
  obtain ⟨_, h | ⟨g, cap, cur, rfl, hg, hh, hn, hm, hcs, ht⟩⟩ := h
  · obtain ⟨rfl, h0⟩ := h
    refine ⟨none, 0, by rw [h0], fun hp => absurd hp (by omega)⟩
  · refine ⟨_, cap, rfl, fun _ => ⟨g, 0, rfl, ?_, fun i hi => ?_⟩⟩
    · apply Nat.lt_of_not_le; intro hle; rw [Array.getElem?_eq_none hle] at hh; simp at hh
    · have e : cur.toList[i]? = some (.int .i64 (zs.getD i 0)) := by
        have h1 : (cur.toList.take (zs.length * 1))[i]? = (zs.map (Value.int .i64))[i]? := by rw [ht]
        rw [List.getElem?_take, if_pos (by omega), List.getElem?_map] at h1
        rw [h1, List.getD_eq_getElem?_getD, List.getElem?_eq_getElem hi]; rfl
      unfold World.cell?
      simp only [hh, Nat.zero_add]
      simpa using e
theorem own_apart {w : World} {B g : Nat} {v : Value} {zs : List Int} (h : Own w B v zs) (hg : g < B) : Apart g v := by
  intro b off n c e hb
  have hv : v.ownBlock = some b := by rw [e]; rfl
  have := (World.ownsRow.lt h b hv).1
  omega

set_option maxHeartbeats 1000000 in
theorem bareClone_any (v : Value) (ts : List Tm) (w : World) (hm : ts.length ≤ 4000000) (hl : ∀ t ∈ ts, t.2.length ≤ 400) (hs : Pl w v ts) :
    Calls Tryd.prog 56 #[v] w fun e w' => ∃ u, e = .returned u ∧ Pl w' u ts ∧ Below w.heap.size w w' := by
  obtain ⟨a, cap, us, rfl, _, hus, hes, hcs⟩ := hs.tvs
  have hul : us.length = ts.length := by rw [← hus, List.length_map]
  have HUS := hid hus
  have HES := hid hes
  have HCS := hid hcs
  have HL := hid hl
  have hm' : us.length ≤ 4000000 := by omega
  clear hs hus hes hcs hl hm hul
  obtain ⟨i0, hi, hz0, hz1, hz2⟩ := info_parts Tryd.infoTerm
  go_enter Tryd.func56, Tryd.ntmps56
  go_wp2_with (at_make; refine wpList_make_full _ rfl _ _ 25 rfl w.heap.size 55 i0 _ 2 Tryd.underlying25 hi hz0 hz1 .i64 .i64 _ _ us.length rfl rfl rfl rfl (by rw [hz2]; omega) (by unfold maxLen; omega) (Nat.le_refl _) ?_; intro w1 hown hgrow; have HH := hid (Half.made hown hgrow); clear hown hgrow)
  clear hi hz0 hz1 hz2
  go_loopw [11] (fun i wr => ∃ k : Nat, k ≤ us.length ∧ i = .int .i64 k ∧ ∃ vs : List TV, vs.length = k ∧ vs.map tm = (us.take k).map tm ∧ Half w wr w.heap.size us.length vs) (fun i _ => us.length - (intOf i).toNat)
  case atStart => exact ⟨0, Nat.zero_le _, rfl, [], rfl, rfl, HH.out⟩
  case round =>
    clear HH
    obtain ⟨k, hk, rfl, vs, hvk, hvt, hh⟩ := hrel
    have HH := hid hh
    clear hh
    by_cases hk2 : k < us.length
    · obtain ⟨b, off, rfl, hlt, hcell⟩ := HCS.out (by omega)
      have hf := flat_at us k hk2
      have c0 := hcell _ _ hf.1
      have c1 := hcell _ _ hf.2
      rw [← HH.out.below.cell (p := ⟨b, off + k * 2, none⟩) hlt] at c0
      rw [← Nat.add_assoc, ← HH.out.below.cell (p := ⟨b, off + k * 2 + 1, none⟩) hlt] at c1
      have HSL := hid (HES.out _ (tv_mem us k hk2))
      have HT := hid (take_tm us k hk2)
      have HLE := hid (HL.out (tm (us.getD k noTV)) (by rw [← HUS.out]; exact List.mem_map_of_mem (tv_mem us k hk2)))
      generalize us.getD k noTV = t at c0 c1 HSL HT HLE
      obtain ⟨tc, tv, te⟩ := t
      obtain ⟨ea, ec, he, _⟩ := HSL.out
      simp only at c0 c1 he
      subst he
      subst hvk
      clear hf hcell
      have H1 := hid (HH.out.next (belowNew (A := .cells #[.int .i64 tc, .slice ea te.length ec] 55)))
      have HB1 := hid (HH.out.below.trans ((belowNew (w := wr) (A := .cells #[.int .i64 tc, .slice ea te.length ec] 55)).mono HH.out.below.size))
      have D0 : Hid ((wr.alloc (.cells #[.int .i64 tc, .slice ea te.length ec] 55)).drew.cell? ⟨wr.heap.size, 0, none⟩ = some (.int .i64 tc)) := by show _ = _; simp [go_sem]
      go_wp2
      go_region_with (go_at_call 77; refine (clone_any _ te _ HLE.out ((HSL.out.below HB1.out).below (Below.refl _ _).drew)).mono ?_; rintro e w9 ⟨u, rfl, hu, hb9⟩; have HH9 := hid (H1.out.drawn.next hb9); have HU := hid (And.intro (ownsRow_slI hu) (own_apart hu (H1.out.drawn.lt))); obtain ⟨x0, x1, y0, y1, z0, z1⟩ := HH9.out.cells hk2; have d0 := D0.out; rw [← hb9.cell (by simp)] at d0; obtain ⟨ua, uc, rfl⟩ := own_sl' hu; clear hb9 hu)
      all_goals
        go_wp2
        go_roundw
        case rel => exact ⟨vs.length + 1, by omega, by go_num, vs ++ [_], by simp, by rw [List.map_append, hvt, HT.out]; rfl, HH9.out.put hk2 (tc, _, te) HU.out.1 HU.out.2⟩
        case measure => simp [intOf]; omega
    · have e : k = us.length := by omega
      subst e
      go_wp2
      go_ret
      refine ⟨_, rfl, ?_, HH.out.below⟩
      have h := HH.out.done hvk
      rw [hvt, List.take_of_length_le (Nat.le_refl _), HUS.out] at h
      exact h
end Go.Proofs.YtilogbggilchaaaDoor
