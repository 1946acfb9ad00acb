/- LeadOf of the reference. -/
import Derived.Test.YtilogbggilchaaaGreatPP
import Derived.Test.YtilogbggilchaaaGreatTM
import Derived.Test.YtilogbggilchaaaGreatH
import Derived.Test.YtilogbggilchaaaGreatPI
namespace Go.Proofs.YtilogbggilchaaaGreat
set_option linter.unusedSimpArgs false
set_option linter.unusedVariables false
open Go.RowKit
def ldC : Ld → Int
  | none => 0
  | some (_, u) => u.1
def ldE : Ld → List Int
  | none => []
  | some (_, u) => u.2
def stM (o ov : Int) (st : Ld) (i : Nat) (f : List Tm) (m : Nat) : Ld := if m = 0 then st else leadStep o ov st i f
theorem stM_zero (o ov : Int) (st : Ld) (i : Nat) (f : List Tm) : stM o ov st i f 0 = st := rfl
theorem stM_all (o ov : Int) (st : Ld) (i : Nat) (f : List Tm) : stM o ov st i f f.length = leadStep o ov st i f := by
  unfold stM
  cases f with
  | nil => simp [leadStep]
  | cons t ts => rw [if_neg (by simp)]
theorem stM_none {o ov : Int} {st : Ld} {i : Nat} {f : List Tm} {m : Nat} (hm : m < f.length) (h : stM o ov st i f m = none) : stM o ov st i f (m + 1) = some (i, f.getD m noT) := by
  cases f with
  | nil => simp at hm
  | cons t ts =>
    rcases m with _ | m
    · rw [stM_zero] at h
      subst h
      simp [stM, leadStep]
    · unfold stM at h
      rw [if_neg (by omega)] at h
      simp only [leadStep] at h
      split at h
      · simp at h
      · split at h <;> simp at h
theorem stM_some {o ov : Int} {N : Nat} {st : Ld} {i : Nat} {f : List Tm} {m j : Nat} {u : Tm} (hov : ov = 1 ∨ ov = 2) (hf : Falls o f) (hl : Len N f) (hm : m < f.length) (hst : ∀ j' u', st = some (j', u') → j' < i ∧ u'.2.length = N) (h : stM o ov st i f m = some (j, u)) :
    stM o ov st i f (m + 1) = if aheadB o ov i (f.getD m noT).2 j u.2 then some (i, f.getD m noT) else some (j, u) := by
  cases f with
  | nil => simp at hm
  | cons t ts =>
    rcases m with _ | m
    · rw [stM_zero] at h
      subst h
      obtain ⟨hj, hu⟩ := hst j u rfl
      have htl : t.2.length = u.2.length := by rw [hl t (by simp), hu]
      have hl2 : stM o ov (some (j, u)) i (t :: ts) 1 = if ov = 1 ∧ 0 < ordS o t.2 u.2 then some (i, t) else some (j, u) := by unfold stM; rw [if_neg (by omega)]; rfl
      have hg : (t :: ts).getD 0 noT = t := rfl
      rw [hl2, hg]
      unfold aheadB
      rcases hov with rfl | rfl
      · rw [if_neg (show ¬ ((1 : Int) = 2 ∧ (i : Int) ≠ j) by omega)]
        by_cases he : t.2 = u.2
        · have hz : ordS o t.2 u.2 = 0 := (ordS_zero o t.2 u.2 htl).2 he
          rw [if_neg (by rw [hz]; omega), if_pos (show sameB t.2 u.2 = true from decide_eq_true he), decide_eq_false (show ¬ (i : Int) < j by omega)]; simp
        · rw [if_neg (show ¬ sameB t.2 u.2 = true by unfold sameB; simpa using he)]
          unfold moreB
          by_cases hp : 0 < ordS o t.2 u.2
          · rw [if_pos ⟨rfl, hp⟩, decide_eq_true hp]; rfl
          · rw [if_neg (fun h => hp h.2), decide_eq_false hp]; rfl
      · rw [if_neg (show ¬ ((2 : Int) = 1 ∧ 0 < ordS o t.2 u.2) by omega), if_pos (show (2 : Int) = 2 ∧ (i : Int) ≠ j by omega), decide_eq_false (show ¬ (i : Int) < j by omega)]; simp
    · have h1 : stM o ov st i (t :: ts) (m + 1 + 1) = some (j, u) := by
        unfold stM at h ⊢
        rw [if_neg (by omega)] at h ⊢
        exact h
      rw [h1]
      have hm2 : m < ts.length := by simpa using hm
      have hg : (t :: ts).getD (m + 1) noT = ts.getD m noT := rfl
      rw [hg]
      have hmem : ts.getD m noT ∈ ts := getD_memT ts m hm2
      have hlt := hf.1 _ hmem
      have hxl : (ts.getD m noT).2.length = N := hl _ (List.mem_cons_of_mem _ hmem)
      have htN : t.2.length = N := hl t (by simp)
      generalize ts.getD m noT = x at hlt hxl
      have hanti : ¬ 0 < ordS o x.2 t.2 := by rw [ordS_neg]; omega
      have hne : x.2 ≠ t.2 := by
        intro e
        have := (ordS_zero o t.2 x.2 (by omega)).2 e.symm
        omega
      have hb : aheadB o ov i x.2 j u.2 = false := by
        unfold stM at h
        rw [if_neg (by omega)] at h
        simp only [leadStep] at h
        have key : ∀ {j' : Nat} {u' : Tm}, j' = i ∧ u' = t → aheadB o ov i x.2 j' u'.2 = false := by
          rintro j' u' ⟨rfl, rfl⟩
          unfold aheadB
          rw [if_neg (fun h => h.2 rfl), if_neg (show ¬ sameB x.2 u'.2 = true by unfold sameB; simpa using hne)]
          unfold moreB
          exact decide_eq_false hanti
        split at h
        · simp only [Option.some.injEq, Prod.mk.injEq] at h
          exact key ⟨h.1.symm, h.2.symm⟩
        · rename_i j0 u0
          split at h
          · simp only [Option.some.injEq, Prod.mk.injEq] at h
            exact key ⟨h.1.symm, h.2.symm⟩
          · rename_i hno
            simp only [Option.some.injEq, Prod.mk.injEq] at h
            obtain ⟨rfl, rfl⟩ := h
            obtain ⟨hj, hu⟩ := hst j0 u0 rfl
            unfold aheadB
            rcases hov with rfl | rfl
            · rw [if_neg (show ¬ ((1 : Int) = 2 ∧ (i : Int) ≠ j0) by omega)]
              split
              · exact decide_eq_false (by omega)
              · unfold moreB
                refine decide_eq_false (fun hp => hno ⟨rfl, ordS_trans o t.2 x.2 u0.2 (by omega) (by omega) hlt hp⟩)
            · rw [if_pos (show (2 : Int) = 2 ∧ (i : Int) ≠ j0 by omega)]
              exact decide_eq_false (by omega)
      rw [hb]; simp

structure LdW (w wr : World) (p n o v : Int) (st : Ld) : Prop where
  below : Below w.heap.size w wr
  box : BoxAt wr w.heap.size p n o v
  res : wr.ownsRow w.heap.size 57 2 (.slice (some ⟨w.heap.size + 1, 0, none⟩) 1 1) 1 [.int .i64 0, .slice none 0 0]
  own : ∃ ea ec, wr.ownsRow w.heap.size 57 2 (.slice (some ⟨w.heap.size + 1 + 1, 0, none⟩) 1 1) 1 [.int .i64 (ldC st), .slice ea (ldE st).length ec] ∧ Sl w (.slice ea (ldE st).length ec) (ldE st)
theorem LdW.next {w wr w' : World} {p n o v : Int} {st : Ld} (h : LdW w wr p n o v st) (hb : Below wr.heap.size wr w') : LdW w w' p n o v st := by
  obtain ⟨ea, ec, h1, h2⟩ := h.own
  exact ⟨h.below.trans (hb.mono h.below.size), h.box.below hb, ownBlock_lt h.res hb, ea, ec, ownBlock_lt h1 hb, h2⟩
theorem LdW.put {w wr : World} {p n o v : Int} {st : Ld} (h : LdW w wr p n o v st) (i : Nat) (t : Tm) (ea : Option Addr) (ec : Nat) (hs : Sl w (.slice ea t.2.length ec) t.2) :
    LdW w ((wr.setCell ⟨w.heap.size + 1 + 1, 0, none⟩ (.int .i64 t.1)).setCell ⟨w.heap.size + 1 + 1, 1, none⟩ (.slice ea t.2.length ec)) p n o v (some (i, t)) := by
  obtain ⟨ea0, ec0, h1, _⟩ := h.own
  have s1 := h1.stored 0 (.int .i64 t.1)
  have s2 := s1.1.stored 1 (.slice ea t.2.length ec)
  have hg := grown_trans s1.2 s2.2
  have hlt := h.box.1
  refine ⟨h.below.trans (grown_below hg (by omega) h.below.size), ?_, h.res.kept hg (Or.inr (by simp [Value.ownBlock])), ea, ec, ?_, hs⟩
  · have far := fun o => cell_far (o := o) hg hlt (show w.heap.size ≠ w.heap.size + 1 + 1 by omega)
    obtain ⟨_, b0, b1, b2, b3⟩ := h.box
    exact ⟨Nat.lt_of_lt_of_le hlt hg.size, by rw [far]; exact b0, by rw [far]; exact b1, by rw [far]; exact b2, by rw [far]; exact b3⟩
  · have := s2.1
    simpa [ldC, ldE] using this
theorem LdW.first (w : World) (p n o v : Int) : LdW w (((w.alloc (.cells #[.int .i64 p, .int .i64 n, .int .i64 o, .int .i64 v] 23)).alloc (.cells #[.int .i64 0, .slice none 0 0] 57)).alloc (.cells #[.int .i64 0, .slice none 0 0] 57)) p n o v none := by
  have h1 := made_term (w := w.alloc (.cells #[.int .i64 p, .int .i64 n, .int .i64 o, .int .i64 v] 23)) (B := w.heap.size) (by simp) 0 (.slice none 0 0)
  have h2 := made_term (w := (w.alloc (.cells #[.int .i64 p, .int .i64 n, .int .i64 o, .int .i64 v] 23)).alloc (.cells #[.int .i64 0, .slice none 0 0] 57)) (B := w.heap.size) (by simp; omega) 0 (.slice none 0 0)
  refine ⟨below_two.trans (belowNew.mono below_two.size), ((BoxAt.new w p n o v _).below belowNew).below belowNew, ?_, none, 0, ?_, none, 0, rfl, fun h => by simp [ldE] at h⟩
  · have := ownBlock_lt h1 (belowNew (A := .cells #[.int .i64 0, .slice none 0 0] 57))
    simpa using this
  · simpa [ldC, ldE] using h2
structure ReW (w wr : World) (p n o v : Int) : Prop where
  below : Below w.heap.size w wr
  box : BoxAt wr w.heap.size p n o v
  res : wr.ownsRow w.heap.size 57 2 (.slice (some ⟨w.heap.size + 1, 0, none⟩) 1 1) 1 [.int .i64 0, .slice none 0 0]
theorem ReW.next {w wr w' : World} {p n o v : Int} (h : ReW w wr p n o v) (hb : Below wr.heap.size wr w') : ReW w w' p n o v :=
  ⟨h.below.trans (hb.mono h.below.size), h.box.below hb, ownBlock_lt h.res hb⟩
theorem ReW.first (w : World) (p n o v : Int) : ReW w ((w.alloc (.cells #[.int .i64 p, .int .i64 n, .int .i64 o, .int .i64 v] 23)).alloc (.cells #[.int .i64 0, .slice none 0 0] 57)) p n o v := by
  have h1 := made_term (w := w.alloc (.cells #[.int .i64 p, .int .i64 n, .int .i64 o, .int .i64 v] 23)) (B := w.heap.size) (by simp) 0 (.slice none 0 0)
  exact ⟨below_two, (BoxAt.new w p n o v _).below belowNew, by simpa using h1⟩
theorem ReW.cells {w wr : World} {p n o v : Int} (h : ReW w wr p n o v) : wr.cell? ⟨w.heap.size + 1, 0, none⟩ = some (.int .i64 0) ∧ wr.cell? ⟨w.heap.size + 1, 1, none⟩ = some (.slice none 0 0) ∧ wr.frozen? ⟨w.heap.size + 1, 0, none⟩ = false ∧ wr.frozen? ⟨w.heap.size + 1, 1, none⟩ = false :=
  ⟨h.res.cellAt 0 (by omega), h.res.cellAt 1 (by omega), h.res.frozenAt 0, h.res.frozenAt 1⟩
theorem ReW.put {w wr : World} {p n o v : Int} (h : ReW w wr p n o v) (c : Int) (u : Value) : Below w.heap.size w ((wr.setCell ⟨w.heap.size + 1, 0, none⟩ (.int .i64 c)).setCell ⟨w.heap.size + 1, 1, none⟩ u) ∧
    ((wr.setCell ⟨w.heap.size + 1, 0, none⟩ (.int .i64 c)).setCell ⟨w.heap.size + 1, 1, none⟩ u).cell? ⟨w.heap.size + 1, 0, none⟩ = some (.int .i64 c) ∧
    ((wr.setCell ⟨w.heap.size + 1, 0, none⟩ (.int .i64 c)).setCell ⟨w.heap.size + 1, 1, none⟩ u).cell? ⟨w.heap.size + 1, 1, none⟩ = some u := by
  have s1 := h.res.stored 0 (.int .i64 c)
  have s2 := s1.1.stored 1 u
  exact ⟨h.below.trans (grown_below (grown_trans s1.2 s2.2) (by omega) h.below.size), s2.1.cellAt 0 (by omega), s2.1.cellAt 1 (by omega)⟩
theorem pl_new1 {w : World} {c1 : Int} {s1 : Value} {e1 : List Int} {T : TypeId} (h1 : Sl w s1 e1) : Pl (w.alloc (.cells #[.int .i64 c1, s1] T)) (.slice (some ⟨w.heap.size, 0, none⟩) 1 1) [(c1, e1)] := by
  refine ⟨_, 1, rfl, Nat.le_refl _, fun _ => ⟨w.heap.size, 0, rfl, by simp, fun i hi => ?_⟩⟩
  rcases i with _ | i
  · exact ⟨by simp [go_sem], s1, by simp [go_sem], h1.below below_oneG⟩
  · simp at hi
def dOut : List Int → Int
  | [] => -1
  | z :: _ => z
def Alike (L : List Int) : Prop := ∀ y ∈ L, y = dOut L
theorem errVecs_ok {p n o v rank : Int} {vss : List (List (List Tm))} (h : errVecs p n o v rank vss = 0) : errR p n o v = 0 ∧ (1 ≤ rank ∧ rank ≤ 40) ∧ vss.length ≤ 60 ∧ ∀ u ∈ vss, (u.length : Int) = rank ∧ ∀ f ∈ u, errOne p n o f = 0 := by
  unfold errVecs at h
  by_cases hr : errR p n o v = 0
  · rw [if_neg (by simpa using hr)] at h
    unfold errList at h
    cases hb : betweenB rank 1 40
    · rw [if_pos hb] at h; exact absurd h (by decide)
    · rw [if_neg (by rw [hb]; simp)] at h
      by_cases hl : 60 < vss.length
      · rw [if_pos hl] at h; exact absurd h (by decide)
      · rw [if_neg hl] at h
        refine ⟨hr, by simpa [betweenB] using hb, by omega, fun u hu => ?_⟩
        have h1 := firstZ_ok h u hu
        unfold errVec at h1
        by_cases hu2 : (u.length : Int) = rank
        · rw [if_neg (by simpa using hu2)] at h1; exact ⟨hu2, firstOne_ok h1⟩
        · rw [if_pos hu2] at h1; exact absurd h1 (by decide)
  · rw [if_pos hr] at h; exact absurd h hr
def prK (p o : Int) (cs : List (List Tm)) (vss : List (List (List Tm))) (k i : Nat) : List Tm := colL p o (prodL p (cs.getD i []) ((vss.getD i []).getD k []))
def prKs (p o : Int) (cs : List (List Tm)) (vss : List (List (List Tm))) (k m : Nat) : List (List Tm) := (List.range m).map (prK p o cs vss k)
structure AllR (p o : Int) (N R : Nat) (cs : List (List Tm)) (vss : List (List (List Tm))) : Prop where
  c : ∀ c ∈ cs, Right p o N c
  v : ∀ u ∈ vss, u.length = R ∧ ∀ f ∈ u, Right p o N f
  l : cs.length = vss.length
theorem AllR.at {p o : Int} {N R : Nat} {cs : List (List Tm)} {vss : List (List (List Tm))} (h : AllR p o N R cs vss) {k i : Nat} (hi : i < vss.length) (hk : k < R) : Right p o N (cs.getD i []) ∧ Right p o N ((vss.getD i []).getD k []) := by
  have h1 := h.v _ (getD_memV vss i hi)
  exact ⟨h.c _ (getD_memL cs i (by rw [h.l]; exact hi)), h1.2 _ (getD_memL _ k (by rw [h1.1]; exact hk))⟩
theorem AllR.pr {p o : Int} {N R : Nat} {cs : List (List Tm)} {vss : List (List (List Tm))} (hp : 2 ≤ p) (h : AllR p o N R cs vss) {k i : Nat} (hi : i < vss.length) (hk : k < R) : Canon p o N (prK p o cs vss k i) ∧ Bd (prK p o cs vss k i) := by
  obtain ⟨h1, h2⟩ := h.at hi hk
  refine ⟨Okl.col hp (Okl.prod hp h1.canon.okl h2.canon.okl), fun t ht x hx => ?_⟩
  obtain ⟨y, hy, ey⟩ := col_mem ht
  rw [ey] at hx
  exact (prodL_tok hp h1.canon.len h2.canon.len h1.bd h2.bd y hy).2.1 x hx
theorem okl_flat {p : Int} {n : Nat} : ∀ {fss : List (List Tm)}, (∀ f ∈ fss, Okl p n f) → Okl p n fss.flatten
  | [], _ => ⟨fun t ht => by simp at ht, fun t ht => by simp at ht⟩
  | f :: r, h => by rw [List.flatten_cons]; exact (h f (by simp)).append (okl_flat (fun g hg => h g (by simp [hg])))
theorem prKs_mem {p o : Int} {cs : List (List Tm)} {vss : List (List (List Tm))} {k m : Nat} {f : List Tm} (h : f ∈ prKs p o cs vss k m) : ∃ i, i < m ∧ f = prK p o cs vss k i := by
  obtain ⟨i, hi, e⟩ := List.mem_map.1 h
  exact ⟨i, List.mem_range.1 hi, e.symm⟩
theorem AllR.okl {p o : Int} {N R : Nat} {cs : List (List Tm)} {vss : List (List (List Tm))} (hp : 2 ≤ p) (h : AllR p o N R cs vss) {k m : Nat} (hm : m ≤ vss.length) (hk : k < R) : Okl p N (prKs p o cs vss k m).flatten :=
  okl_flat (fun f hf => by obtain ⟨i, hi, rfl⟩ := prKs_mem hf; exact (h.pr hp (by omega) hk).1.okl)
end Go.Proofs.YtilogbggilchaaaGreat
