/- Product of the reference. -/
import Derived.Test.YtilogbggilchaaaDoorRA
namespace Go.Proofs.YtilogbggilchaaaDoor
set_option linter.unusedSimpArgs false
set_option linter.unusedVariables false
open Go.RowKit
def ApartO (r : Option Nat) (v : Value) : Prop := ∀ b off n c, v = .slice (some ⟨b, off, none⟩) n c → some b ≠ r
theorem grown_slO {w w' : World} {r : Option Nat} {v : Value} {xs : List Int} (h : w.grownBy w' r) (hs : Sl w v xs) (hne : ApartO r v) : Sl w' v xs := by
  obtain ⟨a, cap, rfl, h1⟩ := hs
  refine ⟨a, cap, rfl, fun hp => ?_⟩
  obtain ⟨b, off, rfl, hlt, hc⟩ := h1 hp
  exact ⟨b, off, rfl, Nat.lt_of_lt_of_le hlt h.size, fun i hi => h.cell (hc i hi) (hne b off _ _ rfl)⟩
structure Prd (N : Nat) (w1 wr : World) (v : Value) (ls : List TV) : Prop where
  own : wr.ownsRow w1.heap.size 55 2 v ls.length (flat ls)
  es : Es wr ls
  ap : ∀ t ∈ ls, ApartO v.ownBlock t.2.1
  ln : ∀ t ∈ ls, t.2.2.length = N
  below : Below w1.heap.size w1 wr
theorem Prd.next {N : Nat} {w1 wr w' : World} {v : Value} {ls : List TV} (h : Prd N w1 wr v ls) (hb : Below wr.heap.size wr w') : Prd N w1 w' v ls :=
  ⟨ownBlock_lt h.own hb, h.es.below hb, h.ap, h.ln, h.below.trans (hb.mono h.below.size)⟩
theorem Prd.add {N : Nat} {w1 wr w' : World} {v v' : Value} {ls : List TV} {t : TV} (hN : 0 < N) (h : Prd N w1 wr v ls) (hs : Sl wr t.2.1 t.2.2) (hl : t.2.2.length = N) (ha : ApartO v.ownBlock t.2.1)
    (hown : w'.ownsRow w1.heap.size 55 2 v' (ls.length + 1) (flat ls ++ flat [t])) (hg : wr.grownBy w' v.ownBlock) (hloc : v'.ownBlock = v.ownBlock ∨ v'.ownBlock = some wr.heap.size) : Prd N w1 w' v' (ls ++ [t]) := by
  have hall : ∀ u ∈ ls ++ [t], Sl wr u.2.1 u.2.2 ∧ ApartO v.ownBlock u.2.1 ∧ u.2.2.length = N := by
    intro u hu
    rcases List.mem_append.1 hu with hu | hu
    · exact ⟨h.es u hu, h.ap u hu, h.ln u hu⟩
    · rw [List.mem_singleton] at hu; subst hu; exact ⟨hs, ha, hl⟩
  refine ⟨by rw [flat_append, List.length_append]; exact hown, fun u hu => grown_slO hg (hall u hu).1 (hall u hu).2.1, fun u hu => ?_, fun u hu => (hall u hu).2.2, own_grown h.own h.below hg (Nat.le_refl _)⟩
  rcases hloc with e | e
  · rw [e]; exact (hall u hu).2.1
  · rw [e]
    intro b off n c hv hb
    obtain ⟨a, cap, hv2, h1⟩ := (hall u hu).1
    obtain ⟨b2, off2, hv3, hlt, _⟩ := h1 (by rw [(hall u hu).2.2]; exact hN)
    rw [hv2, hv3] at hv
    simp only [Value.slice.injEq, Option.some.injEq, Addr.mk.injEq] at hv hb
    omega
def okPrev (o : Int) (q : Option (List Int)) (e : List Int) : Bool :=
  match q with
  | some x => moreB o x e
  | none => true
def errFrom (p n o : Int) : Option (List Int) → List Tm → Int
  | _, [] => 0
  | q, t :: ts => if betweenB t.1 1 (p - 1) = false then 3 else if errM n t.2 ≠ 0 then errM n t.2 else if okPrev o q t.2 = false then 4 else errFrom p n o (some t.2) ts
def prevE (ts : List Tm) : Nat → Option (List Int)
  | 0 => none
  | k + 1 => some (ts.getD k noT).2
theorem errFrom_drop (p n o : Int) (ts : List Tm) (k : Nat) (h : k < ts.length) (q : Option (List Int)) : errFrom p n o q (ts.drop k) =
    if betweenB (ts.getD k noT).1 1 (p - 1) = false then 3 else if errM n (ts.getD k noT).2 ≠ 0 then errM n (ts.getD k noT).2 else if okPrev o q (ts.getD k noT).2 = false then 4 else errFrom p n o (prevE ts (k + 1)) (ts.drop (k + 1)) := by
  rw [List.drop_eq_getElem_cons h]
  have e : ts.getD k noT = ts[k] := by simp [List.getD_eq_getElem?_getD, h]
  rw [prevE, e]
  rfl
def errOne (p n o : Int) (ts : List Tm) : Int := if 2000 < ts.length then 2 else errFrom p n o none ts
theorem errFrom_ok {p o : Int} {N : Nat} : ∀ (ts : List Tm) (q : Option (List Int)), errFrom p N o q ts = 0 → (∀ e, q = some e → e.length = N) → (∀ t ∈ ts, (1 ≤ t.1 ∧ t.1 < p) ∧ errM N t.2 = 0) ∧ Falls o ts ∧ (∀ e t ts', q = some e → ts = t :: ts' → 0 < ordS o e t.2)
  | [], q, _, _ => ⟨fun t ht => by simp at ht, trivial, fun e t ts' _ h => by simp at h⟩
  | t :: ts, q, h, hq => by
    have hu : errFrom p N o q (t :: ts) = if betweenB t.1 1 (p - 1) = false then 3 else if errM N t.2 ≠ 0 then errM N t.2 else if okPrev o q t.2 = false then 4 else errFrom p N o (some t.2) ts := rfl
    rw [hu] at h
    clear hu
    by_cases h1 : betweenB t.1 1 (p - 1) = false
    · rw [if_pos h1] at h; omega
    rw [if_neg h1] at h
    by_cases h2 : errM N t.2 ≠ 0
    · rw [if_pos h2] at h; exact absurd h h2
    rw [if_neg h2] at h
    by_cases h3 : okPrev o q t.2 = false
    · rw [if_pos h3] at h; omega
    rw [if_neg h3] at h
    have h2' : errM N t.2 = 0 := by omega
    have hl : t.2.length = N := by have := (errM_ok h2').1; omega
    obtain ⟨i1, i2, i3⟩ := errFrom_ok ts (some t.2) h (fun e he => by simp at he; rw [← he]; exact hl)
    have hb : 1 ≤ t.1 ∧ t.1 < p := by simp [betweenB] at h1; omega
    refine ⟨fun u hu => ?_, ⟨fun u hu => ?_, i2⟩, fun e u ts' he hu => ?_⟩
    · rcases List.mem_cons.1 hu with rfl | hu
      · exact ⟨hb, h2'⟩
      · exact i1 u hu
    · cases ts with
      | nil => simp at hu
      | cons x xs =>
        have hx := i3 t.2 x xs rfl rfl
        rcases List.mem_cons.1 hu with rfl | hu
        · exact hx
        · have l1 : x.2.length = N := by have := (errM_ok (i1 x (by simp)).2).1; omega
          have l2 : u.2.length = N := by have := (errM_ok (i1 u (by simp [hu])).2).1; omega
          exact ordS_trans o t.2 x.2 u.2 (by omega) (by omega) hx (i2.1 u hu)
    · rw [he] at h3
      simp only [List.cons.injEq] at hu
      obtain ⟨rfl, _⟩ := hu
      simpa [okPrev, moreB] using h3
structure Right (p o : Int) (N : Nat) (ts : List Tm) : Prop where
  canon : Canon p o N ts
  bd : Bd2 ts
  len : ts.length ≤ 2000
  deg : ∀ t ∈ ts, sumI t.2 ≤ 200
theorem errOne_ok {p o : Int} {N : Nat} {ts : List Tm} (h : errOne p N o ts = 0) : Right p o N ts := by
  unfold errOne at h
  split at h
  · omega
  rename_i hl
  obtain ⟨h1, h2, _⟩ := errFrom_ok ts none h (fun e he => by simp at he)
  refine ⟨⟨fun t ht => ?_, h2, fun t ht => (h1 t ht).1⟩, fun t ht => (errM_ok (h1 t ht).2).2.1, by omega, fun t ht => (errM_ok (h1 t ht).2).2.2⟩
  have := (errM_ok (h1 t ht).2).1
  omega
theorem wrapPred {k : Nat} (h : 0 < k) (h2 : k ≤ 2000) : IntKind.i64.wrap ((k : Int) - 1) = (k : Int) - 1 := by
  rw [IntKind.wrap_i64]; omega
theorem predFacts {k n : Nat} (h : 0 < k) (h2 : k < n) : (0 : Int) ≤ (k : Int) - 1 ∧ (k : Int) - 1 < (n : Int) ∧ ((k : Int) - 1).toNat = k - 1 ∧ (1 : Int) ≤ (k : Int) ∧ (k : Int) ≤ (n : Int) ∧ ¬ (k : Int) < 1 ∧ ¬ (n : Int) ≤ (k : Int) - 1 := ⟨by omega, by omega, by omega, by omega, by omega, by omega, by omega⟩
end Go.Proofs.YtilogbggilchaaaDoor
