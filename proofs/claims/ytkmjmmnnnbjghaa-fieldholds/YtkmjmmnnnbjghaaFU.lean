/- FieldHolds: choose; the columns in memory. -/
import Derived.Test.YtkmjmmnnnbjghaaFT
import Derived.Test.YtkmjmmnnnbjghaaFJ
import Derived.OpenShut
namespace Go.Proofs.Ytkmjmmnnnbjghaa
set_option linter.unusedSimpArgs false
set_option linter.unusedVariables false
open Go.RowKit

set_option maxHeartbeats 400000 in
theorem choose_any (c : Int) (n : Nat) (w : World) (hc1 : -9223372036854775808 ≤ c) (hc2 : c ≤ 9223372036854775807) (hn : 2 ≤ n) (hn2 : n ≤ 101) :
    Calls Try.prog 21 #[.int .i64 c, .int .i64 n] w fun e w' => ∃ r : Nat, e = .returned (.int .i64 r) ∧ r < n ∧ w' = w := by
  have key : ∀ x : Int, 0 ≤ x → ∃ r : Nat, x % (n : Int) = r ∧ r < n := fun x hx => by
    have h1 : 0 ≤ x % (n : Int) := Int.emod_nonneg _ (by omega)
    have h2 : x % (n : Int) < n := Int.emod_lt_of_pos _ (by omega)
    exact ⟨(x % (n : Int)).toNat, by omega, by omega⟩
  have KEY := hid key
  clear key
  by_cases h : c < 0
  · obtain ⟨r, hr, hr2⟩ := KEY.out (-(c + 1)) (by omega)
    have HR := hid hr
    clear hr
    go_enter Try.func21, Try.ntmps21
    go_wp2
    go_ret
    exact ⟨r, ret_int (by first | exact HR.out | (rw [← Int.neg_tmod, Int.tmod_eq_emod_of_nonneg (by omega)]; exact HR.out)), hr2, rfl⟩
  · obtain ⟨r, hr, hr2⟩ := KEY.out c (by omega)
    have HR := hid hr
    clear hr
    go_enter Try.func21, Try.ntmps21
    go_wp2
    go_ret
    exact ⟨r, ret_int HR.out, hr2, rfl⟩

theorem own_Sl {w : World} {B : Nat} {v : Value} {xs : List Int} (h : Own w B v xs) : Sl w v xs := by
  by_cases h0 : 0 < xs.length
  · obtain ⟨g, c, rfl, _, hlt⟩ := own_form h h0
    exact ⟨_, c, rfl, fun _ => ⟨g, 0, rfl, hlt, own_ints h⟩⟩
  · obtain ⟨a, c, rfl⟩ := own_any_form h
    exact ⟨a, c, rfl, fun h' => absurd h' h0⟩

abbrev Col := List Int × Value
/-- The columns that were made so far. -/
structure Cols (B : Nat) (w : World) (v : Value) (ps : List Col) : Prop where
  own : w.ownsRow B 36 1 v ps.length (ps.map Prod.snd)
  rows : ∀ q ∈ ps, Own w B q.2 q.1
theorem Cols.below {B : Nat} {w w' : World} {v : Value} {ps : List Col} (h : Cols B w v ps) (hb : Below w.heap.size w w') : Cols B w' v ps :=
  ⟨ownBlock_lt h.own hb, fun q hq => ownBlock_lt (h.rows q hq) hb⟩
theorem Cols.snoc {B : Nat} {w w1 : World} {v v' : Value} {ps : List Col} {r : List Int} {u : Value} (h : Cols B w v ps) (hu : Own w B u r)
    (hown : w1.ownsRow B 36 1 v' (ps.length + 1) (ps.map Prod.snd ++ [u])) (hg : w.grownBy w1 v.ownBlock) : Cols B w1 v' (ps ++ [(r, u)]) := by
  refine ⟨by rw [List.map_append, List.length_append]; exact hown, fun q hq => ?_⟩
  rw [List.mem_append, List.mem_singleton] at hq
  rcases hq with hq | rfl
  · exact (h.rows q hq).kept hg (own_neT (by decide) (h.rows q hq) h.own)
  · exact hu.kept hg (own_neT (by decide) hu h.own)
theorem Cols.rws {B : Nat} {w : World} {v : Value} {ps : List Col} (h : Cols B w v ps) : Rws w v (ps.map Prod.fst) := by
  obtain ⟨a, c, rfl⟩ := own_sl h.own
  refine ⟨a, c, by simp, fun hp => ?_⟩
  simp at hp
  obtain ⟨g, rfl, _, hlt, _⟩ := own_at1 h.own 0 hp
  refine ⟨g, 0, rfl, hlt, fun i hi => ?_⟩
  simp at hi
  obtain ⟨g', hg', _, _, hc⟩ := own_at1 h.own i hi
  simp at hg'
  subst hg'
  have e : (ps.map Prod.fst).getD i [] = ps[i].1 := by simp [List.getD_eq_getElem?_getD, hi]
  rw [e, Nat.zero_add]
  exact ⟨ps[i].2, by rw [hc]; simp [hi], own_Sl (h.rows ps[i] (List.getElem_mem hi))⟩

theorem rowsE_mk {p : Int} {m : Nat} {xss : List (List Int)} (hp : errP p = 0) (hl : xss.length ≤ 400) (hm : m ≤ 400) (h : ∀ r ∈ xss, RowOk p m r) : rowsE p xss = 0 := by
  unfold rowsE
  rw [if_pos hp]
  unfold rowE
  have h1 : xss.any longR = false := by
    rw [List.any_eq_false]; intro r hr; have := (h r hr).1; simp [longR]; omega
  have h2 : xss.any (unlikeR (xss.getD 0 []).length) = false := by
    rw [List.any_eq_false]
    intro r hr
    have e : (xss.getD 0 []).length = m := by
      cases xss with
      | nil => simp at hr
      | cons x r => simpa using (h x (by simp)).1
    have := (h r hr).1
    rw [e]; simp [unlikeR]; omega
  have h3 : xss.any (fun xs => xs.any (outP p)) = false := by
    rw [List.any_eq_false]
    intro r hr
    have := (h r hr).2
    simp only [Bool.not_eq_true]
    rw [List.any_eq_false]
    intro x hx
    have := this x hx
    simp [outP]; omega
  rw [if_neg (by rw [h1]; simp; omega), if_neg (by rw [h2]; exact Bool.false_ne_true), if_neg (by rw [h3]; exact Bool.false_ne_true)]

def colAt (xss : List (List Int)) (k : Nat) : List Int := xss.map fun r => r.getD k 0
def turn (xss : List (List Int)) (n : Nat) : List (List Int) := (List.range n).map (colAt xss)
theorem colAt_ok {p : Int} {n k : Nat} {xss : List (List Int)} (h : ∀ r ∈ xss, RowOk p n r) (hk : k < n) : RowOk p xss.length (colAt xss k) := by
  refine ⟨by simp [colAt], fun x hx => ?_⟩
  simp only [colAt, List.mem_map] at hx
  obtain ⟨r, hr, rfl⟩ := hx
  exact (h r hr).2 _ (getD_mem r k (by rw [(h r hr).1]; exact hk))
theorem turn_ok {p : Int} {n : Nat} {xss : List (List Int)} (h : ∀ r ∈ xss, RowOk p n r) : ∀ r ∈ turn xss n, RowOk p xss.length r := by
  intro r hr
  simp only [turn, List.mem_map, List.mem_range] at hr
  obtain ⟨k, hk, rfl⟩ := hr
  exact colAt_ok h hk
theorem turn_at (xss : List (List Int)) (n i j : Nat) (hi : i < xss.length) (hj : j < n) : Uf (turn xss n) j i = Uf xss i j := by
  simp [Uf, turn, colAt, List.getD_eq_getElem?_getD, hi, hj]
theorem turn_rank {p n : Nat} {xss : List (List Int)} (hp : 2 ≤ p) (hp2 : p ≤ 101) (hpr : noDiv p p = true) (h : ∀ r ∈ xss, RowOk p n r) : (pivs p (turn xss n)).length = (pivs p xss).length := by
  apply Nat.le_antisymm
  · exact rank_le hp hp2 hpr h (turn_ok h) rfl (by simp [turn]) (fun i j hi hj => turn_at xss n i j hi hj)
  · exact rank_le hp hp2 hpr (turn_ok h) h (by simp [turn]) rfl (fun i j hi hj => (turn_at xss n j i hj hi).symm)

theorem add_mul_mod (p a b c : Int) : (a + b) % p * c % p = (a * c % p + b * c % p) % p := by
  rw [Int.mul_emod ((a + b) % p) c p, Int.emod_emod_of_dvd _ (Int.dvd_refl p), ← Int.mul_emod, ← Int.add_emod, Int.add_mul]

end Go.Proofs.Ytkmjmmnnnbjghaa

