/- bare.Sum, bare.Product. -/
import Derived.Test.YtilogbggilchaaaDoorPJ
namespace Go.Proofs.YtilogbggilchaaaDoor
set_option linter.unusedSimpArgs false
set_option linter.unusedVariables false
open Go.RowKit
theorem cat_getD (fss : List (List Tm)) : cat (fun i => fss.getD i []) 0 fss.length = fss.flatten := by
  have e : (List.range fss.length).map (fun i => fss.getD i []) = fss := by
    apply List.ext_getElem?
    intro i
    by_cases hi : i < fss.length
    · simp [hi]
    · rw [List.getElem?_eq_none (by simp; omega), List.getElem?_eq_none (by omega)]
  unfold cat
  rw [← List.range_eq_range', List.flatMap_def, e]
theorem cat_prod (p : Int) (fs gs : List Tm) : cat (fun i => prodT p (fs.getD i noT) gs) 0 fs.length = prodL p fs gs := by
  have e : (List.range fs.length).map (fun i => prodT p (fs.getD i noT) gs) = fs.map fun t => prodT p t gs := by
    apply List.ext_getElem?
    intro i
    by_cases hi : i < fs.length
    · simp [hi]
    · rw [List.getElem?_eq_none (by simp; omega), List.getElem?_eq_none (by simp; omega)]
  unfold cat Go.Proofs.YtilogbggilchaaaDoor.prodL
  rw [← List.range_eq_range', List.flatMap_def, e, List.flatMap_def]
theorem okl_flatten {p o : Int} {N : Nat} {fss : List (List Tm)} (h : ∀ f ∈ fss, Canon p o N f) : Okl p N fss.flatten := by
  constructor
  · intro t ht
    obtain ⟨f, hf, ht⟩ := List.mem_flatten.1 ht
    exact (h f hf).len t ht
  · intro t ht
    obtain ⟨f, hf, ht⟩ := List.mem_flatten.1 ht
    have := (h f hf).coef t ht
    omega

set_option maxHeartbeats 1000000 in
theorem sumFn_any (i pb b off len cap : Nat) (vi : Value) (ts : List Tm) (w : World) (hi : i < len) (hc0 : w.cell? ⟨pb, 0, none⟩ = some (.slice (some ⟨b, off, none⟩) len cap)) (hc1 : w.cell? ⟨b, off + i, none⟩ = some vi) (hm : ts.length ≤ 4000000) (hl : ∀ t ∈ ts, t.2.length ≤ 400) (hs : Pl w vi ts) :
    Calls Tryd.prog 55 #[.int .i64 i, .pointer (some ⟨pb, 0, none⟩)] w fun e w' => ∃ u, e = .returned u ∧ Pl w' u ts ∧ Below w.heap.size w w' := by
  have HS := hid hs
  have HL := hid hl
  obtain ⟨a, c, rfl, _, _⟩ := hs
  clear hl
  go_enter Tryd.func55, Tryd.ntmps55
  go_wp2_with (go_at_call 56; refine (bareClone_any _ ts _ hm HL.out HS.out).mono ?_; rintro e w1 ⟨u, rfl, hu, hb1⟩; have HU := hid hu; have HB := hid hb1; obtain ⟨ua, uc, rfl, _, _⟩ := hu; clear hb1)
  go_ret
  exact ⟨_, rfl, HU.out, HB.out⟩

theorem getD_memL {α : Type} (xs : List (List α)) (k : Nat) (h : k < xs.length) : xs.getD k [] ∈ xs := by
  rw [List.getD_eq_getElem?_getD, List.getElem?_eq_getElem h]; simp

set_option maxRecDepth 100000 in
set_option maxHeartbeats 1000000 in
theorem bareSum_any (p n o v : Int) (N L : Nat) (pv : Value) (fss : List (List Tm)) (w : World) (hp : 2 ≤ p ∧ p ≤ 101) (ho : o = 1 ∨ o = 2) (hN0 : 0 < N) (hN : N ≤ 3) (hF : ∀ f ∈ fss, Canon p o N f ∧ Bd f ∧ f.length ≤ L) (hM : fss.length ≤ 4000000) (hL : fss.length * L ≤ 4000000) (hv : Vl w pv fss) :
    Calls Tryd.prog 25 #[ringV p n o v, pv] w fun e w' => ∃ u, e = .returned u ∧ Pl w' u (colL p o fss.flatten) ∧ Below w.heap.size w w' := by
  have HV := hid hv
  have HF := hid hF
  have HO := hid ho
  have HP := hid hp
  have HML := hid (And.intro hM hL)
  obtain ⟨a, cap, rfl, hc⟩ := hv
  obtain ⟨w0, hw0⟩ : ∃ w0, w0 = (w.alloc (.cells #[.int .i64 p, .int .i64 n, .int .i64 o, .int .i64 v] 23)).alloc (.cells #[.slice a fss.length cap] 30) := ⟨_, rfl⟩
  have hb0 : Below w.heap.size w w0 := by rw [hw0]; exact below_two
  have hpb : w0.cell? ⟨w.heap.size + 1, 0, none⟩ = some (.slice a fss.length cap) := by rw [hw0]; simp [go_sem]
  have HH : Hid (∀ i w', i < fss.length → Below w0.heap.size w0 w' → Calls Tryd.prog 55 #[.int .i64 i, .pointer (some ⟨w.heap.size + 1, 0, none⟩)] w' fun e w'' => ∃ u, e = .returned u ∧ Pl w'' u (fss.getD i []) ∧ Below w'.heap.size w' w'') := by
    intro i w' hi hb
    obtain ⟨b, off, e, hlt, hat⟩ := hc (by omega)
    subst e
    obtain ⟨vi, hvi, hpl⟩ := hat i hi
    have hbw : Below w.heap.size w w' := hb0.trans (hb.mono hb0.size)
    have hfi := HF.out _ (getD_memL fss i hi)
    have hL1 : (fss.getD i []).length ≤ 4000000 := by
      have h1 := hfi.2.2
      have h2 : L ≤ fss.length * L := Nat.le_mul_of_pos_left L (by omega)
      omega
    exact sumFn_any i _ b off fss.length cap vi _ w' hi (cell_keep hpb hb) (by rw [hbw.cell (p := ⟨b, off + i, none⟩) hlt]; exact hvi) hL1 (fun t ht => by have := hfi.1.len t ht; omega) (hpl.below hbw)
  clear hF ho hp hc hpb hM hL
  have HB0 := hid hb0
  go_enter Tryd.func25, Tryd.ntmps25
  go_wp2_with fail
  rw [← hw0]
  refine (sumOfS_any p n o v N fss.length L (fun i => fss.getD i []) _ w0 HP.out HO.out hN0 hN (fun i hi => HF.out _ (getD_memL fss i hi)) HML.out.1 HML.out.2 HH.out fss.length 0 fss.length w0 (by omega) (by omega) (Nat.le_refl _) (Below.refl _ _)).mono ?_
  rintro e w1 ⟨u, ts, rfl, hr, hb1⟩
  have HR := hid hr
  obtain ⟨ua, uc, rfl, _, _⟩ := hr.pl
  clear hr
  go_wp2
  go_ret
  refine ⟨_, rfl, ?_, HB0.out.trans (hb1.mono HB0.out.size)⟩
  have hs := HR.out.same
  rw [Nat.sub_zero, cat_getD] at hs
  have e := col_of_canon HP.out.1 (okl_flatten (fun f hf => (HF.out f hf).1)).len (okl_flatten (fun f hf => (HF.out f hf).1)).coef HR.out.canon hs
  rw [← e]
  exact HR.out.pl
end Go.Proofs.YtilogbggilchaaaDoor
