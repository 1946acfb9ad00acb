/- VectorOps, with all its contracts. -/
import Derived.Test.YtilogbggilchaaaYF
import Derived.Test.YtilogbggilchaaaXV
namespace Go.Proofs.Ytilogbggilchaaa
set_option linter.unusedSimpArgs false
set_option linter.unusedVariables false
open Go.RowKit
set_option maxHeartbeats 1000000 in
theorem vectorOps_any (p n o v rank : Int) (x y z : Value) (f : List Tm) (fss gss : List (List Tm)) (w : World) (pf : Pl w x f) (pv : Vl w y fss) (pw : Vl w z gss) :
    Calls Try.prog 3 #[ringV p n o v, .int .i64 rank, x, y, z] w fun e w' => e = .returned (.bool true) ∧ Below w.heap.size w w' := by
  have qf := pf
  have qv := pv
  have qw := pw
  obtain ⟨af, kf, rfl, _, _⟩ := pf
  obtain ⟨av, kv, rfl, _⟩ := pv
  obtain ⟨aw, kw, rfl, _⟩ := pw
  have hl := lead_parts o v (errAlike p n o v [fss]) fss
  refine vectorOps_walk p n o v rank af av aw kf kv kw f fss gss w (errAlike p n o v [fss, gss]) (errPolys p n o v [f]) (if errPolys p n o v [f] = 0 then errAlike p n o v [fss] else errPolys p n o v [f]) (errAlike p n o v [fss])
    (visE (errAlike p n o v [fss, gss]) (sums p o fss gss)) (visE (if errPolys p n o v [f] = 0 then errAlike p n o v [fss] else errPolys p n o v [f]) (prods p o f fss))
    (ldP (leadS (errAlike p n o v [fss]) (leadF o v fss fss.length))) (ldC (leadS (errAlike p n o v [fss]) (leadF o v fss fss.length))) (leadE (errAlike p n o v [fss]) (leadF o v fss fss.length)) (plc (leadF o v fss fss.length)) (errVecs p n o v rank [fss, gss])
    (visR (errAlike p n o v [fss, gss]) (sums p o fss gss)) (visR (if errPolys p n o v [f] = 0 then errAlike p n o v [fss] else errPolys p n o v [f]) (prods p o f fss))
    (if errAlike p n o v [fss, gss] = 0 then sums p o fss gss else []) (if (if errPolys p n o v [f] = 0 then errAlike p n o v [fss] else errPolys p n o v [f]) = 0 then prods p o f fss else [])
    (ldE (leadS (errAlike p n o v [fss]) (leadF o v fss fss.length)))
    rfl lead_len3 (fun h => (hl.1 h).2.2) (fun h => hl.2 h) (fun h => if_neg h) (fun h => if_neg h)
    (fun W h1 h2 => vecAdd_any p n o v _ _ fss gss W h1 h2) (fun W h1 h2 => vecScale_any p n o v _ _ f fss W h1 h2 _ rfl) (fun W h => vecLead_any p n o v _ fss W h)
    (fun W u h => checkAlike_any p n o v u [fss, gss] W (by simp) h) (fun W u h => checkPolys_any p n o v u [f] W (by simp) h) (fun W u h => checkAlike_any p n o v u [fss] W (by simp) h)
    ?_ ?_ ?_ (fun W u h => vecCheck_any p n o v rank u [fss, gss] W h) (fun W u h => checkVectors_any p n o v rank u [fss, gss] W h)
    (fun W a b h1 h2 => vectorIs_if _ _ (fun h => ?_) W a b h1 h2) (fun W a b h1 h2 => vectorIs_if _ _ (fun h => ?_) W a b h1 h2) qf qv qw
  · intro wb W hX hb h1 h2
    obtain ⟨hp, ho, hN0, hN3, hlen, h40, hf, hg, nf, ng, _, _⟩ := sum_good hX
    rw [if_pos hX]
    exact vsum_plx wb.heap.size p n o v n.toNat _ _ fss gss W hb.lt hp ho hN0 hN3 hlen h40 hf hg ((vlx_of h1 nf (Nat.le_refl _)).below hb.below) ((vlx_of h2 ng (Nat.le_refl _)).below hb.below)
  · intro wb W hY hb h1 h2
    have hF : errPolys p n o v [f] = 0 := by
      by_cases h : errPolys p n o v [f] = 0
      · exact h
      · rw [if_neg h] at hY; exact hY
    have hZ : errAlike p n o v [fss] = 0 := by rw [if_pos hF] at hY; exact hY
    obtain ⟨hp, ho, hv, hN0, hN3, h40, hr⟩ := lead_good hZ
    obtain ⟨rf, _, _⟩ := prod_good hF hZ
    rw [if_pos hY]
    exact vtimes_plx wb.heap.size p n o v n.toNat _ _ f fss W hb.lt hp ho hN0 hN3 h40 rf hr (h1.below hb.below) (h2.below hb.below)
  · intro wb W hZ hb h
    obtain ⟨hp, ho, hv, hN0, hN3, h40, hr⟩ := lead_good hZ
    obtain ⟨e1, e2, _⟩ := hl.1 hZ
    rw [e1, e2]
    exact leadOf_old wb p n o v n.toNat _ fss W hb hv ho hN0 hN3 h40 hr h
  · exact ⟨(sum_good h).2.2.2.2.2.2.2.2.2.2.1, (sum_good h).2.2.2.2.2.2.2.2.2.2.2⟩
  · have hF : errPolys p n o v [f] = 0 := by
      by_cases h2 : errPolys p n o v [f] = 0
      · exact h2
      · rw [if_neg h2] at h; exact h
    have hZ : errAlike p n o v [fss] = 0 := by rw [if_pos hF] at h; exact h
    exact (prod_good hF hZ).2
end Go.Proofs.Ytilogbggilchaaa
