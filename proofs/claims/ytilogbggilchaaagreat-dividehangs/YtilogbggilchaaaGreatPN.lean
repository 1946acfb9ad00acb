/- poly.limited, degree, Add, Mul: by what checkAll tells. -/
import Derived.Test.YtilogbggilchaaaGreatRC
import Derived.Lib.ItoaNum
import Derived.Lib.Join
import Derived.Deep.CutBlock
import Derived.Deep.DeepCutAuto
import Derived.Test.YtilogbggilchaaaGreatPJ
import Derived.Test.YtilogbggilchaaaGreatH
namespace Go.Proofs.YtilogbggilchaaaGreat
set_option linter.unusedSimpArgs false
set_option linter.unusedVariables false
open Go.RowKit
def Tells (p n o v : Int) (chk : List (List Tm) → Int) : Prop :=
  (∀ (fss : List (List Tm)) (lv : Value) (w : World), fss.length ≤ 1200000000000 → Vl w lv fss → Calls Tryz.prog 92 #[ringV p n o v, lv] w fun e w' => e = .returned (.int .i64 (chk fss)) ∧ Below w.heap.size w w') ∧
  (∀ fss, fss ≠ [] → chk fss = 0 → errR p n o v = 0 ∧ ∀ f ∈ fss, errOne p n o f = 0) ∧
  (errR p n o v = 0 → ∀ fss, (∀ f ∈ fss, errOne p n o f = 0) → chk fss = 0)

set_option maxHeartbeats 1000000 in
theorem limited_yes (x : Value) (ts : List Tm) (w : World) (h : 2000 < ts.length) (pf : Pl w x ts) :
    Calls Tryz.prog 93 #[x] w fun e w' => e = .returned (.tuple #[.slice none 0 0, .int .i64 2]) ∧ w' = w := by
  obtain ⟨a, c, rfl, _, _⟩ := pf
  go_enter Tryz.func93, Tryz.ntmps93
  go_wp2
  go_ret2
  exact ⟨rfl, rfl⟩
set_option maxHeartbeats 1000000 in
theorem limited_no (x : Value) (ts : List Tm) (w : World) (h : ¬ 2000 < ts.length) (pf : Pl w x ts) :
    Calls Tryz.prog 93 #[x] w fun e w' => e = .returned (.tuple #[x, .int .i64 0]) ∧ w' = w := by
  obtain ⟨a, c, rfl, _, _⟩ := pf
  go_enter Tryz.func93, Tryz.ntmps93
  go_wp2
  go_ret2
  exact ⟨rfl, rfl⟩

set_option maxHeartbeats 1000000 in
theorem polyDegree_any (x : Value) (t : Tm) (ts : List Tm) (w : World) (h0 : 0 < t.2.length) (h3 : t.2.length ≤ 3) (hb : ∀ x ∈ t.2, 0 ≤ x ∧ x ≤ 40000) (pf : Pl w x (t :: ts)) :
    Calls Tryz.prog 112 #[x] w fun e w' => e = .returned (.int .i64 (sumI t.2)) ∧ w' = w := by
  obtain ⟨b, off, cap, ev, rfl, hcap, hlt, c0, c1, hse, _, _⟩ := pf.head
  have HB := hid hb
  obtain ⟨a, c, rfl, hs⟩ := hse
  obtain ⟨eb, eoff, rfl, helt, hei⟩ := hs h0
  have HEI := hid hei
  clear hb hei hs pf
  have hle : (0 : Int) < (ts.length : Int) + 1 := by omega
  go_enter Tryz.func112, Tryz.ntmps112
  go_wp2_with (go_at_call 21; refine (degree_any t.2 _ _ _ _ HB.out h3 HEI.out).mono ?_; rintro e w' ⟨rfl, rfl⟩)
  go_ret
  exact ⟨rfl, rfl⟩

theorem pls2 {w : World} {x y : Value} {fs gs : List Tm} {b c : Nat} (hf : Pl w x fs) (hg : Pl w y gs) (hlt : b < w.heap.size) (c0 : w.cell? ⟨b, 0, none⟩ = some x) (c1 : w.cell? ⟨b, 1, none⟩ = some y) : Vl w (.slice (some ⟨b, 0, none⟩) 2 c) [fs, gs] := by
  refine ⟨_, c, rfl, fun _ => ⟨b, 0, rfl, hlt, fun i hi => ?_⟩⟩
  simp only [List.length_cons, List.length_nil] at hi
  rcases i with _ | _ | i
  · exact ⟨x, c0, hf⟩
  · exact ⟨y, c1, hg⟩
  · omega
theorem pls1 {w : World} {x : Value} {fs : List Tm} {b c : Nat} (hf : Pl w x fs) (hlt : b < w.heap.size) (c0 : w.cell? ⟨b, 0, none⟩ = some x) : Vl w (.slice (some ⟨b, 0, none⟩) 1 c) [fs] := by
  refine ⟨_, c, rfl, fun _ => ⟨b, 0, rfl, hlt, fun i hi => ?_⟩⟩
  simp only [List.length_cons, List.length_nil] at hi
  rcases i with _ | i
  · exact ⟨x, c0, hf⟩
  · omega
theorem right_of {p n o v : Int} {f : List Tm} (hr : errR p n o v = 0) (h : errOne p n o f = 0) : Right p o n.toNat f ∧ 0 < n.toNat ∧ n.toNat ≤ 3 ∧ errP p = 0 ∧ (2 ≤ p ∧ p ≤ 101) ∧ (o = 1 ∨ o = 2) := by
  obtain ⟨h1, h2, h3, h4, _⟩ := ring_ok hr
  have e : n = (n.toNat : Int) := by omega
  rw [e] at h
  exact ⟨errOne_ok h, by omega, by omega, h1, errP_bd h1, h4⟩
def addE (E : Int) (p o : Int) (f g : List Tm) : Int := if E ≠ 0 then E else if greatB (colL p o (f ++ g)) then 2 else 0
def mulE (E : Int) (p o : Int) (f g : List Tm) : Int := if E ≠ 0 then E else if greatB (colL p o (prodL p f g)) then 2 else 0
def addR (E : Int) (p o : Int) (f g : List Tm) : List Tm := if addE E p o f g = 0 then colL p o (f ++ g) else []
def mulR (E : Int) (p o : Int) (f g : List Tm) : List Tm := if mulE E p o f g = 0 then colL p o (prodL p f g) else []
theorem col_len {p o : Int} (l : List Tm) : (colL p o l).length ≤ l.length := by
  have h1 := List.length_filter_le (fun t : Tm => t.1 % p != 0) (l.foldl (ins p o) [])
  have h2 := fold_len1 (p := p) (o := o) l []
  simp only [List.length_nil] at h2
  unfold colL
  omega
theorem addE_bad {E p o : Int} {f g : List Tm} (h : E ≠ 0) : addE E p o f g = E ∧ addR E p o f g = [] := by
  have h1 : addE E p o f g = E := by unfold addE; rw [if_pos h]
  exact ⟨h1, by unfold addR; rw [h1, if_neg h]⟩
theorem addE_yes {E p o : Int} {f g : List Tm} (h : E = 0) (hg : greatB (colL p o (f ++ g)) = true) : addE E p o f g = 2 ∧ addR E p o f g = [] := by
  have h1 : addE E p o f g = 2 := by unfold addE; rw [if_neg (by simpa using h), if_pos hg]
  exact ⟨h1, by unfold addR; rw [h1, if_neg (by omega)]⟩
theorem addE_no {E p o : Int} {f g : List Tm} (h : E = 0) (hg : greatB (colL p o (f ++ g)) = false) : addE E p o f g = 0 ∧ addR E p o f g = colL p o (f ++ g) := by
  have h1 : addE E p o f g = 0 := by unfold addE; rw [if_neg (by simpa using h), if_neg (by simp [hg])]
  exact ⟨h1, by unfold addR; rw [h1, if_pos rfl]⟩
theorem mulE_bad {E p o : Int} {f g : List Tm} (h : E ≠ 0) : mulE E p o f g = E ∧ mulR E p o f g = [] := by
  have h1 : mulE E p o f g = E := by unfold mulE; rw [if_pos h]
  exact ⟨h1, by unfold mulR; rw [h1, if_neg h]⟩
theorem mulE_yes {E p o : Int} {f g : List Tm} (h : E = 0) (hg : greatB (colL p o (prodL p f g)) = true) : mulE E p o f g = 2 ∧ mulR E p o f g = [] := by
  have h1 : mulE E p o f g = 2 := by unfold mulE; rw [if_neg (by simpa using h), if_pos hg]
  exact ⟨h1, by unfold mulR; rw [h1, if_neg (by omega)]⟩
theorem mulE_no {E p o : Int} {f g : List Tm} (h : E = 0) (hg : greatB (colL p o (prodL p f g)) = false) : mulE E p o f g = 0 ∧ mulR E p o f g = colL p o (prodL p f g) := by
  have h1 : mulE E p o f g = 0 := by unfold mulE; rw [if_neg (by simpa using h), if_neg (by simp [hg])]
  exact ⟨h1, by unfold mulR; rw [h1, if_pos rfl]⟩

set_option maxRecDepth 100000 in
set_option maxHeartbeats 2000000 in
theorem polyAdd_any (p n o v : Int) (chk : List (List Tm) → Int) (HC : Tells p n o v chk) (x y : Value) (fs gs : List Tm) (w : World) (pf : Pl w x fs) (pg : Pl w y gs) :
    Calls Tryz.prog 54 #[ringV p n o v, x, y] w fun e w' => ∃ u, e = .returned (.tuple #[u, .int .i64 (addE (chk [fs, gs]) p o fs gs)]) ∧ Pl w' u (addR (chk [fs, gs]) p o fs gs) ∧ Below w.heap.size w w' := by
  have HP := hid pf
  have HQ := hid pg
  have HT := hid HC
  obtain ⟨a, c, rfl, _, _⟩ := pf
  obtain ⟨a2, c2, rfl, _, _⟩ := pg
  clear HC
  have HB2 : Hid (∀ A B, Below w.heap.size w ((w.alloc A).alloc B)) := fun A B => below_two
  cases hE : (chk [fs, gs] != 0)
  · have hE0 : chk [fs, gs] = 0 := by simpa using hE
    obtain ⟨hr, hall⟩ := HT.out.2.1 [fs, gs] (by simp) hE0
    obtain ⟨rf, hN0, hN3, hpr, hp, ho⟩ := right_of hr (hall fs (by simp))
    obtain ⟨rg, _⟩ := right_of hr (hall gs (by simp))
    have HR := hid (And.intro rf rg)
    have HPO := hid (And.intro hp (And.intro ho hpr))
    have HE0 := hid hE0
    clear hE0 hr hall rf rg hp ho hpr
    have HG := hid (great_small (sum_deg HR.out.1 HR.out.2))
    by_cases hl : 2000 < (colL p o (fs ++ gs)).length
    · have hgr : greatB (colL p o (fs ++ gs)) = true := by rw [HG.out]; exact decide_eq_true hl
      rw [(addE_yes HE0.out hgr).1, (addE_yes HE0.out hgr).2]
      clear hgr
      go_enter Tryz.func54, Tryz.ntmps54
      go_wp2_with fail
      refine (HT.out.1 [fs, gs] _ _ (by simp) (pls2 (HP.out.below (HB2.out _ _)) (HQ.out.below (HB2.out _ _)) (by simp) (by simp [go_sem]) (by simp [go_sem]))).mono ?_
      rintro e w1 ⟨rfl, hb1⟩
      rw [HE0.out]
      have HB1 := hid ((HB2.out _ _).trans (hb1.mono (HB2.out _ _).size))
      have bx0 : w1.cell? ⟨w.heap.size, 0, none⟩ = some (.int .i64 p) := by rw [hb1.cell (p := ⟨w.heap.size, 0, none⟩) (by simp; omega)]; simp [go_sem]
      have bx1 : w1.cell? ⟨w.heap.size, 1, none⟩ = some (.int .i64 n) := by rw [hb1.cell (p := ⟨w.heap.size, 1, none⟩) (by simp; omega)]; simp [go_sem]
      have bx2 : w1.cell? ⟨w.heap.size, 2, none⟩ = some (.int .i64 o) := by rw [hb1.cell (p := ⟨w.heap.size, 2, none⟩) (by simp; omega)]; simp [go_sem]
      have bx3 : w1.cell? ⟨w.heap.size, 3, none⟩ = some (.int .i64 v) := by rw [hb1.cell (p := ⟨w.heap.size, 3, none⟩) (by simp; omega)]; simp [go_sem]
      clear hb1
      go_wp2_with fail
      refine (bareSum_any p n o v n.toNat 2000 _ [fs, gs] _ HPO.out.1 HPO.out.2.1 hN0 hN3 ?_ (by simp) (by simp) (pls2 ((HP.out.below HB1.out).below below_oneG) ((HQ.out.below HB1.out).below below_oneG) (by simp) (by simp [go_sem]) (by simp [go_sem]))).mono ?_
      · intro f hf
        simp only [List.mem_cons, List.not_mem_nil, or_false] at hf
        rcases hf with rfl | rfl
        · exact ⟨HR.out.1.canon, HR.out.1.bd.bd, HR.out.1.len⟩
        · exact ⟨HR.out.2.canon, HR.out.2.bd.bd, HR.out.2.len⟩
      rintro e w2 ⟨u, rfl, hu, hb2⟩
      have hfl : [fs, gs].flatten = fs ++ gs := by simp
      rw [hfl] at hu
      have HU := hid hu
      have HB3 := hid (HB1.out.trans ((below_oneG.trans (hb2.mono (by simp))).mono HB1.out.size))
      obtain ⟨ua, uc, rfl, _, _⟩ := hu
      clear hb2 bx0 bx1 bx2 bx3 hfl
      go_wp2_with fail
      refine (limited_yes _ _ _ hl HU.out).mono ?_
      rintro e w3 ⟨rfl, rfl⟩
      go_wp2
      go_ret2
      exact ⟨_, rfl, Pl.empty _, HB3.out⟩
    · have hgr : greatB (colL p o (fs ++ gs)) = false := by rw [HG.out]; exact decide_eq_false hl
      rw [(addE_no HE0.out hgr).1, (addE_no HE0.out hgr).2]
      clear hgr
      go_enter Tryz.func54, Tryz.ntmps54
      go_wp2_with fail
      refine (HT.out.1 [fs, gs] _ _ (by simp) (pls2 (HP.out.below (HB2.out _ _)) (HQ.out.below (HB2.out _ _)) (by simp) (by simp [go_sem]) (by simp [go_sem]))).mono ?_
      rintro e w1 ⟨rfl, hb1⟩
      rw [HE0.out]
      have HB1 := hid ((HB2.out _ _).trans (hb1.mono (HB2.out _ _).size))
      have bx0 : w1.cell? ⟨w.heap.size, 0, none⟩ = some (.int .i64 p) := by rw [hb1.cell (p := ⟨w.heap.size, 0, none⟩) (by simp; omega)]; simp [go_sem]
      have bx1 : w1.cell? ⟨w.heap.size, 1, none⟩ = some (.int .i64 n) := by rw [hb1.cell (p := ⟨w.heap.size, 1, none⟩) (by simp; omega)]; simp [go_sem]
      have bx2 : w1.cell? ⟨w.heap.size, 2, none⟩ = some (.int .i64 o) := by rw [hb1.cell (p := ⟨w.heap.size, 2, none⟩) (by simp; omega)]; simp [go_sem]
      have bx3 : w1.cell? ⟨w.heap.size, 3, none⟩ = some (.int .i64 v) := by rw [hb1.cell (p := ⟨w.heap.size, 3, none⟩) (by simp; omega)]; simp [go_sem]
      clear hb1
      go_wp2_with fail
      refine (bareSum_any p n o v n.toNat 2000 _ [fs, gs] _ HPO.out.1 HPO.out.2.1 hN0 hN3 ?_ (by simp) (by simp) (pls2 ((HP.out.below HB1.out).below below_oneG) ((HQ.out.below HB1.out).below below_oneG) (by simp) (by simp [go_sem]) (by simp [go_sem]))).mono ?_
      · intro f hf
        simp only [List.mem_cons, List.not_mem_nil, or_false] at hf
        rcases hf with rfl | rfl
        · exact ⟨HR.out.1.canon, HR.out.1.bd.bd, HR.out.1.len⟩
        · exact ⟨HR.out.2.canon, HR.out.2.bd.bd, HR.out.2.len⟩
      rintro e w2 ⟨u, rfl, hu, hb2⟩
      have hfl : [fs, gs].flatten = fs ++ gs := by simp
      rw [hfl] at hu
      have HU := hid hu
      have HB3 := hid (HB1.out.trans ((below_oneG.trans (hb2.mono (by simp))).mono HB1.out.size))
      obtain ⟨ua, uc, rfl, _, _⟩ := hu
      clear hb2 bx0 bx1 bx2 bx3 hfl
      go_wp2_with fail
      refine (limited_no _ _ _ hl HU.out).mono ?_
      rintro e w3 ⟨rfl, rfl⟩
      go_wp2
      go_ret2
      exact ⟨_, rfl, HU.out, HB3.out⟩
  · have hE0 : chk [fs, gs] ≠ 0 := by simpa using hE
    rw [(addE_bad (p := p) (o := o) (f := fs) (g := gs) hE0).1, (addE_bad (p := p) (o := o) (f := fs) (g := gs) hE0).2]
    clear hE0
    go_enter Tryz.func54, Tryz.ntmps54
    go_wp2_with fail
    refine (HT.out.1 [fs, gs] _ _ (by simp) (pls2 (HP.out.below (HB2.out _ _)) (HQ.out.below (HB2.out _ _)) (by simp) (by simp [go_sem]) (by simp [go_sem]))).mono ?_
    rintro e w1 ⟨rfl, hb1⟩
    have HB1 := hid ((HB2.out _ _).trans (hb1.mono (HB2.out _ _).size))
    clear hb1
    go_wp2
    go_ret2
    exact ⟨_, rfl, Pl.empty _, HB1.out⟩

set_option maxRecDepth 100000 in
set_option maxHeartbeats 2000000 in
theorem polyMul_any (p n o v : Int) (chk : List (List Tm) → Int) (HC : Tells p n o v chk) (x y : Value) (fs gs : List Tm) (w : World) (pf : Pl w x fs) (pg : Pl w y gs) :
    Calls Tryz.prog 87 #[ringV p n o v, x, y] w fun e w' => ∃ u, e = .returned (.tuple #[u, .int .i64 (mulE (chk [fs, gs]) p o fs gs)]) ∧ Pl w' u (mulR (chk [fs, gs]) p o fs gs) ∧ Below w.heap.size w w' := by
  have HP := hid pf
  have HQ := hid pg
  have HT := hid HC
  obtain ⟨a, c, rfl, _, _⟩ := pf
  obtain ⟨a2, c2, rfl, _, _⟩ := pg
  clear HC
  have HB2 : Hid (∀ A B, Below w.heap.size w ((w.alloc A).alloc B)) := fun A B => below_two
  cases hE : (chk [fs, gs] != 0)
  · have hE0 : chk [fs, gs] = 0 := by simpa using hE
    obtain ⟨hr, hall⟩ := HT.out.2.1 [fs, gs] (by simp) hE0
    obtain ⟨rf, hN0, hN3, hpr, hp, ho⟩ := right_of hr (hall fs (by simp))
    obtain ⟨rg, _⟩ := right_of hr (hall gs (by simp))
    have HR := hid (And.intro rf rg)
    have HPO := hid (And.intro hp (And.intro ho hpr))
    have HE0 := hid hE0
    clear hE0 hr hall rf rg hp ho hpr
    by_cases hem : fs = [] ∨ gs = []
    · have HEM := hid hem
      have hl0 : ¬ (0 < fs.length ∧ 0 < gs.length) := by
        rcases hem with h | h
        · rw [h]; simp
        · rw [h]; simp
      have hcn : colL p o (prodL p fs gs) = [] := great_none hem
      have hgr : greatB (colL p o (prodL p fs gs)) = false := by rw [hcn]; rfl
      rw [(mulE_no HE0.out hgr).1, (mulE_no HE0.out hgr).2]
      have hl : ¬ 2000 < (colL p o (prodL p fs gs)).length := by rw [hcn]; simp
      clear hgr hcn hem
      by_cases hf0 : 0 < fs.length
      · have hg0 : ¬ 0 < gs.length := fun h => hl0 ⟨hf0, h⟩
        go_enter Tryz.func87, Tryz.ntmps87
        go_wp2_with fail
        refine (HT.out.1 [fs, gs] _ _ (by simp) (pls2 (HP.out.below (HB2.out _ _)) (HQ.out.below (HB2.out _ _)) (by simp) (by simp [go_sem]) (by simp [go_sem]))).mono ?_
        rintro e w1 ⟨rfl, hb1⟩
        rw [HE0.out]
        have HB1 := hid ((HB2.out _ _).trans (hb1.mono (HB2.out _ _).size))
        have bx0 : w1.cell? ⟨w.heap.size, 0, none⟩ = some (.int .i64 p) := by rw [hb1.cell (p := ⟨w.heap.size, 0, none⟩) (by simp; omega)]; simp [go_sem]
        have bx1 : w1.cell? ⟨w.heap.size, 1, none⟩ = some (.int .i64 n) := by rw [hb1.cell (p := ⟨w.heap.size, 1, none⟩) (by simp; omega)]; simp [go_sem]
        have bx2 : w1.cell? ⟨w.heap.size, 2, none⟩ = some (.int .i64 o) := by rw [hb1.cell (p := ⟨w.heap.size, 2, none⟩) (by simp; omega)]; simp [go_sem]
        have bx3 : w1.cell? ⟨w.heap.size, 3, none⟩ = some (.int .i64 v) := by rw [hb1.cell (p := ⟨w.heap.size, 3, none⟩) (by simp; omega)]; simp [go_sem]
        clear hb1
        go_wp2_with fail
        refine (bareProduct_any p n o v n.toNat _ _ fs gs _ HPO.out.2.2 HPO.out.2.1 hN0 hN3 HR.out.1.canon HR.out.2.canon HR.out.1.bd HR.out.2.bd HR.out.1.len HR.out.2.len (HP.out.below HB1.out) (HQ.out.below HB1.out)).mono ?_
        rintro e w2 ⟨u9, rfl, hu, hb2⟩
        have HU := hid hu
        have HB3 := hid (HB1.out.trans (hb2.mono HB1.out.size))
        obtain ⟨ua, uc, rfl, _, _⟩ := hu
        clear hb2 bx0 bx1 bx2 bx3
        go_wp2_with fail
        refine (limited_no _ _ _ hl HU.out).mono ?_
        rintro e w3 ⟨rfl, rfl⟩
        go_wp2
        go_ret2
        exact ⟨_, rfl, HU.out, HB3.out⟩
      · clear hl0
        go_enter Tryz.func87, Tryz.ntmps87
        go_wp2_with fail
        refine (HT.out.1 [fs, gs] _ _ (by simp) (pls2 (HP.out.below (HB2.out _ _)) (HQ.out.below (HB2.out _ _)) (by simp) (by simp [go_sem]) (by simp [go_sem]))).mono ?_
        rintro e w1 ⟨rfl, hb1⟩
        rw [HE0.out]
        have HB1 := hid ((HB2.out _ _).trans (hb1.mono (HB2.out _ _).size))
        have bx0 : w1.cell? ⟨w.heap.size, 0, none⟩ = some (.int .i64 p) := by rw [hb1.cell (p := ⟨w.heap.size, 0, none⟩) (by simp; omega)]; simp [go_sem]
        have bx1 : w1.cell? ⟨w.heap.size, 1, none⟩ = some (.int .i64 n) := by rw [hb1.cell (p := ⟨w.heap.size, 1, none⟩) (by simp; omega)]; simp [go_sem]
        have bx2 : w1.cell? ⟨w.heap.size, 2, none⟩ = some (.int .i64 o) := by rw [hb1.cell (p := ⟨w.heap.size, 2, none⟩) (by simp; omega)]; simp [go_sem]
        have bx3 : w1.cell? ⟨w.heap.size, 3, none⟩ = some (.int .i64 v) := by rw [hb1.cell (p := ⟨w.heap.size, 3, none⟩) (by simp; omega)]; simp [go_sem]
        clear hb1
        go_wp2_with fail
        refine (bareProduct_any p n o v n.toNat _ _ fs gs _ HPO.out.2.2 HPO.out.2.1 hN0 hN3 HR.out.1.canon HR.out.2.canon HR.out.1.bd HR.out.2.bd HR.out.1.len HR.out.2.len (HP.out.below HB1.out) (HQ.out.below HB1.out)).mono ?_
        rintro e w2 ⟨u9, rfl, hu, hb2⟩
        have HU := hid hu
        have HB3 := hid (HB1.out.trans (hb2.mono HB1.out.size))
        obtain ⟨ua, uc, rfl, _, _⟩ := hu
        clear hb2 bx0 bx1 bx2 bx3
        go_wp2_with fail
        refine (limited_no _ _ _ hl HU.out).mono ?_
        rintro e w3 ⟨rfl, rfl⟩
        go_wp2
        go_ret2
        exact ⟨_, rfl, HU.out, HB3.out⟩
    · cases fs with
      | nil => exact absurd (Or.inl rfl) hem
      | cons t fs2 =>
      cases gs with
      | nil => exact absurd (Or.inr rfl) hem
      | cons u gs2 =>
      have HG := hid (great_prod HPO.out.2.2 HR.out.1.canon HR.out.2.canon)
      have HTL : Hid (0 < t.2.length ∧ t.2.length ≤ 3 ∧ ∀ x ∈ t.2, 0 ≤ x ∧ x ≤ 40000) := ⟨by rw [HR.out.1.canon.len t (by simp)]; exact hN0, by rw [HR.out.1.canon.len t (by simp)]; exact hN3, HR.out.1.bd.bd t (by simp)⟩
      have HUL : Hid (0 < u.2.length ∧ u.2.length ≤ 3 ∧ ∀ x ∈ u.2, 0 ≤ x ∧ x ≤ 40000) := ⟨by rw [HR.out.2.canon.len u (by simp)]; exact hN0, by rw [HR.out.2.canon.len u (by simp)]; exact hN3, HR.out.2.bd.bd u (by simp)⟩
      have hs1 := sumI_bd t.2 HTL.out.2.2
      have hs2 := sumI_bd u.2 HUL.out.2.2
      have ht3 := HTL.out.2.1
      have hu3 := HUL.out.2.1
      have hq1 : (0 : Int) < (fs2.length : Int) + 1 := by omega
      have hq2 : (0 : Int) < (gs2.length : Int) + 1 := by omega
      clear hem
      by_cases hd : 200 < sumI t.2 + sumI u.2
      · have hgr : greatB (colL p o (prodL p (t :: fs2) (u :: gs2))) = true := by rw [HG.out, decide_eq_true hd, Bool.true_or]
        rw [(mulE_yes HE0.out hgr).1, (mulE_yes HE0.out hgr).2]
        clear hgr
        go_enter Tryz.func87, Tryz.ntmps87
        go_wp2_with fail
        refine (HT.out.1 [t :: fs2, u :: gs2] _ _ (by simp) (pls2 (HP.out.below (HB2.out _ _)) (HQ.out.below (HB2.out _ _)) (by simp) (by simp [go_sem]) (by simp [go_sem]))).mono ?_
        rintro e w1 ⟨rfl, hb1⟩
        rw [HE0.out]
        have HB1 := hid ((HB2.out _ _).trans (hb1.mono (HB2.out _ _).size))
        have bx0 : w1.cell? ⟨w.heap.size, 0, none⟩ = some (.int .i64 p) := by rw [hb1.cell (p := ⟨w.heap.size, 0, none⟩) (by simp; omega)]; simp [go_sem]
        have bx1 : w1.cell? ⟨w.heap.size, 1, none⟩ = some (.int .i64 n) := by rw [hb1.cell (p := ⟨w.heap.size, 1, none⟩) (by simp; omega)]; simp [go_sem]
        have bx2 : w1.cell? ⟨w.heap.size, 2, none⟩ = some (.int .i64 o) := by rw [hb1.cell (p := ⟨w.heap.size, 2, none⟩) (by simp; omega)]; simp [go_sem]
        have bx3 : w1.cell? ⟨w.heap.size, 3, none⟩ = some (.int .i64 v) := by rw [hb1.cell (p := ⟨w.heap.size, 3, none⟩) (by simp; omega)]; simp [go_sem]
        clear hb1
        go_wp2_with fail
        refine (polyDegree_any _ t fs2 _ HTL.out.1 HTL.out.2.1 HTL.out.2.2 (HP.out.below HB1.out)).mono ?_
        rintro e w' ⟨rfl, hw'⟩
        subst w'
        go_wp2_with fail
        refine (polyDegree_any _ u gs2 _ HUL.out.1 HUL.out.2.1 HUL.out.2.2 (HQ.out.below HB1.out)).mono ?_
        rintro e w' ⟨rfl, hw'⟩
        subst w'
        go_wp2
        go_ret2
        exact ⟨_, rfl, Pl.empty _, HB1.out⟩
      · by_cases hl : 2000 < (colL p o (prodL p (t :: fs2) (u :: gs2))).length
        · have hgr : greatB (colL p o (prodL p (t :: fs2) (u :: gs2))) = true := by rw [HG.out, decide_eq_true hl, Bool.or_true]
          rw [(mulE_yes HE0.out hgr).1, (mulE_yes HE0.out hgr).2]
          clear hgr
          go_enter Tryz.func87, Tryz.ntmps87
          go_wp2_with fail
          refine (HT.out.1 [t :: fs2, u :: gs2] _ _ (by simp) (pls2 (HP.out.below (HB2.out _ _)) (HQ.out.below (HB2.out _ _)) (by simp) (by simp [go_sem]) (by simp [go_sem]))).mono ?_
          rintro e w1 ⟨rfl, hb1⟩
          rw [HE0.out]
          have HB1 := hid ((HB2.out _ _).trans (hb1.mono (HB2.out _ _).size))
          have bx0 : w1.cell? ⟨w.heap.size, 0, none⟩ = some (.int .i64 p) := by rw [hb1.cell (p := ⟨w.heap.size, 0, none⟩) (by simp; omega)]; simp [go_sem]
          have bx1 : w1.cell? ⟨w.heap.size, 1, none⟩ = some (.int .i64 n) := by rw [hb1.cell (p := ⟨w.heap.size, 1, none⟩) (by simp; omega)]; simp [go_sem]
          have bx2 : w1.cell? ⟨w.heap.size, 2, none⟩ = some (.int .i64 o) := by rw [hb1.cell (p := ⟨w.heap.size, 2, none⟩) (by simp; omega)]; simp [go_sem]
          have bx3 : w1.cell? ⟨w.heap.size, 3, none⟩ = some (.int .i64 v) := by rw [hb1.cell (p := ⟨w.heap.size, 3, none⟩) (by simp; omega)]; simp [go_sem]
          clear hb1
          go_wp2_with fail
          refine (polyDegree_any _ t fs2 _ HTL.out.1 HTL.out.2.1 HTL.out.2.2 (HP.out.below HB1.out)).mono ?_
          rintro e w' ⟨rfl, hw'⟩
          subst w'
          go_wp2_with fail
          refine (polyDegree_any _ u gs2 _ HUL.out.1 HUL.out.2.1 HUL.out.2.2 (HQ.out.below HB1.out)).mono ?_
          rintro e w' ⟨rfl, hw'⟩
          subst w'
          go_wp2_with fail
          refine (bareProduct_any p n o v n.toNat _ _ (t :: fs2) (u :: gs2) _ HPO.out.2.2 HPO.out.2.1 hN0 hN3 HR.out.1.canon HR.out.2.canon HR.out.1.bd HR.out.2.bd HR.out.1.len HR.out.2.len (HP.out.below HB1.out) (HQ.out.below HB1.out)).mono ?_
          rintro e w2 ⟨u9, rfl, hu, hb2⟩
          have HU := hid hu
          have HB3 := hid (HB1.out.trans (hb2.mono HB1.out.size))
          obtain ⟨ua, uc, rfl, _, _⟩ := hu
          clear hb2 bx0 bx1 bx2 bx3
          go_wp2_with fail
          refine (limited_yes _ _ _ hl HU.out).mono ?_
          rintro e w3 ⟨rfl, rfl⟩
          go_wp2
          go_ret2
          exact ⟨_, rfl, Pl.empty _, HB3.out⟩
        · have hgr : greatB (colL p o (prodL p (t :: fs2) (u :: gs2))) = false := by rw [HG.out, decide_eq_false hd, decide_eq_false hl, Bool.or_false]
          rw [(mulE_no HE0.out hgr).1, (mulE_no HE0.out hgr).2]
          clear hgr
          go_enter Tryz.func87, Tryz.ntmps87
          go_wp2_with fail
          refine (HT.out.1 [t :: fs2, u :: gs2] _ _ (by simp) (pls2 (HP.out.below (HB2.out _ _)) (HQ.out.below (HB2.out _ _)) (by simp) (by simp [go_sem]) (by simp [go_sem]))).mono ?_
          rintro e w1 ⟨rfl, hb1⟩
          rw [HE0.out]
          have HB1 := hid ((HB2.out _ _).trans (hb1.mono (HB2.out _ _).size))
          have bx0 : w1.cell? ⟨w.heap.size, 0, none⟩ = some (.int .i64 p) := by rw [hb1.cell (p := ⟨w.heap.size, 0, none⟩) (by simp; omega)]; simp [go_sem]
          have bx1 : w1.cell? ⟨w.heap.size, 1, none⟩ = some (.int .i64 n) := by rw [hb1.cell (p := ⟨w.heap.size, 1, none⟩) (by simp; omega)]; simp [go_sem]
          have bx2 : w1.cell? ⟨w.heap.size, 2, none⟩ = some (.int .i64 o) := by rw [hb1.cell (p := ⟨w.heap.size, 2, none⟩) (by simp; omega)]; simp [go_sem]
          have bx3 : w1.cell? ⟨w.heap.size, 3, none⟩ = some (.int .i64 v) := by rw [hb1.cell (p := ⟨w.heap.size, 3, none⟩) (by simp; omega)]; simp [go_sem]
          clear hb1
          go_wp2_with fail
          refine (polyDegree_any _ t fs2 _ HTL.out.1 HTL.out.2.1 HTL.out.2.2 (HP.out.below HB1.out)).mono ?_
          rintro e w' ⟨rfl, hw'⟩
          subst w'
          go_wp2_with fail
          refine (polyDegree_any _ u gs2 _ HUL.out.1 HUL.out.2.1 HUL.out.2.2 (HQ.out.below HB1.out)).mono ?_
          rintro e w' ⟨rfl, hw'⟩
          subst w'
          go_wp2_with fail
          refine (bareProduct_any p n o v n.toNat _ _ (t :: fs2) (u :: gs2) _ HPO.out.2.2 HPO.out.2.1 hN0 hN3 HR.out.1.canon HR.out.2.canon HR.out.1.bd HR.out.2.bd HR.out.1.len HR.out.2.len (HP.out.below HB1.out) (HQ.out.below HB1.out)).mono ?_
          rintro e w2 ⟨u9, rfl, hu, hb2⟩
          have HU := hid hu
          have HB3 := hid (HB1.out.trans (hb2.mono HB1.out.size))
          obtain ⟨ua, uc, rfl, _, _⟩ := hu
          clear hb2 bx0 bx1 bx2 bx3
          go_wp2_with fail
          refine (limited_no _ _ _ hl HU.out).mono ?_
          rintro e w3 ⟨rfl, rfl⟩
          go_wp2
          go_ret2
          exact ⟨_, rfl, HU.out, HB3.out⟩
  · have hE0 : chk [fs, gs] ≠ 0 := by simpa using hE
    rw [(mulE_bad (p := p) (o := o) (f := fs) (g := gs) hE0).1, (mulE_bad (p := p) (o := o) (f := fs) (g := gs) hE0).2]
    clear hE0
    go_enter Tryz.func87, Tryz.ntmps87
    go_wp2_with fail
    refine (HT.out.1 [fs, gs] _ _ (by simp) (pls2 (HP.out.below (HB2.out _ _)) (HQ.out.below (HB2.out _ _)) (by simp) (by simp [go_sem]) (by simp [go_sem]))).mono ?_
    rintro e w1 ⟨rfl, hb1⟩
    have HB1 := hid ((HB2.out _ _).trans (hb1.mono (HB2.out _ _).size))
    clear hb1
    go_wp2
    go_ret2
    exact ⟨_, rfl, Pl.empty _, HB1.out⟩
set_option maxHeartbeats 1000000 in
theorem polyCheck_any (p n o v : Int) (chk : List (List Tm) → Int) (HC : Tells p n o v chk) (x : Value) (fs : List Tm) (w : World) (pf : Pl w x fs) :
    Calls Tryz.prog 86 #[ringV p n o v, x] w fun e w' => e = .returned (.int .i64 (chk [fs])) ∧ Below w.heap.size w w' := by
  have HP := hid pf
  have HT := hid HC
  obtain ⟨a, c, rfl, _, _⟩ := pf
  clear HC
  have HB2 : Hid (∀ A B, Below w.heap.size w ((w.alloc A).alloc B)) := fun A B => below_two
  go_enter Tryz.func86, Tryz.ntmps86
  go_wp2_with fail
  refine (HT.out.1 [fs] _ _ (by simp) (pls1 (HP.out.below (HB2.out _ _)) (by simp) (by simp [go_sem]))).mono ?_
  rintro e w1 ⟨rfl, hb1⟩
  have HB1 := hid ((HB2.out _ _).trans (hb1.mono (HB2.out _ _).size))
  clear hb1
  go_wp2
  go_ret
  exact ⟨rfl, HB1.out⟩

set_option maxHeartbeats 1000000 in
theorem term_any (c : Int) (a : Option Addr) (n m : Nat) (w : World) :
    Calls Tryz.prog 42 #[.int .i64 c, .slice a n m] w fun e w' => e = .returned (.agg #[.int .i64 c, .slice a n m]) ∧ Below w.heap.size w w' := by
  go_enter Tryz.func42, Tryz.ntmps42
  go_wp2
  exact bodyPost_ret (v := .agg #[.int .i64 c, .slice a n m]) (by simp [results, Tryz.results42, go_sem]) rfl ⟨rfl, (Below.refl _ _).alloc (Nat.le_refl _) _⟩

theorem pl_new2 {w : World} {c1 c2 : Int} {s1 s2 : Value} {e1 e2 : List Int} {T : TypeId} (h1 : Sl w s1 e1) (h2 : Sl w s2 e2) : Pl (w.alloc (.cells #[.int .i64 c1, s1, .int .i64 c2, s2] T)) (.slice (some ⟨w.heap.size, 0, none⟩) 2 2) [(c1, e1), (c2, e2)] := by
  refine ⟨_, _, rfl, by simp, fun _ => ⟨_, _, rfl, by simp, fun i hi => ?_⟩⟩
  simp at hi
  rcases i with _ | _ | i
  · exact ⟨by simp [go_sem], s1, by simp [go_sem], h1.below belowNew⟩
  · exact ⟨by simp [go_sem], s2, by simp [go_sem], h2.below belowNew⟩
  · omega
theorem errFrom_mk {p o : Int} {N : Nat} : ∀ (ts : List Tm) (q : Option (List Int)), (∀ t ∈ ts, (1 ≤ t.1 ∧ t.1 < p) ∧ errM N t.2 = 0) → Falls o ts → (∀ e, q = some e → ∀ t ∈ ts, 0 < ordS o e t.2) → errFrom p N o q ts = 0
  | [], _, _, _, _ => by unfold errFrom; rfl
  | t :: ts, q, h, hf, hq => by
    have hu : errFrom p N o q (t :: ts) = if betweenB t.1 1 (p - 1) = false then 3 else if errM N t.2 ≠ 0 then errM N t.2 else if okPrev o q t.2 = false then 4 else errFrom p N o (some t.2) ts := rfl
    obtain ⟨hc, hm⟩ := h t (by simp)
    have h1 : betweenB t.1 1 (p - 1) = true := by simp [betweenB]; omega
    have h2 : okPrev o q t.2 = true := by
      cases q with
      | none => rfl
      | some e => have := hq e rfl t (by simp); simpa [okPrev, moreB] using this
    rw [hu, if_neg (by simp [h1]), if_neg (by simp [hm]), if_neg (by simp [h2])]
    exact errFrom_mk ts (some t.2) (fun u hu => h u (by simp [hu])) hf.2 (fun e he u hu => by simp at he; rw [← he]; exact hf.1 u hu)
theorem errOne_mk {p o : Int} {N : Nat} {ts : List Tm} (h : Right p o N ts) : errOne p N o ts = 0 := by
  unfold errOne
  rw [if_neg (by have := h.len; omega)]
  refine errFrom_mk ts none (fun t ht => ⟨h.canon.coef t ht, errM_mk (by rw [h.canon.len t ht]) (fun x hx => by have := h.bd t ht x hx; omega) (h.deg t ht)⟩) h.canon.falls (fun e he => by simp at he)
theorem great_ok {ts : List Tm} (h : greatB ts = false) : ts.length ≤ 2000 ∧ ∀ x ∈ ts, sumI x.2 ≤ 200 := by
  unfold greatB at h
  simp only [Bool.or_eq_false_iff, decide_eq_false_iff_not] at h
  refine ⟨by omega, fun x hx => ?_⟩
  have := (topF_ge ts (-1)).2 x hx
  omega
theorem right_mk {p o : Int} {N : Nat} {ts : List Tm} (hc : Canon p o N ts) (hb : ∀ t ∈ ts, ∀ x ∈ t.2, 0 ≤ x ∧ x ≤ 40000) (hg : greatB ts = false) : Right p o N ts := by
  obtain ⟨h1, h2⟩ := great_ok hg
  exact ⟨hc, fun t ht x hx => by have h9 := (errM_ok (errM_mk (n := (N : Int)) (by rw [hc.len t ht]) (hb t ht) (h2 t ht))).2.1 x hx; omega, h1, h2⟩
end Go.Proofs.YtilogbggilchaaaGreat
