/- poly.limited, degree, Add, Mul: by what checkAll tells. -/
import Derived.Test.YtkmjmmnnnbjghaaGreatWA
import Derived.Lib.ItoaNum
import Derived.Lib.Join
import Derived.Deep.CutBlock
import Derived.Deep.DeepCutAuto
namespace Go.Proofs.YtkmjmmnnnbjghaaGreat
set_option linter.unusedSimpArgs false
set_option linter.unusedVariables false
open Go.RowKit

/-- What checkAll tells of polynomials. -/
def Tells (p n o v : Int) (chk : List (List Tm) → Int) : Prop :=
  (∀ (fss : List (List Tm)) (lv : Value) (w : World), fss.length ≤ 1200000000000 → Vl w lv fss → Calls Tryz.prog 92 #[ringV p n o v, lv] w fun e w' => e = .returned (.int .i64 (chk fss)) ∧ Below w.heap.size w w') ∧
  (∀ fss, fss ≠ [] → chk fss = 0 → errR p n o v = 0 ∧ ∀ f ∈ fss, errOne p n o f = 0) ∧
  (errR p n o v = 0 → ∀ fss, (∀ f ∈ fss, errOne p n o f = 0) → chk fss = 0)

set_option maxHeartbeats 1000000 in
theorem limited_yes (x : Value) (ts : List Tm) (w : World) (h : 2000 < ts.length) (pf : Pl w x ts) :
    Calls Tryz.prog 93 #[x] w fun e w' => e = .returned (.tuple #[.slice none 0 0, .int .i64 2]) ∧ w' = w := by
  obtain ⟨a, c, rfl, _, _⟩ := pf
  go_enter Tryz.func93, Tryz.ntmps93
  go_wp2
  go_ret2
  exact ⟨rfl, rfl⟩
set_option maxHeartbeats 1000000 in
theorem limited_no (x : Value) (ts : List Tm) (w : World) (h : ¬ 2000 < ts.length) (pf : Pl w x ts) :
    Calls Tryz.prog 93 #[x] w fun e w' => e = .returned (.tuple #[x, .int .i64 0]) ∧ w' = w := by
  obtain ⟨a, c, rfl, _, _⟩ := pf
  go_enter Tryz.func93, Tryz.ntmps93
  go_wp2
  go_ret2
  exact ⟨rfl, rfl⟩

set_option maxHeartbeats 1000000 in
theorem polyDegree_any (x : Value) (t : Tm) (ts : List Tm) (w : World) (h0 : 0 < t.2.length) (h3 : t.2.length ≤ 3) (hb : ∀ x ∈ t.2, 0 ≤ x ∧ x ≤ 40000) (pf : Pl w x (t :: ts)) :
    Calls Tryz.prog 112 #[x] w fun e w' => e = .returned (.int .i64 (sumI t.2)) ∧ w' = w := by
  obtain ⟨b, off, cap, ev, rfl, hcap, hlt, c0, c1, hse, _, _⟩ := pf.head
  have HB := hid hb
  obtain ⟨a, c, rfl, hs⟩ := hse
  obtain ⟨eb, eoff, rfl, helt, hei⟩ := hs h0
  have HEI := hid hei
  clear hb hei hs pf
  have hle : (0 : Int) < (ts.length : Int) + 1 := by omega
  go_enter Tryz.func112, Tryz.ntmps112
  go_wp2_with (go_at_call 21; refine (degree_any t.2 _ _ _ _ HB.out h3 HEI.out).mono ?_; rintro e w' ⟨rfl, rfl⟩)
  go_ret
  exact ⟨rfl, rfl⟩

theorem pls2 {w : World} {x y : Value} {fs gs : List Tm} {b c : Nat} (hf : Pl w x fs) (hg : Pl w y gs) (hlt : b < w.heap.size) (c0 : w.cell? ⟨b, 0, none⟩ = some x) (c1 : w.cell? ⟨b, 1, none⟩ = some y) : Vl w (.slice (some ⟨b, 0, none⟩) 2 c) [fs, gs] := by
  refine ⟨_, c, rfl, fun _ => ⟨b, 0, rfl, hlt, fun i hi => ?_⟩⟩
  simp only [List.length_cons, List.length_nil] at hi
  rcases i with _ | _ | i
  · exact ⟨x, c0, hf⟩
  · exact ⟨y, c1, hg⟩
  · omega
theorem pls1 {w : World} {x : Value} {fs : List Tm} {b c : Nat} (hf : Pl w x fs) (hlt : b < w.heap.size) (c0 : w.cell? ⟨b, 0, none⟩ = some x) : Vl w (.slice (some ⟨b, 0, none⟩) 1 c) [fs] := by
  refine ⟨_, c, rfl, fun _ => ⟨b, 0, rfl, hlt, fun i hi => ?_⟩⟩
  simp only [List.length_cons, List.length_nil] at hi
  rcases i with _ | i
  · exact ⟨x, c0, hf⟩
  · omega
theorem right_of {p n o v : Int} {f : List Tm} (hr : errR p n o v = 0) (h : errOne p n o f = 0) : Right p o n.toNat f ∧ 0 < n.toNat ∧ n.toNat ≤ 3 ∧ errP p = 0 ∧ (2 ≤ p ∧ p ≤ 101) ∧ (o = 1 ∨ o = 2) := by
  obtain ⟨h1, h2, h3, h4, _⟩ := ring_ok hr
  have e : n = (n.toNat : Int) := by omega
  rw [e] at h
  exact ⟨errOne_ok h, by omega, by omega, h1, errP_bd h1, h4⟩
def addE (E : Int) (p o : Int) (f g : List Tm) : Int := if E ≠ 0 then E else if greatB (colL p o (f ++ g)) then 2 else 0
def mulE (E : Int) (p o : Int) (f g : List Tm) : Int := if E ≠ 0 then E else if greatB (colL p o (prodL p f g)) then 2 else 0
def addR (E : Int) (p o : Int) (f g : List Tm) : List Tm := if addE E p o f g = 0 then colL p o (f ++ g) else []
def mulR (E : Int) (p o : Int) (f g : List Tm) : List Tm := if mulE E p o f g = 0 then colL p o (prodL p f g) else []
theorem col_len {p o : Int} (l : List Tm) : (colL p o l).length ≤ l.length := by
  have h1 := List.length_filter_le (fun t : Tm => t.1 % p != 0) (l.foldl (ins p o) [])
  have h2 := fold_len1 (p := p) (o := o) l []
  simp only [List.length_nil] at h2
  unfold colL
  omega
theorem addE_bad {E p o : Int} {f g : List Tm} (h : E ≠ 0) : addE E p o f g = E ∧ addR E p o f g = [] := by
  have h1 : addE E p o f g = E := by unfold addE; rw [if_pos h]
  exact ⟨h1, by unfold addR; rw [h1, if_neg h]⟩
theorem addE_yes {E p o : Int} {f g : List Tm} (h : E = 0) (hg : greatB (colL p o (f ++ g)) = true) : addE E p o f g = 2 ∧ addR E p o f g = [] := by
  have h1 : addE E p o f g = 2 := by unfold addE; rw [if_neg (by simpa using h), if_pos hg]
  exact ⟨h1, by unfold addR; rw [h1, if_neg (by omega)]⟩
theorem addE_no {E p o : Int} {f g : List Tm} (h : E = 0) (hg : greatB (colL p o (f ++ g)) = false) : addE E p o f g = 0 ∧ addR E p o f g = colL p o (f ++ g) := by
  have h1 : addE E p o f g = 0 := by unfold addE; rw [if_neg (by simpa using h), if_neg (by simp [hg])]
  exact ⟨h1, by unfold addR; rw [h1, if_pos rfl]⟩
theorem mulE_bad {E p o : Int} {f g : List Tm} (h : E ≠ 0) : mulE E p o f g = E ∧ mulR E p o f g = [] := by
  have h1 : mulE E p o f g = E := by unfold mulE; rw [if_pos h]
  exact ⟨h1, by unfold mulR; rw [h1, if_neg h]⟩
theorem mulE_yes {E p o : Int} {f g : List Tm} (h : E = 0) (hg : greatB (colL p o (prodL p f g)) = true) : mulE E p o f g = 2 ∧ mulR E p o f g = [] := by
  have h1 : mulE E p o f g = 2 := by unfold mulE; rw [if_neg (by simpa using h), if_pos hg]
  exact ⟨h1, by unfold mulR; rw [h1, if_neg (by omega)]⟩
theorem mulE_no {E p o : Int} {f g : List Tm} (h : E = 0) (hg : greatB (colL p o (prodL p f g)) = false) : mulE E p o f g = 0 ∧ mulR E p o f g = colL p o (prodL p f g) := by
  have h1 : mulE E p o f g = 0 := by unfold mulE; rw [if_neg (by simpa using h), if_neg (by simp [hg])]
  exact ⟨h1, by unfold mulR; rw [h1, if_pos rfl]⟩

set_option maxRecDepth 100000 in
set_option maxHeartbeats 2000000 in
theorem polyAdd_any (p n o v : Int) (chk : List (List Tm) → Int) (HC : Tells p n o v chk) (x y : Value) (fs gs : List Tm) (w : World) (pf : Pl w x fs) (pg : Pl w y gs) :
    Calls Tryz.prog 54 #[ringV p n o v, x, y] w fun e w' => ∃ u, e = .returned (.tuple #[u, .int .i64 (addE (chk [fs, gs]) p o fs gs)]) ∧ Pl w' u (addR (chk [fs, gs]) p o fs gs) ∧ Below w.heap.size w w' := by
  have HP := hid pf
  have HQ := hid pg
  have HT := hid HC
  obtain ⟨a, c, rfl, _, _⟩ := pf
  obtain ⟨a2, c2, rfl, _, _⟩ := pg
  clear HC
  have HB2 : Hid (∀ A B, Below w.heap.size w ((w.alloc A).alloc B)) := fun A B => below_two
  cases hE : (chk [fs, gs] != 0)
  · have hE0 : chk [fs, gs] = 0 := by simpa using hE
    obtain ⟨hr, hall⟩ := HT.out.2.1 [fs, gs] (by simp) hE0
    obtain ⟨rf, hN0, hN3, hpr, hp, ho⟩ := right_of hr (hall fs (by simp))
    obtain ⟨rg, _⟩ := right_of hr (hall gs (by simp))
    have HR := hid (And.intro rf rg)
    have HPO := hid (And.intro hp (And.intro ho hpr))
    have HE0 := hid hE0
    clear hE0 hr hall rf rg hp ho hpr
    have HG := hid (great_small (sum_deg HR.out.1 HR.out.2))
    by_cases hl : 2000 < (colL p o (fs ++ gs)).length
    · have hgr : greatB (colL p o (fs ++ gs)) = true := by rw [HG.out]; exact decide_eq_true hl
      rw [(addE_yes HE0.out hgr).1, (addE_yes HE0.out hgr).2]
      clear hgr
      go_enter Tryz.func54, Tryz.ntmps54
      go_wp2_with fail
      refine (HT.out.1 [fs, gs] _ _ (by simp) (pls2 (HP.out.below (HB2.out _ _)) (HQ.out.below (HB2.out _ _)) (by simp) (by simp [go_sem]) (by simp [go_sem]))).mono ?_
      rintro e w1 ⟨rfl, hb1⟩
      rw [HE0.out]
      have HB1 := hid ((HB2.out _ _).trans (hb1.mono (HB2.out _ _).size))
      have bx0 : w1.cell? ⟨w.heap.size, 0, none⟩ = some (.int .i64 p) := by rw [hb1.cell (p := ⟨w.heap.size, 0, none⟩) (by simp; omega)]; simp [go_sem]
      have bx1 : w1.cell? ⟨w.heap.size, 1, none⟩ = some (.int .i64 n) := by rw [hb1.cell (p := ⟨w.heap.size, 1, none⟩) (by simp; omega)]; simp [go_sem]
      have bx2 : w1.cell? ⟨w.heap.size, 2, none⟩ = some (.int .i64 o) := by rw [hb1.cell (p := ⟨w.heap.size, 2, none⟩) (by simp; omega)]; simp [go_sem]
      have bx3 : w1.cell? ⟨w.heap.size, 3, none⟩ = some (.int .i64 v) := by rw [hb1.cell (p := ⟨w.heap.size, 3, none⟩) (by simp; omega)]; simp [go_sem]
      clear hb1
      go_wp2_with fail
      refine (bareSum_any p n o v n.toNat 2000 _ [fs, gs] _ HPO.out.1 HPO.out.2.1 hN0 hN3 ?_ (by simp) (by simp) (pls2 ((HP.out.below HB1.out).below below_oneG) ((HQ.out.below HB1.out).below below_oneG) (by simp) (by simp [go_sem]) (by simp [go_sem]))).mono ?_
      · intro f hf
        simp only [List.mem_cons, List.not_mem_nil, or_false] at hf
        rcases hf with rfl | rfl
        · exact ⟨HR.out.1.canon, HR.out.1.bd.bd, HR.out.1.len⟩
        · exact ⟨HR.out.2.canon, HR.out.2.bd.bd, HR.out.2.len⟩
      rintro e w2 ⟨u, rfl, hu, hb2⟩
      have hfl : [fs, gs].flatten = fs ++ gs := by simp
      rw [hfl] at hu
      have HU := hid hu
      have HB3 := hid (HB1.out.trans ((below_oneG.trans (hb2.mono (by simp))).mono HB1.out.size))
      obtain ⟨ua, uc, rfl, _, _⟩ := hu
      clear hb2 bx0 bx1 bx2 bx3 hfl
      go_wp2_with fail
      refine (limited_yes _ _ _ hl HU.out).mono ?_
      rintro e w3 ⟨rfl, rfl⟩
      go_wp2
      go_ret2
      exact ⟨_, rfl, Pl.empty _, HB3.out⟩
    · have hgr : greatB (colL p o (fs ++ gs)) = false := by rw [HG.out]; exact decide_eq_false hl
      rw [(addE_no HE0.out hgr).1, (addE_no HE0.out hgr).2]
      clear hgr
      go_enter Tryz.func54, Tryz.ntmps54
      go_wp2_with fail
      refine (HT.out.1 [fs, gs] _ _ (by simp) (pls2 (HP.out.below (HB2.out _ _)) (HQ.out.below (HB2.out _ _)) (by simp) (by simp [go_sem]) (by simp [go_sem]))).mono ?_
      rintro e w1 ⟨rfl, hb1⟩
      rw [HE0.out]
      have HB1 := hid ((HB2.out _ _).trans (hb1.mono (HB2.out _ _).size))
      have bx0 : w1.cell? ⟨w.heap.size, 0, none⟩ = some (.int .i64 p) := by rw [hb1.cell (p := ⟨w.heap.size, 0, none⟩) (by simp; omega)]; simp [go_sem]
      have bx1 : w1.cell? ⟨w.heap.size, 1, none⟩ = some (.int .i64 n) := by rw [hb1.cell (p := ⟨w.heap.size, 1, none⟩) (by simp; omega)]; simp [go_sem]
      have bx2 : w1.cell? ⟨w.heap.size, 2, none⟩ = some (.int .i64 o) := by rw [hb1.cell (p := ⟨w.heap.size, 2, none⟩) (by simp; omega)]; simp [go_sem]
      have bx3 : w1.cell? ⟨w.heap.size, 3, none⟩ = some (.int .i64 v) := by rw [hb1.cell (p := ⟨w.heap.size, 3, none⟩) (by simp; omega)]; simp [go_sem]
      clear hb1
      go_wp2_with fail
      refine (bareSum_any p n o v n.toNat 2000 _ [fs, gs] _ HPO.out.1 HPO.out.2.1 hN0 hN3 ?_ (by simp) (by simp) (pls2 ((HP.out.below HB1.out).below below_oneG) ((HQ.out.below HB1.out).below below_oneG) (by simp) (by simp [go_sem]) (by simp [go_sem]))).mono ?_
      · intro f hf
        simp only [List.mem_cons, List.not_mem_nil, or_false] at hf
        rcases hf with rfl | rfl
        · exact ⟨HR.out.1.canon, HR.out.1.bd.bd, HR.out.1.len⟩
        · exact ⟨HR.out.2.canon, HR.out.2.bd.bd, HR.out.2.len⟩
      rintro e w2 ⟨u, rfl, hu, hb2⟩
      have hfl : [fs, gs].flatten = fs ++ gs := by simp
      rw [hfl] at hu
      have HU := hid hu
      have HB3 := hid (HB1.out.trans ((below_oneG.trans (hb2.mono (by simp))).mono HB1.out.size))
      obtain ⟨ua, uc, rfl, _, _⟩ := hu
      clear hb2 bx0 bx1 bx2 bx3 hfl
      go_wp2_with fail
      refine (limited_no _ _ _ hl HU.out).mono ?_
      rintro e w3 ⟨rfl, rfl⟩
      go_wp2
      go_ret2
      exact ⟨_, rfl, HU.out, HB3.out⟩
  · have hE0 : chk [fs, gs] ≠ 0 := by simpa using hE
    rw [(addE_bad (p := p) (o := o) (f := fs) (g := gs) hE0).1, (addE_bad (p := p) (o := o) (f := fs) (g := gs) hE0).2]
    clear hE0
    go_enter Tryz.func54, Tryz.ntmps54
    go_wp2_with fail
    refine (HT.out.1 [fs, gs] _ _ (by simp) (pls2 (HP.out.below (HB2.out _ _)) (HQ.out.below (HB2.out _ _)) (by simp) (by simp [go_sem]) (by simp [go_sem]))).mono ?_
    rintro e w1 ⟨rfl, hb1⟩
    have HB1 := hid ((HB2.out _ _).trans (hb1.mono (HB2.out _ _).size))
    clear hb1
    go_wp2
    go_ret2
    exact ⟨_, rfl, Pl.empty _, HB1.out⟩

set_option maxRecDepth 100000 in
set_option maxHeartbeats 2000000 in
theorem polyMul_any (p n o v : Int) (chk : List (List Tm) → Int) (HC : Tells p n o v chk) (x y : Value) (fs gs : List Tm) (w : World) (pf : Pl w x fs) (pg : Pl w y gs) :
    Calls Tryz.prog 87 #[ringV p n o v, x, y] w fun e w' => ∃ u, e = .returned (.tuple #[u, .int .i64 (mulE (chk [fs, gs]) p o fs gs)]) ∧ Pl w' u (mulR (chk [fs, gs]) p o fs gs) ∧ Below w.heap.size w w' := by
  have HP := hid pf
  have HQ := hid pg
  have HT := hid HC
  obtain ⟨a, c, rfl, _, _⟩ := pf
  obtain ⟨a2, c2, rfl, _, _⟩ := pg
  clear HC
  have HB2 : Hid (∀ A B, Below w.heap.size w ((w.alloc A).alloc B)) := fun A B => below_two
  cases hE : (chk [fs, gs] != 0)
  · have hE0 : chk [fs, gs] = 0 := by simpa using hE
    obtain ⟨hr, hall⟩ := HT.out.2.1 [fs, gs] (by simp) hE0
    obtain ⟨rf, hN0, hN3, hpr, hp, ho⟩ := right_of hr (hall fs (by simp))
    obtain ⟨rg, _⟩ := right_of hr (hall gs (by simp))
    have HR := hid (And.intro rf rg)
    have HPO := hid (And.intro hp (And.intro ho hpr))
    have HE0 := hid hE0
    clear hE0 hr hall rf rg hp ho hpr
    by_cases hem : fs = [] ∨ gs = []
    · have HEM := hid hem
      have hl0 : ¬ (0 < fs.length ∧ 0 < gs.length) := by
        rcases hem with h | h
        · rw [h]; simp
        · rw [h]; simp
      have hcn : colL p o (prodL p fs gs) = [] := great_none hem
      have hgr : greatB (colL p o (prodL p fs gs)) = false := by rw [hcn]; rfl
      rw [(mulE_no HE0.out hgr).1, (mulE_no HE0.out hgr).2]
      have hl : ¬ 2000 < (colL p o (prodL p fs gs)).length := by rw [hcn]; simp
      clear hgr hcn hem
      by_cases hf0 : 0 < fs.length
      · have hg0 : ¬ 0 < gs.length := fun h => hl0 ⟨hf0, h⟩
        go_enter Tryz.func87, Tryz.ntmps87
        go_wp2_with fail
        refine (HT.out.1 [fs, gs] _ _ (by simp) (pls2 (HP.out.below (HB2.out _ _)) (HQ.out.below (HB2.out _ _)) (by simp) (by simp [go_sem]) (by simp [go_sem]))).mono ?_
        rintro e w1 ⟨rfl, hb1⟩
        rw [HE0.out]
        have HB1 := hid ((HB2.out _ _).trans (hb1.mono (HB2.out _ _).size))
        have bx0 : w1.cell? ⟨w.heap.size, 0, none⟩ = some (.int .i64 p) := by rw [hb1.cell (p := ⟨w.heap.size, 0, none⟩) (by simp; omega)]; simp [go_sem]
        have bx1 : w1.cell? ⟨w.heap.size, 1, none⟩ = some (.int .i64 n) := by rw [hb1.cell (p := ⟨w.heap.size, 1, none⟩) (by simp; omega)]; simp [go_sem]
        have bx2 : w1.cell? ⟨w.heap.size, 2, none⟩ = some (.int .i64 o) := by rw [hb1.cell (p := ⟨w.heap.size, 2, none⟩) (by simp; omega)]; simp [go_sem]
        have bx3 : w1.cell? ⟨w.heap.size, 3, none⟩ = some (.int .i64 v) := by rw [hb1.cell (p := ⟨w.heap.size, 3, none⟩) (by simp; omega)]; simp [go_sem]
        clear hb1
        go_wp2_with fail
        refine (bareProduct_any p n o v n.toNat _ _ fs gs _ HPO.out.2.2 HPO.out.2.1 hN0 hN3 HR.out.1.canon HR.out.2.canon HR.out.1.bd HR.out.2.bd HR.out.1.len HR.out.2.len (HP.out.below HB1.out) (HQ.out.below HB1.out)).mono ?_
        rintro e w2 ⟨u9, rfl, hu, hb2⟩
        have HU := hid hu
        have HB3 := hid (HB1.out.trans (hb2.mono HB1.out.size))
        obtain ⟨ua, uc, rfl, _, _⟩ := hu
        clear hb2 bx0 bx1 bx2 bx3
        go_wp2_with fail
        refine (limited_no _ _ _ hl HU.out).mono ?_
        rintro e w3 ⟨rfl, rfl⟩
        go_wp2
        go_ret2
        exact ⟨_, rfl, HU.out, HB3.out⟩
      · clear hl0
        go_enter Tryz.func87, Tryz.ntmps87
        go_wp2_with fail
        refine (HT.out.1 [fs, gs] _ _ (by simp) (pls2 (HP.out.below (HB2.out _ _)) (HQ.out.below (HB2.out _ _)) (by simp) (by simp [go_sem]) (by simp [go_sem]))).mono ?_
        rintro e w1 ⟨rfl, hb1⟩
        rw [HE0.out]
        have HB1 := hid ((HB2.out _ _).trans (hb1.mono (HB2.out _ _).size))
        have bx0 : w1.cell? ⟨w.heap.size, 0, none⟩ = some (.int .i64 p) := by rw [hb1.cell (p := ⟨w.heap.size, 0, none⟩) (by simp; omega)]; simp [go_sem]
        have bx1 : w1.cell? ⟨w.heap.size, 1, none⟩ = some (.int .i64 n) := by rw [hb1.cell (p := ⟨w.heap.size, 1, none⟩) (by simp; omega)]; simp [go_sem]
        have bx2 : w1.cell? ⟨w.heap.size, 2, none⟩ = some (.int .i64 o) := by rw [hb1.cell (p := ⟨w.heap.size, 2, none⟩) (by simp; omega)]; simp [go_sem]
        have bx3 : w1.cell? ⟨w.heap.size, 3, none⟩ = some (.int .i64 v) := by rw [hb1.cell (p := ⟨w.heap.size, 3, none⟩) (by simp; omega)]; simp [go_sem]
        clear hb1
        go_wp2_with fail
        refine (bareProduct_any p n o v n.toNat _ _ fs gs _ HPO.out.2.2 HPO.out.2.1 hN0 hN3 HR.out.1.canon HR.out.2.canon HR.out.1.bd HR.out.2.bd HR.out.1.len HR.out.2.len (HP.out.below HB1.out) (HQ.out.below HB1.out)).mono ?_
        rintro e w2 ⟨u9, rfl, hu, hb2⟩
        have HU := hid hu
        have HB3 := hid (HB1.out.trans (hb2.mono HB1.out.size))
        obtain ⟨ua, uc, rfl, _, _⟩ := hu
        clear hb2 bx0 bx1 bx2 bx3
        go_wp2_with fail
        refine (limited_no _ _ _ hl HU.out).mono ?_
        rintro e w3 ⟨rfl, rfl⟩
        go_wp2
        go_ret2
        exact ⟨_, rfl, HU.out, HB3.out⟩
    · cases fs with
      | nil => exact absurd (Or.inl rfl) hem
      | cons t fs2 =>
      cases gs with
      | nil => exact absurd (Or.inr rfl) hem
      | cons u gs2 =>
      have HG := hid (great_prod HPO.out.2.2 HR.out.1.canon HR.out.2.canon)
      have HTL : Hid (0 < t.2.length ∧ t.2.length ≤ 3 ∧ ∀ x ∈ t.2, 0 ≤ x ∧ x ≤ 40000) := ⟨by rw [HR.out.1.canon.len t (by simp)]; exact hN0, by rw [HR.out.1.canon.len t (by simp)]; exact hN3, HR.out.1.bd.bd t (by simp)⟩
      have HUL : Hid (0 < u.2.length ∧ u.2.length ≤ 3 ∧ ∀ x ∈ u.2, 0 ≤ x ∧ x ≤ 40000) := ⟨by rw [HR.out.2.canon.len u (by simp)]; exact hN0, by rw [HR.out.2.canon.len u (by simp)]; exact hN3, HR.out.2.bd.bd u (by simp)⟩
      have hs1 := sumI_bd t.2 HTL.out.2.2
      have hs2 := sumI_bd u.2 HUL.out.2.2
      have ht3 := HTL.out.2.1
      have hu3 := HUL.out.2.1
      have hq1 : (0 : Int) < (fs2.length : Int) + 1 := by omega
      have hq2 : (0 : Int) < (gs2.length : Int) + 1 := by omega
      clear hem
      by_cases hd : 200 < sumI t.2 + sumI u.2
      · have hgr : greatB (colL p o (prodL p (t :: fs2) (u :: gs2))) = true := by rw [HG.out, decide_eq_true hd, Bool.true_or]
        rw [(mulE_yes HE0.out hgr).1, (mulE_yes HE0.out hgr).2]
        clear hgr
        go_enter Tryz.func87, Tryz.ntmps87
        go_wp2_with fail
        refine (HT.out.1 [t :: fs2, u :: gs2] _ _ (by simp) (pls2 (HP.out.below (HB2.out _ _)) (HQ.out.below (HB2.out _ _)) (by simp) (by simp [go_sem]) (by simp [go_sem]))).mono ?_
        rintro e w1 ⟨rfl, hb1⟩
        rw [HE0.out]
        have HB1 := hid ((HB2.out _ _).trans (hb1.mono (HB2.out _ _).size))
        have bx0 : w1.cell? ⟨w.heap.size, 0, none⟩ = some (.int .i64 p) := by rw [hb1.cell (p := ⟨w.heap.size, 0, none⟩) (by simp; omega)]; simp [go_sem]
        have bx1 : w1.cell? ⟨w.heap.size, 1, none⟩ = some (.int .i64 n) := by rw [hb1.cell (p := ⟨w.heap.size, 1, none⟩) (by simp; omega)]; simp [go_sem]
        have bx2 : w1.cell? ⟨w.heap.size, 2, none⟩ = some (.int .i64 o) := by rw [hb1.cell (p := ⟨w.heap.size, 2, none⟩) (by simp; omega)]; simp [go_sem]
        have bx3 : w1.cell? ⟨w.heap.size, 3, none⟩ = some (.int .i64 v) := by rw [hb1.cell (p := ⟨w.heap.size, 3, none⟩) (by simp; omega)]; simp [go_sem]
        clear hb1
        go_wp2_with fail
        refine (polyDegree_any _ t fs2 _ HTL.out.1 HTL.out.2.1 HTL.out.2.2 (HP.out.below HB1.out)).mono ?_
        rintro e w' ⟨rfl, hw'⟩
        subst w'
        go_wp2_with fail
        refine (polyDegree_any _ u gs2 _ HUL.out.1 HUL.out.2.1 HUL.out.2.2 (HQ.out.below HB1.out)).mono ?_
        rintro e w' ⟨rfl, hw'⟩
        subst w'
        go_wp2
        go_ret2
        exact ⟨_, rfl, Pl.empty _, HB1.out⟩
      · by_cases hl : 2000 < (colL p o (prodL p (t :: fs2) (u :: gs2))).length
        · have hgr : greatB (colL p o (prodL p (t :: fs2) (u :: gs2))) = true := by rw [HG.out, decide_eq_true hl, Bool.or_true]
          rw [(mulE_yes HE0.out hgr).1, (mulE_yes HE0.out hgr).2]
          clear hgr
          go_enter Tryz.func87, Tryz.ntmps87
          go_wp2_with fail
          refine (HT.out.1 [t :: fs2, u :: gs2] _ _ (by simp) (pls2 (HP.out.below (HB2.out _ _)) (HQ.out.below (HB2.out _ _)) (by simp) (by simp [go_sem]) (by simp [go_sem]))).mono ?_
          rintro e w1 ⟨rfl, hb1⟩
          rw [HE0.out]
          have HB1 := hid ((HB2.out _ _).trans (hb1.mono (HB2.out _ _).size))
          have bx0 : w1.cell? ⟨w.heap.size, 0, none⟩ = some (.int .i64 p) := by rw [hb1.cell (p := ⟨w.heap.size, 0, none⟩) (by simp; omega)]; simp [go_sem]
          have bx1 : w1.cell? ⟨w.heap.size, 1, none⟩ = some (.int .i64 n) := by rw [hb1.cell (p := ⟨w.heap.size, 1, none⟩) (by simp; omega)]; simp [go_sem]
          have bx2 : w1.cell? ⟨w.heap.size, 2, none⟩ = some (.int .i64 o) := by rw [hb1.cell (p := ⟨w.heap.size, 2, none⟩) (by simp; omega)]; simp [go_sem]
          have bx3 : w1.cell? ⟨w.heap.size, 3, none⟩ = some (.int .i64 v) := by rw [hb1.cell (p := ⟨w.heap.size, 3, none⟩) (by simp; omega)]; simp [go_sem]
          clear hb1
          go_wp2_with fail
          refine (polyDegree_any _ t fs2 _ HTL.out.1 HTL.out.2.1 HTL.out.2.2 (HP.out.below HB1.out)).mono ?_
          rintro e w' ⟨rfl, hw'⟩
          subst w'
          go_wp2_with fail
          refine (polyDegree_any _ u gs2 _ HUL.out.1 HUL.out.2.1 HUL.out.2.2 (HQ.out.below HB1.out)).mono ?_
          rintro e w' ⟨rfl, hw'⟩
          subst w'
          go_wp2_with fail
          refine (bareProduct_any p n o v n.toNat _ _ (t :: fs2) (u :: gs2) _ HPO.out.2.2 HPO.out.2.1 hN0 hN3 HR.out.1.canon HR.out.2.canon HR.out.1.bd HR.out.2.bd HR.out.1.len HR.out.2.len (HP.out.below HB1.out) (HQ.out.below HB1.out)).mono ?_
          rintro e w2 ⟨u9, rfl, hu, hb2⟩
          have HU := hid hu
          have HB3 := hid (HB1.out.trans (hb2.mono HB1.out.size))
          obtain ⟨ua, uc, rfl, _, _⟩ := hu
          clear hb2 bx0 bx1 bx2 bx3
          go_wp2_with fail
          refine (limited_yes _ _ _ hl HU.out).mono ?_
          rintro e w3 ⟨rfl, rfl⟩
          go_wp2
          go_ret2
          exact ⟨_, rfl, Pl.empty _, HB3.out⟩
        · have hgr : greatB (colL p o (prodL p (t :: fs2) (u :: gs2))) = false := by rw [HG.out, decide_eq_false hd, decide_eq_false hl, Bool.or_false]
          rw [(mulE_no HE0.out hgr).1, (mulE_no HE0.out hgr).2]
          clear hgr
          go_enter Tryz.func87, Tryz.ntmps87
          go_wp2_with fail
          refine (HT.out.1 [t :: fs2, u :: gs2] _ _ (by simp) (pls2 (HP.out.below (HB2.out _ _)) (HQ.out.below (HB2.out _ _)) (by simp) (by simp [go_sem]) (by simp [go_sem]))).mono ?_
          rintro e w1 ⟨rfl, hb1⟩
          rw [HE0.out]
          have HB1 := hid ((HB2.out _ _).trans (hb1.mono (HB2.out _ _).size))
          have bx0 : w1.cell? ⟨w.heap.size, 0, none⟩ = some (.int .i64 p) := by rw [hb1.cell (p := ⟨w.heap.size, 0, none⟩) (by simp; omega)]; simp [go_sem]
          have bx1 : w1.cell? ⟨w.heap.size, 1, none⟩ = some (.int .i64 n) := by rw [hb1.cell (p := ⟨w.heap.size, 1, none⟩) (by simp; omega)]; simp [go_sem]
          have bx2 : w1.cell? ⟨w.heap.size, 2, none⟩ = some (.int .i64 o) := by rw [hb1.cell (p := ⟨w.heap.size, 2, none⟩) (by simp; omega)]; simp [go_sem]
          have bx3 : w1.cell? ⟨w.heap.size, 3, none⟩ = some (.int .i64 v) := by rw [hb1.cell (p := ⟨w.heap.size, 3, none⟩) (by simp; omega)]; simp [go_sem]
          clear hb1
          go_wp2_with fail
          refine (polyDegree_any _ t fs2 _ HTL.out.1 HTL.out.2.1 HTL.out.2.2 (HP.out.below HB1.out)).mono ?_
          rintro e w' ⟨rfl, hw'⟩
          subst w'
          go_wp2_with fail
          refine (polyDegree_any _ u gs2 _ HUL.out.1 HUL.out.2.1 HUL.out.2.2 (HQ.out.below HB1.out)).mono ?_
          rintro e w' ⟨rfl, hw'⟩
          subst w'
          go_wp2_with fail
          refine (bareProduct_any p n o v n.toNat _ _ (t :: fs2) (u :: gs2) _ HPO.out.2.2 HPO.out.2.1 hN0 hN3 HR.out.1.canon HR.out.2.canon HR.out.1.bd HR.out.2.bd HR.out.1.len HR.out.2.len (HP.out.below HB1.out) (HQ.out.below HB1.out)).mono ?_
          rintro e w2 ⟨u9, rfl, hu, hb2⟩
          have HU := hid hu
          have HB3 := hid (HB1.out.trans (hb2.mono HB1.out.size))
          obtain ⟨ua, uc, rfl, _, _⟩ := hu
          clear hb2 bx0 bx1 bx2 bx3
          go_wp2_with fail
          refine (limited_no _ _ _ hl HU.out).mono ?_
          rintro e w3 ⟨rfl, rfl⟩
          go_wp2
          go_ret2
          exact ⟨_, rfl, HU.out, HB3.out⟩
  · have hE0 : chk [fs, gs] ≠ 0 := by simpa using hE
    rw [(mulE_bad (p := p) (o := o) (f := fs) (g := gs) hE0).1, (mulE_bad (p := p) (o := o) (f := fs) (g := gs) hE0).2]
    clear hE0
    go_enter Tryz.func87, Tryz.ntmps87
    go_wp2_with fail
    refine (HT.out.1 [fs, gs] _ _ (by simp) (pls2 (HP.out.below (HB2.out _ _)) (HQ.out.below (HB2.out _ _)) (by simp) (by simp [go_sem]) (by simp [go_sem]))).mono ?_
    rintro e w1 ⟨rfl, hb1⟩
    have HB1 := hid ((HB2.out _ _).trans (hb1.mono (HB2.out _ _).size))
    clear hb1
    go_wp2
    go_ret2
    exact ⟨_, rfl, Pl.empty _, HB1.out⟩

end Go.Proofs.YtkmjmmnnnbjghaaGreat

/- checkTerm, checkFalling: what is told of one term. -/
namespace Go.Proofs.YtkmjmmnnnbjghaaGreat
set_option linter.unusedSimpArgs false
set_option linter.unusedVariables false
open Go.RowKit

def errTm (least p n : Int) (t : Tm) : Int := if t.1 < least ∨ p ≤ t.1 then 3 else errM n t.2
/-- What is told of the k-th term of a polynomial. -/
def errAt (p n o : Int) (ts : List Tm) (k : Nat) : Int :=
  if errTm 1 p n (ts.getD k noT) ≠ 0 then errTm 1 p n (ts.getD k noT) else if okPrev o (prevE ts k) (ts.getD k noT).2 = false then 4 else 0
/-- The first that is not 0, of so many from a place on. -/
def firstN (E : Nat → Int) : Nat → Nat → Int
  | 0, _ => 0
  | m + 1, k => if E k ≠ 0 then E k else firstN E m (k + 1)
theorem firstN_at (E : Nat → Int) {k m : Nat} (h : k < m) : firstN E (m - k) k = if E k ≠ 0 then E k else firstN E (m - (k + 1)) (k + 1) := by
  obtain ⟨d, rfl⟩ : ∃ d, m = k + 1 + d := ⟨m - (k + 1), by omega⟩
  rw [show k + 1 + d - k = d + 1 by omega, show k + 1 + d - (k + 1) = d by omega]
  rfl
theorem firstN_from {p n o : Int} (ts : List Tm) : ∀ (m k : Nat), k + m = ts.length → firstN (errAt p n o ts) m k = errFrom p n o (prevE ts k) (ts.drop k)
  | 0, k, h => by rw [List.drop_eq_nil_of_le (by omega)]; rfl
  | m + 1, k, h => by
    have hk : k < ts.length := by omega
    rw [errFrom_drop p n o ts k hk]
    have ih := firstN_from (p := p) (n := n) (o := o) ts m (k + 1) (by omega)
    have hu : firstN (errAt p n o ts) (m + 1) k = if errAt p n o ts k ≠ 0 then errAt p n o ts k else firstN (errAt p n o ts) m (k + 1) := rfl
    rw [hu, ih]
    unfold errAt errTm
    generalize ts.getD k noT = t
    have hb : betweenB t.1 1 (p - 1) = false ↔ (t.1 < 1 ∨ p ≤ t.1) := by
      have e : betweenB t.1 1 (p - 1) = decide (1 ≤ t.1 ∧ t.1 ≤ p - 1) := by simp [betweenB]
      rw [e, decide_eq_false_iff_not]; omega
    by_cases h1 : t.1 < 1 ∨ p ≤ t.1
    · rw [if_pos (hb.2 h1), if_pos h1]; simp
    · rw [if_neg (fun h => h1 (hb.1 h)), if_neg h1]
      by_cases h2 : errM n t.2 ≠ 0
      · rw [if_pos h2, if_pos h2, if_pos h2]
      · rw [if_neg h2, if_neg h2]
        cases h3 : okPrev o (prevE ts k) t.2 <;> simp
theorem errAt_ok {p n o : Int} {ts : List Tm} {k : Nat} (h : errAt p n o ts k = 0) : errM n (ts.getD k noT).2 = 0 := by
  unfold errAt at h
  by_cases h1 : errTm 1 p n (ts.getD k noT) = 0
  · unfold errTm at h1
    split at h1
    · omega
    · exact h1
  · rw [if_pos h1] at h; exact absurd h h1
theorem errAll_one {p n o v : Int} {te : List Int} (hR : errR p n o v = 0) : errAll p n o v [te] = errM n te := by
  unfold errAll; rw [if_pos hR]; simp only [firstErr]
  split
  · rename_i h; exact h.symm
  · rfl

set_option maxRecDepth 100000 in
set_option maxHeartbeats 1000000 in
theorem checkTerm_any (p n o v least c : Int) (ev : Value) (te : List Int) (w : World) (hR : errR p n o v = 0) (hs : Sl w ev te) :
    Calls Tryz.prog 132 #[ringV p n o v, .int .i64 least, .agg #[.int .i64 c, ev]] w fun e w' => e = .returned (.int .i64 (errTm least p n (c, te))) ∧ Below w.heap.size w w' := by
  have HS := hid hs
  have HALL := hid (errAll_one (te := te) hR)
  obtain ⟨a, cap, rfl, _⟩ := hs
  have HB2 : Hid (∀ A B, Below w.heap.size w ((w.alloc A).alloc B)) := fun A B => below_two
  clear hR
  by_cases h1 : c < least
  · have HE : Hid (errTm least p n (c, te) = 3) := by show _ = _; unfold errTm; rw [if_pos (Or.inl h1)]
    rw [HE.out]
    go_enter Tryz.func132, Tryz.ntmps132
    go_wp2
    go_ret
    exact ⟨rfl, HB2.out _ _⟩
  · by_cases h2 : p ≤ c
    · have HE : Hid (errTm least p n (c, te) = 3) := by show _ = _; unfold errTm; rw [if_pos (Or.inr h2)]
      rw [HE.out]
      go_enter Tryz.func132, Tryz.ntmps132
      go_wp2
      go_ret
      exact ⟨rfl, HB2.out _ _⟩
    · have HE : Hid (errTm least p n (c, te) = errM n te) := by show _ = _; unfold errTm; rw [if_neg (by simp only; omega)]
      rw [HE.out]
      go_enter Tryz.func132, Tryz.ntmps132
      go_wp2_with (go_at_call 144; refine (monoCheck_any p n o v _ te _ (HS.out.below (HB2.out _ _))).mono ?_; rw [HALL.out]; rintro e w2 ⟨rfl, hb2⟩; have HB9 := hid ((HB2.out _ _).trans (hb2.mono (HB2.out _ _).size)); clear hb2)
      go_ret
      exact ⟨rfl, HB9.out⟩

set_option maxRecDepth 100000 in
set_option maxHeartbeats 2000000 in
theorem checkFalling_any (p n o v : Int) (fv : Value) (ts : List Tm) (k : Nat) (w : World) (hR : errR p n o v = 0) (hk2 : k < ts.length) (hlen : ts.length ≤ 2000) (hq : ∀ j, j < k → errM n (ts.getD j noT).2 = 0) (pf : Pl w fv ts) :
    Calls Tryz.prog 120 #[ringV p n o v, fv, .int .i64 k] w fun e w' => e = .returned (.int .i64 (errAt p n o ts k)) ∧ Below w.heap.size w w' := by
  obtain ⟨fa, fc, rfl, _, hfc⟩ := pf
  obtain ⟨b, off, rfl, hlt, hat⟩ := hfc (by omega)
  obtain ⟨_, hn1, hn2, ho, _⟩ := ring_ok hR
  have HR := hid hR
  have HO := hid ho
  have HQ := hid hq
  obtain ⟨w1, hw1⟩ : ∃ w1, w1 = w.alloc (.cells #[.int .i64 p, .int .i64 n, .int .i64 o, .int .i64 v] 23) := ⟨_, rfl⟩
  have hbx : BoxAt w1 w.heap.size p n o v := by rw [hw1]; exact BoxAt.new w p n o v _
  have hbw : Below w.heap.size w w1 := by rw [hw1]; exact below_oneG
  obtain ⟨_, bx0, bx1, bx2, bx3⟩ := hbx
  have HBW := hid hbw
  have HB0 : Hid (Below w1.heap.size w1 w1.drew) := (Below.refl _ _).drew
  obtain ⟨c0, ev, c1, hse⟩ := hat k hk2
  have HAT := hid hat
  have HER : Hid (errAt p n o ts k = if errTm 1 p n (ts.getD k noT) ≠ 0 then errTm 1 p n (ts.getD k noT) else if okPrev o (prevE ts k) (ts.getD k noT).2 = false then 4 else 0) := rfl
  generalize ts.getD k noT = t at c0 hse HER
  obtain ⟨tc, te⟩ := t
  have HSE := hid (hse.below hbw)
  obtain ⟨ea, ec, rfl, _⟩ := hse
  simp only at c0 c1 HER
  have KEEP : Hid (∀ W, Below w1.heap.size w1 W → (Hid (Below w1.heap.size w1 W) ∧ W.cell? ⟨w.heap.size, 0, none⟩ = some (.int .i64 p) ∧ W.cell? ⟨w.heap.size, 1, none⟩ = some (.int .i64 n) ∧ W.cell? ⟨w.heap.size, 2, none⟩ = some (.int .i64 o) ∧ W.cell? ⟨w.heap.size, 3, none⟩ = some (.int .i64 v) ∧ W.cell? ⟨b, off + k * 2, none⟩ = some (.int .i64 tc) ∧ W.cell? ⟨b, off + k * 2 + 1, none⟩ = some (.slice ea te.length ec))) :=
    fun W hb => ⟨hb, cell_keep bx0 hb, cell_keep bx1 hb, cell_keep bx2 hb, cell_keep bx3 hb, cell_keep (cell_keep c0 hbw) hb, cell_keep (cell_keep c1 hbw) hb⟩
  have KEEPC := hid (fun (W : World) (hb : Below w1.heap.size w1 W) (b2 o2 : Nat) (u : Value) (hc : w.cell? ⟨b2, o2, none⟩ = some u) => cell_keep (cell_keep hc hbw) hb)
  clear hR ho hq hat c0 c1 bx0 bx1 bx2 bx3 hbw
  cases hz : (errTm 1 p n (tc, te) != 0)
  · have hz0 : errTm 1 p n (tc, te) = 0 := by simpa using hz
    have HZ := hid hz0
    have hem : errM n te = 0 := by
      unfold errTm at hz0
      split at hz0
      · omega
      · exact hz0
    have HEM := hid hem
    clear hz0 hem
    rcases Nat.eq_zero_or_pos k with rfl | hpos
    · simp only [Nat.zero_mul, Nat.add_zero] at KEEP
      have HEE : Hid (errAt p n o ts 0 = 0) := by show _ = _; rw [HER.out, if_neg (by simpa using HZ.out), if_neg (by simp [prevE, okPrev])]
      rw [HEE.out]
      go_enter Tryz.func120, Tryz.ntmps120
      go_wp2_with fail
      rw [← hw1]
      clear hw1
      go_region_held (fun W => Hid (Below w1.heap.size w1 W) ∧ W.cell? ⟨w.heap.size, 0, none⟩ = some (.int .i64 p) ∧ W.cell? ⟨w.heap.size, 1, none⟩ = some (.int .i64 n) ∧ W.cell? ⟨w.heap.size, 2, none⟩ = some (.int .i64 o) ∧ W.cell? ⟨w.heap.size, 3, none⟩ = some (.int .i64 v) ∧ W.cell? ⟨b, off, none⟩ = some (.int .i64 tc) ∧ W.cell? ⟨b, off + 1, none⟩ = some (.slice ea te.length ec))
        (first | exact KEEP.out _ HB0.out | exact KEEP.out _ (HB0.out.trans (hb9.mono HB0.out.size)))
        (first | (go_at_call 132; refine (checkTerm_any p n o v 1 tc _ te _ HR.out ?_).mono ?_; exact HSE.out.below HB0.out; rintro e w9 ⟨rfl, hb9⟩))
      have HB9 := hid (show Below w1.heap.size w1 w9 from HB0.out.trans (hb9.mono HB0.out.size))
      clear hb9
      rw [HZ.out]
      go_wp2_with fail
      go_quiet (fail)
      have HQ1 := hid (below_drewN HB9.out nq)
      go_wp2
      go_ret
      exact ⟨rfl, HBW.out.trans (HQ1.out.mono HBW.out.size)⟩
    · have hk3 : k - 1 < ts.length := by omega
      obtain ⟨_, ev2, d1, hse2⟩ := HAT.out (k - 1) hk3
      have HPE : Hid (prevE ts k = some (ts.getD (k - 1) noT).2) := by
        obtain ⟨m, rfl⟩ : ∃ m, k = m + 1 := ⟨k - 1, by omega⟩
        rfl
      have HQE := hid (HQ.out (k - 1) (by omega))
      generalize ts.getD (k - 1) noT = q at hse2 HPE HQE
      obtain ⟨qc, qe⟩ := q
      have HSE2 := hid (hse2.below HBW.out)
      obtain ⟨ea2, ec2, rfl, _⟩ := hse2
      simp only at d1 HPE HQE
      have hqo := errM_ok HQE.out
      have hto := errM_ok HEM.out
      have HLL : Hid (qe.length = te.length) := by have h1 := hqo.1; have h2 := hto.1; show _ = _; omega
      have hq0 : 0 < qe.length := by have h1 := hqo.1; omega
      have hq3 : qe.length ≤ 3 := by have h1 := hqo.1; omega
      have HQB := hid (And.intro (show ∀ x ∈ qe, 0 ≤ x ∧ x ≤ 40000 from fun x hx => by have := hqo.2.1 x hx; omega) (show ∀ x ∈ te, 0 ≤ x ∧ x ≤ 40000 from fun x hx => by have := hto.2.1 x hx; omega))
      have KEEP2 : Hid (∀ W, Below w1.heap.size w1 W → (Hid (Below w1.heap.size w1 W) ∧ W.cell? ⟨w.heap.size, 0, none⟩ = some (.int .i64 p) ∧ W.cell? ⟨w.heap.size, 1, none⟩ = some (.int .i64 n) ∧ W.cell? ⟨w.heap.size, 2, none⟩ = some (.int .i64 o) ∧ W.cell? ⟨w.heap.size, 3, none⟩ = some (.int .i64 v) ∧ W.cell? ⟨b, off + k * 2, none⟩ = some (.int .i64 tc) ∧ W.cell? ⟨b, off + k * 2 + 1, none⟩ = some (.slice ea te.length ec) ∧ W.cell? ⟨b, off + (k - 1) * 2 + 1, none⟩ = some (.slice ea2 qe.length ec2))) := fun W hb => by
        have h := KEEP.out W hb
        exact ⟨h.1, h.2.1, h.2.2.1, h.2.2.2.1, h.2.2.2.2.1, h.2.2.2.2.2.1, h.2.2.2.2.2.2, KEEPC.out W hb _ _ _ d1⟩
      obtain ⟨hq1, hq2, hq4, hq5, hq6, hq7, hq8⟩ := predFacts hpos hk2
      have hwr := wrapPred hpos (Nat.le_trans (Nat.le_of_lt hk2) hlen)
      clear hqo hto d1
      by_cases hgt : ordS o qe te ≤ 0
      · have HEE : Hid (errAt p n o ts k = 4) := by
          show _ = _
          rw [HER.out, if_neg (by simpa using HZ.out), HPE.out, if_pos]
          show moreB o qe te = false
          unfold moreB; exact decide_eq_false (by omega)
        rw [HEE.out]
        go_enter Tryz.func120, Tryz.ntmps120
        go_wp2_with fail
        rw [← hw1]
        clear hw1
        go_region_held (fun W => Hid (Below w1.heap.size w1 W) ∧ W.cell? ⟨w.heap.size, 0, none⟩ = some (.int .i64 p) ∧ W.cell? ⟨w.heap.size, 1, none⟩ = some (.int .i64 n) ∧ W.cell? ⟨w.heap.size, 2, none⟩ = some (.int .i64 o) ∧ W.cell? ⟨w.heap.size, 3, none⟩ = some (.int .i64 v) ∧ W.cell? ⟨b, off + k * 2, none⟩ = some (.int .i64 tc) ∧ W.cell? ⟨b, off + k * 2 + 1, none⟩ = some (.slice ea te.length ec))
          (first | exact KEEP.out _ HB0.out | exact KEEP.out _ (HB0.out.trans (hb9.mono HB0.out.size)))
          (first | (go_at_call 132; refine (checkTerm_any p n o v 1 tc _ te _ HR.out ?_).mono ?_; exact HSE.out.below HB0.out; rintro e w9 ⟨rfl, hb9⟩))
        have HB9 := hid (show Below w1.heap.size w1 w9 from HB0.out.trans (hb9.mono HB0.out.size))
        clear hb9
        rw [HZ.out]
        go_wp2_with fail
        go_region_held (fun W => Hid (Below w1.heap.size w1 W) ∧ W.cell? ⟨w.heap.size, 0, none⟩ = some (.int .i64 p) ∧ W.cell? ⟨w.heap.size, 1, none⟩ = some (.int .i64 n) ∧ W.cell? ⟨w.heap.size, 2, none⟩ = some (.int .i64 o) ∧ W.cell? ⟨w.heap.size, 3, none⟩ = some (.int .i64 v) ∧ W.cell? ⟨b, off + k * 2, none⟩ = some (.int .i64 tc) ∧ W.cell? ⟨b, off + k * 2 + 1, none⟩ = some (.slice ea te.length ec) ∧ W.cell? ⟨b, off + (k - 1) * 2 + 1, none⟩ = some (.slice ea2 qe.length ec2))
          (first | exact KEEP2.out _ HB9.out.drew | exact KEEP2.out _ (HB9.out.drew.trans (hb8.mono HB9.out.drew.size)))
          (first | (go_at_call 109; refine (bareCompare_any p n o v _ _ qe te _ HO.out hq0 hq3 HLL.out HQB.out.1 HQB.out.2 ?_ ?_).mono ?_; exact HSE2.out.below HB9.out.drew; exact HSE.out.below HB9.out.drew; rintro e w8 ⟨rfl, hb8⟩))
        have HB8 := hid (show Below w1.heap.size w1 w8 from HB9.out.drew.trans (hb8.mono HB9.out.drew.size))
        clear hb8
        go_wp2_with fail
        go_ret
        exact ⟨rfl, HBW.out.trans (HB8.out.mono HBW.out.size)⟩
      · have HEE : Hid (errAt p n o ts k = 0) := by
          show _ = _
          rw [HER.out, if_neg (by simpa using HZ.out), HPE.out, if_neg]
          show ¬ moreB o qe te = false
          unfold moreB; rw [decide_eq_true (show 0 < ordS o qe te by omega)]; simp
        rw [HEE.out]
        go_enter Tryz.func120, Tryz.ntmps120
        go_wp2_with fail
        rw [← hw1]
        clear hw1
        go_region_held (fun W => Hid (Below w1.heap.size w1 W) ∧ W.cell? ⟨w.heap.size, 0, none⟩ = some (.int .i64 p) ∧ W.cell? ⟨w.heap.size, 1, none⟩ = some (.int .i64 n) ∧ W.cell? ⟨w.heap.size, 2, none⟩ = some (.int .i64 o) ∧ W.cell? ⟨w.heap.size, 3, none⟩ = some (.int .i64 v) ∧ W.cell? ⟨b, off + k * 2, none⟩ = some (.int .i64 tc) ∧ W.cell? ⟨b, off + k * 2 + 1, none⟩ = some (.slice ea te.length ec))
          (first | exact KEEP.out _ HB0.out | exact KEEP.out _ (HB0.out.trans (hb9.mono HB0.out.size)))
          (first | (go_at_call 132; refine (checkTerm_any p n o v 1 tc _ te _ HR.out ?_).mono ?_; exact HSE.out.below HB0.out; rintro e w9 ⟨rfl, hb9⟩))
        have HB9 := hid (show Below w1.heap.size w1 w9 from HB0.out.trans (hb9.mono HB0.out.size))
        clear hb9
        rw [HZ.out]
        go_wp2_with fail
        go_region_held (fun W => Hid (Below w1.heap.size w1 W) ∧ W.cell? ⟨w.heap.size, 0, none⟩ = some (.int .i64 p) ∧ W.cell? ⟨w.heap.size, 1, none⟩ = some (.int .i64 n) ∧ W.cell? ⟨w.heap.size, 2, none⟩ = some (.int .i64 o) ∧ W.cell? ⟨w.heap.size, 3, none⟩ = some (.int .i64 v) ∧ W.cell? ⟨b, off + k * 2, none⟩ = some (.int .i64 tc) ∧ W.cell? ⟨b, off + k * 2 + 1, none⟩ = some (.slice ea te.length ec) ∧ W.cell? ⟨b, off + (k - 1) * 2 + 1, none⟩ = some (.slice ea2 qe.length ec2))
          (first | exact KEEP2.out _ HB9.out.drew | exact KEEP2.out _ (HB9.out.drew.trans (hb8.mono HB9.out.drew.size)))
          (first | (go_at_call 109; refine (bareCompare_any p n o v _ _ qe te _ HO.out hq0 hq3 HLL.out HQB.out.1 HQB.out.2 ?_ ?_).mono ?_; exact HSE2.out.below HB9.out.drew; exact HSE.out.below HB9.out.drew; rintro e w8 ⟨rfl, hb8⟩))
        have HB8 := hid (show Below w1.heap.size w1 w8 from HB9.out.drew.trans (hb8.mono HB9.out.drew.size))
        clear hb8
        go_wp2_with fail
        go_ret
        exact ⟨rfl, HBW.out.trans (HB8.out.mono HBW.out.size)⟩
  · have HEE : Hid (errAt p n o ts k = errTm 1 p n (tc, te)) := by show _ = _; rw [HER.out, if_pos (by simpa using hz)]
    rw [HEE.out]
    go_enter Tryz.func120, Tryz.ntmps120
    go_wp2_with fail
    rw [← hw1]
    clear hw1
    go_region_held (fun W => Hid (Below w1.heap.size w1 W) ∧ W.cell? ⟨w.heap.size, 0, none⟩ = some (.int .i64 p) ∧ W.cell? ⟨w.heap.size, 1, none⟩ = some (.int .i64 n) ∧ W.cell? ⟨w.heap.size, 2, none⟩ = some (.int .i64 o) ∧ W.cell? ⟨w.heap.size, 3, none⟩ = some (.int .i64 v) ∧ W.cell? ⟨b, off + k * 2, none⟩ = some (.int .i64 tc) ∧ W.cell? ⟨b, off + k * 2 + 1, none⟩ = some (.slice ea te.length ec))
      (first | exact KEEP.out _ HB0.out | exact KEEP.out _ (HB0.out.trans (hb9.mono HB0.out.size)))
      (first | (go_at_call 132; refine (checkTerm_any p n o v 1 tc _ te _ HR.out ?_).mono ?_; exact HSE.out.below HB0.out; rintro e w9 ⟨rfl, hb9⟩))
    have HB9 := hid (show Below w1.heap.size w1 w9 from HB0.out.trans (hb9.mono HB0.out.size))
    clear hb9
    go_wp2
    go_ret
    exact ⟨rfl, HBW.out.trans (HB9.out.mono HBW.out.size)⟩

end Go.Proofs.YtkmjmmnnnbjghaaGreat

/- checkTerms, checkAll: what they tell. -/
namespace Go.Proofs.YtkmjmmnnnbjghaaGreat
set_option linter.unusedSimpArgs false
set_option linter.unusedVariables false
open Go.RowKit

/-- What is told of so many terms, one by one. -/
def errTs (p n o v : Int) (len : Nat) (E : Nat → Int) : Int := if errR p n o v ≠ 0 then errR p n o v else if 2000 < len then 2 else firstN E len 0
theorem firstN_skip (E : Nat → Int) (m : Nat) : ∀ k, k ≤ m → (∀ j, j < k → E j = 0) → firstN E m 0 = firstN E (m - k) k
  | 0, _, _ => rfl
  | k + 1, hk, h => by
    rw [firstN_skip E m k (by omega) (fun j hj => h j (by omega)), firstN_at E (show k < m by omega), if_neg (by simpa using h k (by omega))]
theorem firstN_all {E : Nat → Int} {m : Nat} (h : ∀ j, j < m → E j = 0) : firstN E m 0 = 0 := by
  rw [firstN_skip E m m (Nat.le_refl _) h, Nat.sub_self]; rfl
theorem firstN_hit {E : Nat → Int} {m k : Nat} (hk : k < m) (h : ∀ j, j < k → E j = 0) (h2 : E k ≠ 0) : firstN E m 0 = E k := by
  rw [firstN_skip E m k (by omega) h, firstN_at E hk, if_pos h2]

set_option maxRecDepth 100000 in
set_option maxHeartbeats 2000000 in
theorem checkTermsA_any (p n o v : Int) (lv : Value) (ts : List Tm) (rb fb : Nat) (E : Nat → Int) (w : World) (pf : Pl w lv ts)
    (H : errR p n o v = 0 → ts.length ≤ 2000 → ∀ i w', i < ts.length → (∀ j, j < i → E j = 0) → Below w.heap.size w w' → Calls Tryz.prog 119 #[.int .i64 i, .pointer (some ⟨rb, 0, none⟩), .pointer (some ⟨fb, 0, none⟩)] w' fun e w'' => e = .returned (.int .i64 (E i)) ∧ Below w'.heap.size w' w'') :
    Calls Tryz.prog 118 #[ringV p n o v, lv, .func (.func 119) #[] #[.pointer (some ⟨rb, 0, none⟩), .pointer (some ⟨fb, 0, none⟩)]] w fun e w' => e = .returned (.int .i64 (errTs p n o v ts.length E)) ∧ Below w.heap.size w w' := by
  obtain ⟨a, c, rfl, _, _⟩ := pf
  have HH := hid H
  clear H
  cases hR : (errR p n o v != 0)
  · have hR0 : errR p n o v = 0 := by simpa using hR
    have HR := hid hR0
    clear hR0
    by_cases hlen : 2000 < ts.length
    · have he : errTs p n o v ts.length E = 2 := by unfold errTs; rw [if_neg (by simpa using HR.out), if_pos hlen]
      rw [he]; clear he
      go_enter Tryz.func118, Tryz.ntmps118
      go_wp2_with (go_at_call 84; refine (ring_any _ _ _ _ _).mono ?_; rintro e w1 ⟨rfl, hb1⟩)
      go_ret
      exact ⟨rfl, below_oneG.trans (hb1.mono (by simp))⟩
    · have he : errTs p n o v ts.length E = firstN E ts.length 0 := by unfold errTs; rw [if_neg (by simpa using HR.out), if_neg hlen]
      rw [he]; clear he
      go_enter Tryz.func118, Tryz.ntmps118
      go_wp2_with (go_at_call 84; refine (ring_any _ _ _ _ _).mono ?_; rintro e w1 ⟨rfl, hb1⟩)
      have HB1 := hid (show Below w.heap.size w w1 from below_oneG.trans (hb1.mono (by simp)))
      clear hb1
      go_loopw [20] (fun i wr => ∃ k : Nat, k ≤ ts.length ∧ i = .int .i64 k ∧ (∀ j, j < k → E j = 0) ∧ Below w1.heap.size w1 wr) (fun i _ => ts.length - (intOf i).toNat)
      case atStart => exact ⟨0, Nat.zero_le _, rfl, fun j hj => by omega, Below.refl _ _⟩
      case round =>
        obtain ⟨k, hk, rfl, hz, hbr⟩ := hrel
        have HZ := hid hz
        have HDN := hid (HB1.out.trans (hbr.mono HB1.out.size))
        have HBR := hid hbr
        clear hz hbr
        by_cases hk2 : k < ts.length
        · have HC := hid (HH.out HR.out (by omega) k wr hk2 HZ.out HDN.out)
          have HHIT := hid (fun h => firstN_hit (E := E) hk2 HZ.out h)
          cases he : (E k != 0)
          · have HE0 : Hid (E k = 0) := by simpa [Hid] using he
            go_wp2_with (go_at_call 119; refine HC.out.mono ?_; rintro e w2 ⟨rfl, hb2⟩; have HB2 := hid (HBR.out.trans (hb2.mono HBR.out.size)); clear hb2)
            go_roundw
            case rel => exact ⟨k + 1, by omega, by go_num, fun j hj => by
              rcases Nat.lt_or_ge j k with h | h
              · exact HZ.out j h
              · rw [show j = k by omega]; exact HE0.out, HB2.out⟩
            case measure => simp [intOf]; omega
          · go_wp2_with (go_at_call 119; refine HC.out.mono ?_; rintro e w2 ⟨rfl, hb2⟩; have HB2 := hid (HBR.out.trans (hb2.mono HBR.out.size)); clear hb2)
            go_ret
            exact ⟨ret_int (HHIT.out (by simpa using he)).symm, HB1.out.trans (HB2.out.mono HB1.out.size)⟩
        · go_wp2
          go_ret
          exact ⟨ret_int (firstN_all (fun j hj => HZ.out j (by omega))).symm, HB1.out.trans (HBR.out.mono HB1.out.size)⟩
  · have he : errTs p n o v ts.length E = errR p n o v := by unfold errTs; rw [if_pos (by simpa using hR)]
    rw [he]; clear he
    go_enter Tryz.func118, Tryz.ntmps118
    go_wp2_with (go_at_call 84; refine (ring_any _ _ _ _ _).mono ?_; rintro e w1 ⟨rfl, hb1⟩)
    go_ret
    exact ⟨rfl, below_oneG.trans (hb1.mono (by simp))⟩

set_option maxRecDepth 100000 in
set_option maxHeartbeats 1000000 in
theorem allFn_any (p n o v : Int) (k rb fb : Nat) (fv : Value) (ts : List Tm) (w : World) (hR : errR p n o v = 0) (hk2 : k < ts.length) (hlen : ts.length ≤ 2000) (hq : ∀ j, j < k → errM n (ts.getD j noT).2 = 0) (bx : BoxAt w rb p n o v) (hc : w.cell? ⟨fb, 0, none⟩ = some fv) (pf : Pl w fv ts) :
    Calls Tryz.prog 119 #[.int .i64 k, .pointer (some ⟨rb, 0, none⟩), .pointer (some ⟨fb, 0, none⟩)] w fun e w' => e = .returned (.int .i64 (errAt p n o ts k)) ∧ Below w.heap.size w w' := by
  have HP := hid pf
  have HC := hid (fun W (h : Pl W fv ts) => checkFalling_any p n o v fv ts k W hR hk2 hlen hq h)
  obtain ⟨_, bx0, bx1, bx2, bx3⟩ := bx
  obtain ⟨a, c, rfl, _, _⟩ := pf
  clear hR hq
  go_enter Tryz.func119, Tryz.ntmps119
  go_wp2_with (go_at_call 120; refine (HC.out _ HP.out).mono ?_; rintro e w1 ⟨rfl, hb1⟩; have HB := hid hb1; clear hb1)
  go_ret
  exact ⟨rfl, HB.out⟩

def errCur (p n o v : Int) (ts : List Tm) : Int := if errR p n o v ≠ 0 then errR p n o v else errOne p n o ts
theorem errTs_cur (p n o v : Int) (ts : List Tm) : errTs p n o v ts.length (errAt p n o ts) = errCur p n o v ts := by
  unfold errTs errCur errOne
  rw [firstN_from ts ts.length 0 (by omega)]
  rfl
def cur (p n o v : Int) : List (List Tm) → Int
  | [] => 0
  | f :: r => if errCur p n o v f ≠ 0 then errCur p n o v f else cur p n o v r
theorem cur_drop (p n o v : Int) (fss : List (List Tm)) (k : Nat) (h : k < fss.length) : cur p n o v (fss.drop k) = if errCur p n o v (fss.getD k []) ≠ 0 then errCur p n o v (fss.getD k []) else cur p n o v (fss.drop (k + 1)) := by
  rw [List.drop_eq_getElem_cons h]
  simp [cur, List.getD_eq_getElem?_getD, h]
theorem cur_iff {p n o v : Int} {ts : List Tm} : errCur p n o v ts = 0 ↔ errR p n o v = 0 ∧ errOne p n o ts = 0 := by
  unfold errCur
  by_cases h1 : errR p n o v = 0
  · rw [if_neg (by simpa using h1)]; simp [h1]
  · rw [if_pos h1]; simp [h1]

set_option maxRecDepth 100000 in
set_option maxHeartbeats 2000000 in
theorem curAll_any (p n o v : Int) (lv : Value) (fss : List (List Tm)) (w : World) (hm : fss.length ≤ 1200000000000) (hs : Vl w lv fss) :
    Calls Tryz.prog 92 #[ringV p n o v, lv] w fun e w' => e = .returned (.int .i64 (cur p n o v fss)) ∧ Below w.heap.size w w' := by
  have HS := hid hs
  obtain ⟨la, lc, rfl, hat0⟩ := hs
  have HAT := hid hat0
  obtain ⟨w1, hw1⟩ : ∃ w1, w1 = w.alloc (.cells #[.int .i64 p, .int .i64 n, .int .i64 o, .int .i64 v] 23) := ⟨_, rfl⟩
  have hbx : BoxAt w1 w.heap.size p n o v := by rw [hw1]; exact BoxAt.new w p n o v _
  have hbw : Below w.heap.size w w1 := by rw [hw1]; exact below_oneG
  have HBX := hid hbx
  have HBW := hid hbw
  clear hat0 hbx hbw
  go_enter Tryz.func92, Tryz.ntmps92
  go_wp2_with fail
  rw [← hw1]
  clear hw1
  go_loopw [10] (fun i wr => ∃ k : Nat, k ≤ fss.length ∧ i = .int .i64 k ∧ cur p n o v fss = cur p n o v (fss.drop k) ∧ Below w1.heap.size w1 wr) (fun i _ => fss.length - (intOf i).toNat)
  case atStart => exact ⟨0, Nat.zero_le _, rfl, by simp, Below.refl _ _⟩
  case round =>
    obtain ⟨k, hk, rfl, hcur, hbr⟩ := hrel
    have HBR := hid hbr
    clear hbr
    by_cases hk2 : k < fss.length
    · obtain ⟨b, off, rfl, hlt, hat⟩ := HAT.out (by omega)
      obtain ⟨vv, hcell, hsl⟩ := hat k hk2
      have HER := hid (hcur.trans (cur_drop p n o v fss k hk2))
      have HDN := hid (HBW.out.trans (HBR.out.mono HBW.out.size))
      have d0 := cell_keep hcell HDN.out
      generalize fss.getD k [] = f at hsl HER
      have HSL := hid (hsl.below HDN.out)
      obtain ⟨fa, fc, rfl, _, _⟩ := hsl
      have HBX2 := hid (HBX.out.below HBR.out)
      obtain ⟨_, bx0, bx1, bx2, bx3⟩ := HBX.out.below HBR.out
      clear hcur hat hcell
      have HBN : Hid (∀ A, Below wr.heap.size wr (wr.alloc A)) := fun A => belowNew
      have y0 := fun A => cell_keep bx0 (HBN.out A)
      have y1 := fun A => cell_keep bx1 (HBN.out A)
      have y2 := fun A => cell_keep bx2 (HBN.out A)
      have y3 := fun A => cell_keep bx3 (HBN.out A)
      obtain ⟨w2, hw2⟩ : ∃ w2, w2 = wr.alloc (.cells #[.slice fa f.length fc] 54) := ⟨_, rfl⟩
      have HB2 : Hid (Below wr.heap.size wr w2) := by rw [hw2]; exact HBN.out _
      have HCF : Hid (w2.cell? ⟨wr.heap.size, 0, none⟩ = some (.slice fa f.length fc)) := by show _ = _; rw [hw2]; simp [go_sem]
      have HCT := hid (checkTermsA_any p n o v _ f w.heap.size wr.heap.size (errAt p n o f) w2 (HSL.out.below HB2.out) (fun hr hl i w' hi hj hb => allFn_any p n o v i w.heap.size wr.heap.size _ f w' hr hi hl (fun j hjj => errAt_ok (hj j hjj)) ((HBX2.out.below HB2.out).below hb) (cell_keep HCF.out hb) ((HSL.out.below HB2.out).below hb)))
      rw [errTs_cur] at HCT
      cases hz : (errCur p n o v f != 0)
      · go_wp2_with fail
        try rw [← hw2]
        refine HCT.out.mono ?_
        rintro e w3 ⟨rfl, hb3⟩
        have HB3 := hid (HBR.out.trans ((HB2.out.trans (hb3.mono HB2.out.size)).mono HBR.out.size))
        clear hb3
        go_wp2_with fail
        go_roundw
        case rel => exact ⟨k + 1, Nat.succ_le_of_lt hk2, by go_num, by rw [HER.out, if_neg (by simpa using hz)], HB3.out⟩
        case measure => simp [intOf]; omega
      · go_wp2_with fail
        try rw [← hw2]
        refine HCT.out.mono ?_
        rintro e w3 ⟨rfl, hb3⟩
        have HB3 := hid (HBR.out.trans ((HB2.out.trans (hb3.mono HB2.out.size)).mono HBR.out.size))
        clear hb3
        go_wp2_with fail
        go_ret
        exact ⟨ret_int (by rw [HER.out, if_pos (by simpa using hz)]), HBW.out.trans (HB3.out.mono HBW.out.size)⟩
    · go_wp2
      go_ret
      exact ⟨ret_int (by rw [hcur, List.drop_eq_nil_of_le (by omega)]; rfl), HBW.out.trans (HBR.out.mono HBW.out.size)⟩

theorem cur_ok {p n o v : Int} : ∀ {fss : List (List Tm)}, cur p n o v fss = 0 → ∀ f ∈ fss, errCur p n o v f = 0
  | [], _, f, hf => by simp at hf
  | g :: r, h, f, hf => by
    unfold cur at h
    by_cases hg : errCur p n o v g = 0
    · rw [if_neg (by simpa using hg)] at h
      rcases List.mem_cons.1 hf with rfl | hf
      · exact hg
      · exact cur_ok h f hf
    · rw [if_pos hg] at h; exact absurd h hg
theorem cur_mk {p n o v : Int} : ∀ {fss : List (List Tm)}, (∀ f ∈ fss, errCur p n o v f = 0) → cur p n o v fss = 0
  | [], _ => rfl
  | g :: r, h => by
    unfold cur
    rw [if_neg (by simpa using h g (by simp))]
    exact cur_mk (fun f hf => h f (by simp [hf]))
/-- What the landed checkAll tells. -/
theorem tells (p n o v : Int) : Tells p n o v (cur p n o v) := by
  refine ⟨fun fss lv w hm hs => curAll_any p n o v lv fss w hm hs, fun fss hne h => ?_, fun hr fss h => cur_mk (fun f hf => cur_iff.2 ⟨hr, h f hf⟩)⟩
  have hall := cur_ok h
  cases fss with
  | nil => exact absurd rfl hne
  | cons g r => exact ⟨(cur_iff.1 (hall g (by simp))).1, fun f hf => (cur_iff.1 (hall f hf)).2⟩
/-- It is what the reference tells. -/
theorem cur_eq {p n o v : Int} : ∀ {fss : List (List Tm)}, fss ≠ [] → cur p n o v fss = errPolys p n o v fss
  | [], h => absurd rfl h
  | f :: r, _ => by
    unfold errPolys
    by_cases hr : errR p n o v = 0
    · rw [if_pos hr]
      have key : ∀ l : List (List Tm), cur p n o v l = firstOne p n o l := by
        intro l
        induction l with
        | nil => rfl
        | cons g l ih =>
          have e : errCur p n o v g = errOne p n o g := by unfold errCur; rw [if_neg (by simpa using hr)]
          unfold cur firstOne
          rw [e, ih]
          by_cases h : errOne p n o g = 0
          · rw [if_neg (by simpa using h), if_pos h]
          · rw [if_pos h, if_neg h]
      exact key _
    · rw [if_neg hr]
      have e : errCur p n o v f = errR p n o v := by unfold errCur; rw [if_pos hr]
      unfold cur
      rw [e, if_pos hr]

end Go.Proofs.YtkmjmmnnnbjghaaGreat

/- Print: a term. -/
namespace Go.Proofs.YtkmjmmnnnbjghaaGreat
set_option linter.unusedSimpArgs false
set_option linter.unusedVariables false
open Go.RowKit

theorem Tryz.infoStr : (Tryz.prog.info? 9).map (fun i => (i.zero, i.size, i.bytes)) = some (some (.string ⟨#[]⟩), 1, 16) := by kernel_rfl
def mkS (l : List UInt8) : Value := .string ⟨l.toArray⟩
def varB : Nat → List UInt8
  | 0 => [120]
  | 1 => [121]
  | _ => [122]
def powB (k : Nat) (e : Int) : List UInt8 := if 1 < e then varB k ++ ([94] ++ Lib.decDigits e.toNat) else varB k
def pows (es : List Int) : Nat → List (List UInt8)
  | 0 => []
  | k + 1 => pows es k ++ (if es.getD k 0 = 0 then [] else [powB k (es.getD k 0)])
def facs (c : Nat) (es : List Int) : List (List UInt8) := if (c : Int) ≠ 1 ∨ sumI es = 0 then [Lib.decDigits c] else []

theorem varS {k : Nat} (h : k < 3) : (⟨#[120, 121, 122]⟩ : ByteArray).extract k (k + 1) = ⟨(varB k).toArray⟩ := by
  rcases k with _ | _ | _ | k
  · rfl
  · rfl
  · rfl
  · omega
theorem bs_app (a b : List UInt8) : (⟨a.toArray⟩ : ByteArray) ++ ⟨b.toArray⟩ = ⟨(a ++ b).toArray⟩ := by
  apply ByteArray.ext
  simp
theorem digs_len {i : Nat} (h : i ≤ 999) : (Lib.decDigits i).length ≤ 3 := by
  by_cases h1 : i < 10
  · rw [Lib.decDigits_one h1]; simp
  · by_cases h2 : i < 100
    · rw [Lib.decDigits_two h1 h2]; simp
    · have e : Lib.decDigits i = Lib.decDigits (i / 10) ++ [UInt8.ofNat (48 + i % 10)] := by rw [Lib.decDigits.eq_def, dif_neg h1]
      rw [e, Lib.decDigits_two (by omega) (by omega)]; simp
theorem varB_len (k : Nat) : (varB k).length = 1 := by rcases k with _ | _ | k <;> rfl
theorem powB_len (k : Nat) {e : Int} (h : e ≤ 200) : (powB k e).length ≤ 5 := by
  unfold powB
  split
  · have := digs_len (i := e.toNat) (by omega)
    simp only [List.length_append, varB_len, List.length_cons, List.length_nil]; omega
  · rw [varB_len]; omega
theorem pows_mem {es : List Int} (h : ∀ e ∈ es, 0 ≤ e ∧ e ≤ 200) : ∀ k, k ≤ es.length → ∀ x ∈ pows es k, x.length ≤ 5
  | 0, _, x, hx => by simp [pows] at hx
  | k + 1, hk, x, hx => by
    simp only [pows, List.mem_append] at hx
    rcases hx with hx | hx
    · exact pows_mem h k (by omega) x hx
    · split at hx
      · simp at hx
      · rw [List.mem_singleton] at hx; subst hx
        exact powB_len k (h _ (getD_mem es k (by omega))).2
theorem pows_nil {es : List Int} : ∀ k, k ≤ es.length → pows es k = [] → sumI (es.take k) = 0
  | 0, _, _ => by simp [sumI]
  | k + 1, hk, h => by
    simp only [pows, List.append_eq_nil_iff] at h
    have h1 := pows_nil k (by omega) h.1
    have h2 : es.getD k 0 = 0 := by
      apply Classical.byContradiction
      intro hne
      rw [if_neg hne] at h
      simp at h
    rw [sumI_take es k (by omega), h1, h2]; rfl
theorem facs_pos (c : Nat) (es : List Int) : 0 < (facs c es ++ pows es es.length).length := by
  apply Nat.pos_of_ne_zero
  intro h
  have h0 := List.length_eq_zero_iff.1 h
  rw [List.append_eq_nil_iff] at h0
  have h1 := pows_nil es.length (Nat.le_refl _) h0.2
  rw [List.take_of_length_le (Nat.le_refl _)] at h1
  have h2 := h0.1
  unfold facs at h2
  rw [if_pos (Or.inr h1)] at h2
  simp at h2
theorem own_str {w : World} {B : Nat} {T : TypeId} {a : Option Addr} {cap : Nat} {F : List (List UInt8)} (h : w.ownsRow B T 1 (.slice a F.length cap) F.length (F.map mkS)) (h0 : 0 < F.length) : ∃ g, a = some ⟨g, 0, none⟩ ∧ g < w.heap.size ∧ F.length ≤ cap ∧ ∀ (j : Nat) x, F[j]? = some x → w.cell? ⟨g, 0 + j, none⟩ = some (mkS x) := by
  rcases h.2 with ⟨h1, h2⟩ | ⟨g, c', cur, h1, hB, hg, hn, _⟩
  · omega
  · simp only [Value.slice.injEq, true_and] at h1
    obtain ⟨rfl, rfl⟩ := h1
    have hlt := World.ownsRow.lt h g rfl
    refine ⟨g, rfl, hlt.2, hn, fun j x hj => ?_⟩
    have hjl : j < F.length := by
      apply Nat.lt_of_not_le; intro hle; rw [List.getElem?_eq_none hle] at hj; simp at hj
    rw [Nat.zero_add, h.cellAt j (by omega), List.getElem?_map, hj]; rfl
theorem oneOf {c : Nat} (h : ((c : Int) != 1) = false) : c = 1 := by
  have h1 : (c : Int) = 1 := by simpa using h
  omega
theorem decNo {c : Nat} {s : Int} (h : c = 1) (hz : (s == 0) = false) : decide ((c : Int) ≠ 1 ∨ s = 0) = false := by
  have h2 : ¬ s = 0 := by simpa using hz
  exact decide_eq_false (by omega)
theorem decSum {c : Nat} {s : Int} (hz : (s == 0) = true) : decide ((c : Int) ≠ 1 ∨ s = 0) = true := by
  have h2 : s = 0 := by simpa using hz
  exact decide_eq_true (Or.inr h2)
theorem decOne {c : Nat} {s : Int} (h : ((c : Int) != 1) = true) : decide ((c : Int) ≠ 1 ∨ s = 0) = true := by
  have h2 : ¬ (c : Int) = 1 := by simpa using h
  exact decide_eq_true (Or.inl h2)
theorem one_newS (w : World) (x : Value) (T : TypeId) : ∀ j u, [x][j]? = some u → (w.alloc (.cells #[x] T)).cell? ((⟨w.heap.size, 0, none⟩ : Addr).add j) = some u := by
  intro j u hj
  rcases j with _ | j
  · simp at hj; subst hj; simp [Addr.add, go_sem]
  · simp at hj
theorem one_cellS (l : List UInt8) : ∀ u ∈ [mkS l], u.oneCell' = true := by
  intro u hu; simp at hu; subst hu; rfl

end Go.Proofs.YtkmjmmnnnbjghaaGreat
