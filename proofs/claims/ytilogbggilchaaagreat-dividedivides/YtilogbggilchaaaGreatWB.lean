/- VSum, VTimes of the reference. -/
import Derived.Test.YtilogbggilchaaaGreatRE
import Derived.Test.YtilogbggilchaaaGreatRC
namespace Go.Proofs.YtilogbggilchaaaGreat
set_option linter.unusedSimpArgs false
set_option linter.unusedVariables false
open Go.RowKit
theorem vl_at {w : World} {a : Option Addr} {c : Nat} {fss : List (List Tm)} (h : Vl w (.slice a fss.length c) fss) (k : Nat) (hk : k < fss.length) : ∃ b off fa fc, a = some ⟨b, off, none⟩ ∧ b < w.heap.size ∧ w.cell? ⟨b, off + k, none⟩ = some (.slice fa (fss.getD k []).length fc) ∧ Pl w (.slice fa (fss.getD k []).length fc) (fss.getD k []) := by
  obtain ⟨a2, c2, e, h1⟩ := h
  obtain ⟨b, off, rfl, hlt, hat⟩ := h1 (by omega)
  simp only [Value.slice.injEq, true_and] at e
  obtain ⟨rfl, rfl⟩ := e
  obtain ⟨v, hc, hp⟩ := hat k hk
  have hp2 := hp
  obtain ⟨fa, fc, rfl, _, _⟩ := hp
  exact ⟨b, off, fa, fc, rfl, hlt, hc, hp2⟩
theorem len_snoc {α : Type} (l : List α) (x : α) : (l ++ [x]).length = l.length + 1 := by simp
theorem take_snocL {α : Type} (l : List (List α)) (k : Nat) (h : k < l.length) : l.take (k + 1) = l.take k ++ [l.getD k []] := by
  rw [List.take_succ_eq_append_getElem h]; simp [List.getD_eq_getElem?_getD, h]
theorem getD_mapL {α : Type} (F : List α → List α) (l : List (List α)) (k : Nat) (h : k < l.length) : (l.map F).getD k [] = F (l.getD k []) := by
  simp [List.getD_eq_getElem?_getD, h]
def sums (p o : Int) (fss gss : List (List Tm)) : List (List Tm) := List.zipWith (fun f g => colL p o (f ++ g)) fss gss
theorem sums_len {p o : Int} {fss gss : List (List Tm)} (h : fss.length = gss.length) : (sums p o fss gss).length = fss.length := by
  unfold sums; rw [List.length_zipWith]; omega
theorem sums_at {p o : Int} {fss gss : List (List Tm)} {k : Nat} (h : fss.length = gss.length) (hk : k < fss.length) : (sums p o fss gss).getD k [] = colL p o (fss.getD k [] ++ gss.getD k []) := by
  unfold sums
  simp [List.getD_eq_getElem?_getD, List.getElem?_zipWith, hk, show k < gss.length by omega]
def prods (p o : Int) (f : List Tm) (gss : List (List Tm)) : List (List Tm) := gss.map fun g => colL p o (prodL p f g)
theorem one_newP (w : World) (x : Value) (T : TypeId) : ∀ j u, [x][j]? = some u → (w.alloc (.cells #[x] T)).cell? ((⟨w.heap.size, 0, none⟩ : Addr).add j) = some u := by
  intro j u hj
  rcases j with _ | j
  · simp at hj; subst hj; simp [Addr.add, go_sem]
  · simp at hj
def Sm (p : Int) (N : Nat) (f : List Tm) : Prop := (∀ t ∈ f, Tok p N t) ∧ f.length ≤ 600000000000
def VlsAt (w : World) (b off : Nat) (vss : List (List (List Tm))) : Prop :=
  ∀ i, i < vss.length → ∃ v, w.cell? ⟨b, off + i, none⟩ = some v ∧ Vl w v (vss.getD i [])
theorem VlsAt.below {w w' : World} {b off : Nat} {vss : List (List (List Tm))} (h : VlsAt w b off vss) (hlt : b < w.heap.size) (hb : Below w.heap.size w w') : VlsAt w' b off vss := by
  intro i hi
  obtain ⟨v, hc, hs⟩ := h i hi
  exact ⟨v, by rw [hb.cell (p := ⟨b, off + i, none⟩) hlt]; exact hc, hs.below hb⟩
def Wl (w : World) (v : Value) (vss : List (List (List Tm))) : Prop :=
  ∃ a cap, v = .slice a vss.length cap ∧ (0 < vss.length → ∃ b off, a = some ⟨b, off, none⟩ ∧ b < w.heap.size ∧ VlsAt w b off vss)
theorem Wl.below {w w' : World} {v : Value} {vss : List (List (List Tm))} (h : Wl w v vss) (hb : Below w.heap.size w w') : Wl w' v vss := by
  obtain ⟨a, cap, rfl, h⟩ := h
  refine ⟨a, cap, rfl, fun hp => ?_⟩
  obtain ⟨b, off, rfl, hlt, hc⟩ := h hp
  exact ⟨b, off, rfl, Nat.lt_of_lt_of_le hlt hb.size, hc.below hlt hb⟩
theorem wl_at {w : World} {a : Option Addr} {c : Nat} {vss : List (List (List Tm))} (h : Wl w (.slice a vss.length c) vss) (k : Nat) (hk : k < vss.length) : ∃ b off va vc, a = some ⟨b, off, none⟩ ∧ b < w.heap.size ∧ w.cell? ⟨b, off + k, none⟩ = some (.slice va (vss.getD k []).length vc) ∧ Vl w (.slice va (vss.getD k []).length vc) (vss.getD k []) := by
  obtain ⟨a2, c2, e, h1⟩ := h
  obtain ⟨b, off, rfl, hlt, hat⟩ := h1 (by omega)
  simp only [Value.slice.injEq, true_and] at e
  obtain ⟨rfl, rfl⟩ := e
  obtain ⟨v, hc, hp⟩ := hat k hk
  have hp2 := hp
  obtain ⟨fa, fc, rfl, _⟩ := hp
  exact ⟨b, off, fa, fc, rfl, hlt, hc, hp2⟩
def firstZ {α : Type} (F : List α → Int) : List (List α) → Int
  | [] => 0
  | a :: r => if F a = 0 then firstZ F r else F a
theorem firstZ_drop {α : Type} (F : List α → Int) (l : List (List α)) (k : Nat) (h : k < l.length) : firstZ F (l.drop k) = if F (l.getD k []) = 0 then firstZ F (l.drop (k + 1)) else F (l.getD k []) := by
  rw [List.drop_eq_getElem_cons h]
  simp [firstZ, List.getD_eq_getElem?_getD, h]
theorem firstZ_ok {α : Type} {F : List α → Int} : ∀ {l : List (List α)}, firstZ F l = 0 → ∀ a ∈ l, F a = 0
  | [], _, a, ha => by simp at ha
  | b :: r, h, a, ha => by
    unfold firstZ at h
    by_cases hb : F b = 0
    · rw [if_pos hb] at h
      rcases List.mem_cons.1 ha with rfl | ha
      · exact hb
      · exact firstZ_ok h a ha
    · rw [if_neg hb] at h; exact absurd h hb
def errVec (p n o rank : Int) (fss : List (List Tm)) : Int := if (fss.length : Int) ≠ rank then 1 else firstOne p n o fss
def errList (p n o rank : Int) (vss : List (List (List Tm))) : Int := if betweenB rank 1 40 = false then 3 else if 60 < vss.length then 2 else firstZ (errVec p n o rank) vss
def errVecs (p n o v rank : Int) (vss : List (List (List Tm))) : Int := if errR p n o v ≠ 0 then errR p n o v else errList p n o rank vss

set_option maxRecDepth 100000 in
set_option maxHeartbeats 2000000 in
theorem checkList_any (p n o v rank : Int) (lv : Value) (vss : List (List (List Tm))) (w : World) (hR : errR p n o v = 0) (hs : Wl w lv vss) :
    Calls Tryz.prog 32 #[ringV p n o v, .int .i64 rank, lv] w fun e w' => e = .returned (.int .i64 (errList p n o rank vss)) ∧ Below w.heap.size w w' := by
  have HS := hid hs
  obtain ⟨la, lc, rfl, _⟩ := hs
  obtain ⟨hpr, hn1, hn2, ho, _⟩ := ring_ok hR
  have HP := hid (errP_bd hpr)
  have HN := hid (And.intro hn1 hn2)
  have HO := hid ho
  obtain ⟨w1, hw1⟩ : ∃ w1, w1 = w.alloc (.cells #[.int .i64 p, .int .i64 n, .int .i64 o, .int .i64 v] 23) := ⟨_, rfl⟩
  have hbx : BoxAt w1 w.heap.size p n o v := by rw [hw1]; exact BoxAt.new w p n o v _
  have hbw : Below w.heap.size w w1 := by rw [hw1]; exact below_oneG
  have HBX := hid hbx
  have HBW := hid hbw
  clear hR hpr ho hbx hbw
  cases hbt : betweenB rank 1 40
  · have HE : Hid (errList p n o rank vss = 3) := by show _ = _; unfold errList; rw [if_pos hbt]
    rw [HE.out]
    go_enter Tryz.func32, Tryz.ntmps32
    go_wp2_with (go_at_call 69; refine (between_any _ _ _ _).mono ?_; rw [hbt]; rintro e w' ⟨rfl, rfl⟩)
    go_ret
    rw [← hw1]
    exact ⟨rfl, HBW.out⟩
  · by_cases hlen : 60 < vss.length
    · have HE : Hid (errList p n o rank vss = 2) := by show _ = _; unfold errList; rw [if_neg (by rw [hbt]; simp), if_pos hlen]
      rw [HE.out]
      go_enter Tryz.func32, Tryz.ntmps32
      go_wp2_with (go_at_call 69; refine (between_any _ _ _ _).mono ?_; rw [hbt]; rintro e w' ⟨rfl, rfl⟩)
      go_ret
      rw [← hw1]
      exact ⟨rfl, HBW.out⟩
    · have HE : Hid (errList p n o rank vss = firstZ (errVec p n o rank) vss) := by show _ = _; unfold errList; rw [if_neg (by rw [hbt]; simp), if_neg hlen]
      rw [HE.out]
      have HRK : Hid (1 ≤ rank ∧ rank ≤ 40) := by simpa [betweenB, Hid] using hbt
      go_enter Tryz.func32, Tryz.ntmps32
      go_wp2_with (go_at_call 69; refine (between_any _ _ _ _).mono ?_; rw [hbt]; rintro e w' ⟨rfl, rfl⟩)
      rw [← hw1]
      clear hw1 hbt
      go_loopw [7] (fun i wr => ∃ k : Nat, k ≤ vss.length ∧ i = .int .i64 k ∧ firstZ (errVec p n o rank) vss = firstZ (errVec p n o rank) (vss.drop k) ∧ Below w1.heap.size w1 wr) (fun i _ => vss.length - (intOf i).toNat)
      case atStart => exact ⟨0, Nat.zero_le _, rfl, rfl, Below.refl _ _⟩
      case round =>
        obtain ⟨k, hk, rfl, her, hbr⟩ := hrel
        have HBR := hid hbr
        have HER0 := hid her
        clear hbr her
        by_cases hk2 : k < vss.length
        · have HER := hid (HER0.out.trans (firstZ_drop (errVec p n o rank) vss k hk2))
          obtain ⟨b, off, va, vc, rfl, hlt, c0, hvl⟩ := wl_at HS.out k hk2
          have HDN := hid (HBW.out.trans (HBR.out.mono HBW.out.size))
          generalize vss.getD k [] = fss at c0 hvl HER
          have HVL := hid hvl
          have d0 := cell_keep c0 HDN.out
          clear hvl
          cases hln : ((fss.length : Int) != rank)
          · have hrk : (fss.length : Int) = rank := by simpa using hln
            subst hrk
            have HEV : Hid (errVec p n o (fss.length : Int) fss = firstOne p n o fss) := by show _ = _; unfold errVec; rw [if_neg (by simp)]
            have hf40 : fss.length ≤ 40 := by have := HRK.out; omega
            clear hln
            go_wp2_with fail
            go_loopw [8] (fun i wm => ∃ j : Nat, j ≤ fss.length ∧ i = .int .i64 j ∧ firstOne p n o fss = firstOne p n o (fss.drop j) ∧ Below w1.heap.size w1 wm) (fun i _ => fss.length - (intOf i).toNat)
            case atStart => exact ⟨0, Nat.zero_le _, rfl, rfl, HBR.out⟩
            case round =>
              clear d0
              obtain ⟨j, hj, rfl, hej, hbm⟩ := hrel
              have HBM := hid hbm
              have HEJ := hid hej
              clear hbm hej
              by_cases hj2 : j < fss.length
              · have HFJ := hid (HEJ.out.trans (firstOne_drop p n o fss j hj2))
                obtain ⟨b2, off2, fa, fc, rfl, hlt2, e0, hpf⟩ := vl_at HVL.out j hj2
                generalize fss.getD j [] = f at e0 hpf HFJ
                have HPF := hid (hpf.below HBW.out)
                obtain ⟨_, bx0, bx1, bx2, bx3⟩ := HBX.out
                have KEEP : Hid (∀ W, Below w1.heap.size w1 W → (Hid (Below w1.heap.size w1 W) ∧ W.cell? ⟨w.heap.size, 0, none⟩ = some (.int .i64 p) ∧ W.cell? ⟨w.heap.size, 1, none⟩ = some (.int .i64 n) ∧ W.cell? ⟨w.heap.size, 2, none⟩ = some (.int .i64 o) ∧ W.cell? ⟨w.heap.size, 3, none⟩ = some (.int .i64 v) ∧ W.cell? ⟨b, off + k, none⟩ = some (.slice (some ⟨b2, off2, none⟩) fss.length vc) ∧ W.cell? ⟨b2, off2 + j, none⟩ = some (.slice fa f.length fc))) :=
                  fun W hb => ⟨hb, cell_keep bx0 hb, cell_keep bx1 hb, cell_keep bx2 hb, cell_keep bx3 hb, cell_keep (cell_keep c0 HBW.out) hb, cell_keep (cell_keep e0 HBW.out) hb⟩
                have HB0 : Hid (Below w1.heap.size w1 wr.drew) := HBM.out.drew
                clear bx0 bx1 bx2 bx3 e0 hpf
                go_wp2_with fail
                go_region_held (fun W => Hid (Below w1.heap.size w1 W) ∧ W.cell? ⟨w.heap.size, 0, none⟩ = some (.int .i64 p) ∧ W.cell? ⟨w.heap.size, 1, none⟩ = some (.int .i64 n) ∧ W.cell? ⟨w.heap.size, 2, none⟩ = some (.int .i64 o) ∧ W.cell? ⟨w.heap.size, 3, none⟩ = some (.int .i64 v) ∧ W.cell? ⟨b, off + k, none⟩ = some (.slice (some ⟨b2, off2, none⟩) fss.length vc) ∧ W.cell? ⟨b2, off2 + j, none⟩ = some (.slice fa f.length fc))
                  (first | exact KEEP.out _ HB0.out | exact KEEP.out _ (HB0.out.trans (hb9.mono HB0.out.size)))
                  (first | (go_at_call 70; refine (checkOne_any p n o v _ f _ HP.out HN.out HO.out ?_).mono ?_; exact HPF.out.below HB0.out; rintro e w9 ⟨rfl, hb9⟩))
                have HB9 := hid (show Below w1.heap.size w1 w9 from HB0.out.trans (hb9.mono HB0.out.size))
                clear hb9
                cases hz : (errOne p n o f != 0)
                · have HZ : Hid (errOne p n o f = 0) := by simpa [Hid] using hz
                  go_wp2_with fail
                  go_roundw
                  case rel => exact ⟨j + 1, by omega, by go_num, by rw [HFJ.out, if_pos HZ.out], HB9.out⟩
                  case measure => simp [intOf]; omega
                · have HZ : Hid (errOne p n o f ≠ 0) := by simpa [Hid] using hz
                  go_wp2_with fail
                  go_ret
                  exact ⟨ret_int (by
                    have h : firstOne p n o fss = errOne p n o f := by rw [HFJ.out, if_neg HZ.out]
                    rw [HER.out, HEV.out, h, if_neg HZ.out]), HBW.out.trans (HB9.out.mono HBW.out.size)⟩
              · have hz : firstOne p n o fss = 0 := by rw [HEJ.out, List.drop_eq_nil_of_le (by omega)]; rfl
                have HZ := hid hz
                clear hz
                go_wp2_with fail
                go_roundw
                case rel => exact ⟨k + 1, by omega, by go_num, by rw [HER.out, HEV.out, if_pos HZ.out], HBM.out⟩
                case measure => simp [intOf]; omega
          · have HEV : Hid (errVec p n o rank fss = 1) := by show _ = _; unfold errVec; rw [if_pos (by simpa using hln)]
            go_wp2_with fail
            go_ret
            exact ⟨ret_int (by rw [HER.out, HEV.out]; simp), HBW.out.trans (HBR.out.mono HBW.out.size)⟩
        · go_wp2
          go_ret
          exact ⟨ret_int (by rw [HER0.out, List.drop_eq_nil_of_le (by omega)]; rfl), HBW.out.trans (HBR.out.mono HBW.out.size)⟩

set_option maxRecDepth 100000 in
set_option maxHeartbeats 1000000 in
theorem checkVectors_any (p n o v rank : Int) (lv : Value) (vss : List (List (List Tm))) (w : World) (hs : Wl w lv vss) :
    Calls Tryz.prog 31 #[ringV p n o v, .int .i64 rank, lv] w fun e w' => e = .returned (.int .i64 (errVecs p n o v rank vss)) ∧ Below w.heap.size w w' := by
  have HS := hid hs
  obtain ⟨la, lc, rfl, _⟩ := hs
  cases hR : (errR p n o v == 0)
  · have HE : Hid (errVecs p n o v rank vss = errR p n o v) := by show _ = _; unfold errVecs; rw [if_pos (by simpa using hR)]
    rw [HE.out]
    go_enter Tryz.func31, Tryz.ntmps31
    go_wp2_with (go_at_call 68; refine (checkRing_any _ _ _ _ _).mono ?_; rintro e w1 ⟨rfl, hb1⟩; have HB1 := hid (show Below w.heap.size w w1 from below_oneG.trans (hb1.mono (by simp))); clear hb1)
    go_ret
    exact ⟨rfl, HB1.out⟩
  · have hR0 : errR p n o v = 0 := by simpa using hR
    have HR := hid hR0
    have HE : Hid (errVecs p n o v rank vss = errList p n o rank vss) := by show _ = _; unfold errVecs; rw [if_neg (by simpa using hR0)]
    rw [HE.out]
    clear hR0
    go_enter Tryz.func31, Tryz.ntmps31
    go_wp2_with fail
    refine (checkRing_any _ _ _ _ _).mono ?_
    rw [HR.out]
    rintro e w1 ⟨rfl, hb1⟩
    have HB1 := hid (show Below w.heap.size w w1 from below_oneG.trans (hb1.mono (by simp)))
    obtain ⟨_, bx0, bx1, bx2, bx3⟩ := (BoxAt.new w p n o v 23).below hb1
    clear hb1
    go_wp2_with fail
    refine (checkList_any p n o v rank _ vss _ HR.out (HS.out.below HB1.out)).mono ?_
    rintro e w2 ⟨rfl, hb2⟩
    have HB2 := hid (HB1.out.trans (hb2.mono HB1.out.size))
    clear hb2
    go_wp2
    go_ret
    exact ⟨rfl, HB2.out⟩
theorem getD_memV {α : Type} (l : List (List α)) (k : Nat) (h : k < l.length) : l.getD k [] ∈ l := by
  rw [List.getD_eq_getElem?_getD, List.getElem?_eq_getElem h]; simp
def OkP (ws : List Tm) : Prop := ws.length ≤ 2400000000000 ∧ ∀ t ∈ ws, 0 < t.2.length ∧ t.2.length ≤ 3 ∧ ∀ x ∈ t.2, 0 ≤ x ∧ x ≤ 40000
theorem any_takeP (f : List Tm → Bool) (fss : List (List Tm)) (k : Nat) (h : k < fss.length) (h0 : (fss.take k).any f = false) (h1 : f (fss.getD k []) = false) : (fss.take (k + 1)).any f = false := by
  rw [take_snocL _ _ h, List.any_append, h0]; simpa using h1
theorem any_atP (f : List Tm → Bool) (fss : List (List Tm)) (k : Nat) (h : k < fss.length) (h1 : f (fss.getD k []) = true) : fss.any f = true := by
  rw [List.any_eq_true]; exact ⟨_, getD_memL fss k h, h1⟩

set_option maxRecDepth 100000 in
set_option maxHeartbeats 1000000 in
theorem vgreat_any (x : Value) (fss : List (List Tm)) (w : World) (hm : fss.length ≤ 1000) (hf : ∀ f ∈ fss, OkP f) (pf : Vl w x fss) :
    Calls Tryz.prog 10 #[x] w fun e w' => e = .returned (.bool (fss.any greatB)) ∧ w' = w := by
  have HX := hid pf
  have HF := hid hf
  obtain ⟨ax, cx, rfl, _⟩ := pf
  clear hf
  go_enter Tryz.func10, Tryz.ntmps10
  go_wp2
  go_loop [3] (fun i => ∃ k : Nat, k ≤ fss.length ∧ i = .int .i64 k ∧ (fss.take k).any greatB = false) (fun i => fss.length - (intOf i).toNat)
  case atStart => exact ⟨0, Nat.zero_le _, rfl, by simp⟩
  case round =>
    obtain ⟨k, hk, rfl, hn⟩ := hrel
    have HN := hid hn
    clear hn
    by_cases hk2 : k < fss.length
    · obtain ⟨b, off, fa, fc, rfl, hlt, c0, hpf⟩ := vl_at HX.out k hk2
      have H1 := hid (any_takeP greatB fss k hk2 HN.out)
      have H2 := hid (any_atP greatB fss k hk2)
      have HK := hid (HF.out _ (getD_memL fss k hk2))
      generalize fss.getD k [] = f at c0 hpf H1 H2 HK
      have HG := hid (great_any _ f w HK.out.1 HK.out.2 hpf)
      clear hpf
      cases hg : greatB f
      · go_wp2_with (go_at_call 40; refine HG.out.mono ?_; rw [hg]; rintro e w' ⟨rfl, rfl⟩)
        go_round
        case rel => exact ⟨k + 1, by omega, by go_num, H1.out hg⟩
        case measure => simp [intOf]; omega
      · go_wp2_with (go_at_call 40; refine HG.out.mono ?_; rw [hg]; rintro e w' ⟨rfl, rfl⟩)
        go_ret
        exact ⟨ret_bool (H2.out hg).symm, rfl⟩
    · go_wp2
      go_ret
      refine ⟨ret_bool ?_, rfl⟩
      have h := HN.out
      rw [List.take_of_length_le (by omega)] at h
      exact h.symm

set_option maxRecDepth 100000 in
set_option maxHeartbeats 1000000 in
theorem sameVector_any (x y : Value) (fss : List (List Tm)) (w : World) (hm : fss.length ≤ 1000) (hf : ∀ f ∈ fss, OkP f) (pf : Vl w x fss) (pg : Vl w y fss) :
    Calls Tryz.prog 12 #[x, y] w fun e w' => e = .returned (.bool true) ∧ Below w.heap.size w w' := by
  have HX := hid pf
  have HY := hid pg
  have HF := hid hf
  obtain ⟨ax, cx, rfl, _⟩ := pf
  obtain ⟨ay, cy, rfl, _⟩ := pg
  clear hf
  go_enter Tryz.func12, Tryz.ntmps12
  go_wp2
  go_loopw [5] (fun i wr => ∃ k : Nat, k ≤ fss.length ∧ i = .int .i64 k ∧ Below w.heap.size w wr) (fun i _ => fss.length - (intOf i).toNat)
  case atStart => exact ⟨0, Nat.zero_le _, rfl, Below.refl _ _⟩
  case round =>
    obtain ⟨k, hk, rfl, hbr⟩ := hrel
    have HBR := hid hbr
    clear hbr
    by_cases hk2 : k < fss.length
    · obtain ⟨b, off, fa, fc, rfl, hlt, c0, hpf⟩ := vl_at HX.out k hk2
      obtain ⟨b2, off2, ga, gc, rfl, hlt2, d0, hpg⟩ := vl_at HY.out k hk2
      have HK := hid (HF.out _ (getD_memL fss k hk2))
      generalize fss.getD k [] = f at c0 hpf d0 hpg HK
      have HPF := hid (hpf.below HBR.out)
      have HPG := hid (hpg.below HBR.out)
      have k0 := cell_keep c0 HBR.out
      have k1 := cell_keep d0 HBR.out
      have KEEP : Hid (∀ W, Below wr.heap.size wr W → (Hid (Below wr.heap.size wr W) ∧ W.cell? ⟨b, off + k, none⟩ = some (.slice fa f.length fc) ∧ W.cell? ⟨b2, off2 + k, none⟩ = some (.slice ga f.length gc))) :=
        fun W hb => ⟨hb, cell_keep k0 hb, cell_keep k1 hb⟩
      have HB0 : Hid (Below wr.heap.size wr wr.drew) := (Below.refl _ _).drew
      have HL3 := hid (fun t ht => (HK.out.2 t ht).2.1)
      clear c0 d0 hpf hpg
      go_wp2_with fail
      go_region_held (fun W => Hid (Below wr.heap.size wr W) ∧ W.cell? ⟨b, off + k, none⟩ = some (.slice fa f.length fc) ∧ W.cell? ⟨b2, off2 + k, none⟩ = some (.slice ga f.length gc))
        (first | exact KEEP.out _ HB0.out | exact KEEP.out _ (HB0.out.trans (hb9.mono HB0.out.size)))
        (first | (go_at_call 44; refine (samePoly_any _ _ f f _ HK.out.1 HL3.out ?_ ?_).mono ?_; exact HPF.out.below HB0.out; exact HPG.out.below HB0.out; rw [decide_eq_true rfl]; rintro e w9 ⟨rfl, hb9⟩))
      have HB9 := hid (show Below wr.heap.size wr w9 from HB0.out.trans (hb9.mono HB0.out.size))
      clear hb9
      go_wp2_with fail
      go_roundw
      case rel => exact ⟨k + 1, by omega, by go_num, HBR.out.trans (HB9.out.mono HBR.out.size)⟩
      case measure => simp [intOf]; omega
    · go_wp2
      go_ret
      exact ⟨rfl, HBR.out⟩

theorem Vl.empty (w : World) : Vl w (.slice none 0 0) [] := ⟨none, 0, rfl, fun h => absurd h (by simp)⟩
end Go.Proofs.YtilogbggilchaaaGreat
