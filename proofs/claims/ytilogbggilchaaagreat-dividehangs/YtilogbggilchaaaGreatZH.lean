/- Flat vectors, sorted. -/
import Derived.Test.YtilogbggilchaaaGreatZG
import Derived.Test.YtilogbggilchaaaGreatShelf
import Derived.Test.YtilogbggilchaaaGreatWA
namespace Go.Proofs.YtilogbggilchaaaGreat
set_option linter.unusedSimpArgs false
set_option linter.unusedVariables false
open Go.RowKit Go.Sort
theorem compare64_any (a b : Int) (w : World) :
    Calls Tryz.prog 100 #[.int .i64 a, .int .i64 b] w fun e w' => e = .returned (.int .i64 (cmpI a b)) ∧ w' = w := by
  unfold cmpI
  by_cases h1 : a < b
  · go_enter Tryz.func100, Tryz.ntmps100
    go_wp2
    go_ret
    exact ⟨by simp [h1], rfl⟩
  · by_cases h2 : b < a
    · go_enter Tryz.func100, Tryz.ntmps100
      go_wp2
      go_ret
      exact ⟨by simp [h1, h2], rfl⟩
    · go_enter Tryz.func100, Tryz.ntmps100
      go_wp2
      go_ret
      exact ⟨by simp [h1, h2], rfl⟩
def cmpF (x y : Ft) : Int := cmpI y.k x.k
set_option maxHeartbeats 1000000 in
theorem sortCl_any (x y : Ft) (W : World) : Calls Tryz.prog 99 #[.agg (encF x).toArray, .agg (encF y).toArray] W fun e w' => e = .returned (.int .i64 (cmpF x y)) ∧ ∃ q os', w' = grow (W.drewN q) os' := by
  have hcon := fun W' => compare64_any y.k x.k W'
  unfold cmpF
  unfold encF
  generalize cmpI y.k x.k = r at hcon ⊢
  go_enter Tryz.func99, Tryz.ntmps99
  go_wp2_with (go_at_call 100; refine (hcon _).mono ?_; rintro e w' ⟨rfl, rfl⟩)
  go_ret
  exact ⟨rfl, 0, _, by rw [alloc_eq_grow, alloc_eq_grow, grow_grow]; rfl⟩
theorem ltF (x y : Ft) : ltOf cmpF x y = decide (y.k < x.k) := by
  unfold ltOf cmpF cmpI
  by_cases h1 : y.k < x.k
  · simp [h1]
  · by_cases h2 : x.k < y.k <;> simp [h1, h2]
theorem swoF : SWO (ltOf cmpF) where
  irrefl x := by rw [ltF]; simp
  trans x y z h1 h2 := by rw [ltF] at *; simp at *; omega
  ntrans x y z h1 h2 := by rw [ltF] at *; simp at *; omega
theorem isAggFt (w : World) : (isAgg 52).run Tryz.prog w = .ok true w := by kernel_rfl
theorem sizeOfFt (w : World) : (Go.sizeOf 52).run Tryz.prog w = .ok 7 w := by kernel_rfl

theorem flatF_get [Inhabited Ft] : ∀ (fs : List Ft) (j : Nat), j < fs.length * 7 → (flatF fs)[j]? = some ((encF fs.toArray[j / 7]!)[j % 7]!)
  | [], j, h => by simp at h
  | t :: fs, j, h => by
    rw [flatF_cons]
    by_cases hj : j < 7
    · rw [List.getElem?_append_left (by simpa [encF] using hj)]
      have e1 : j / 7 = 0 := by omega
      have e2 : j % 7 = j := by omega
      rw [e1, e2]
      have e3 : (t :: fs).toArray[0]! = t := rfl
      rw [e3, List.getElem?_eq_getElem (by simpa [encF] using hj), getElem!_pos _ j (by simpa [encF] using hj)]
    · rw [List.getElem?_append_right (by simp [encF]; omega)]
      have ih := flatF_get fs (j - 7) (by simp at h; omega)
      have e0 : (encF t).length = 7 := rfl
      rw [e0, ih]
      have e1 : j / 7 = (j - 7) / 7 + 1 := by omega
      have e2 : j % 7 = (j - 7) % 7 := by omega
      rw [e1, e2]
      have e3 : (t :: fs).toArray[(j - 7) / 7 + 1]! = fs.toArray[(j - 7) / 7]! := by
        have hl : (j - 7) / 7 < fs.length := by simp at h; omega
        rw [getElem!_pos _ _ (by simpa using hl), getElem!_pos _ _ (by simpa using hl)]
        simp
      rw [e3]
theorem own_holds [Inhabited Ft] {w : World} {B g cap : Nat} {fs : List Ft} (h : w.ownsRow B 52 7 (.slice (some ⟨g, 0, none⟩) fs.length cap) fs.length (flatF fs)) : HoldsK encF 7 w g 0 fs.toArray := by
  intro j hj
  rw [size_flatK] at hj
  have hj2 : j < fs.length * 7 := by simpa using hj
  refine ⟨?_, by rw [Nat.zero_add]; exact h.frozenAt j⟩
  rw [Nat.zero_add, h.cellAt j hj2, flatF_get fs j hj2, get_flatK _ _ _ _ hj]
  rfl
theorem holds_fv [Inhabited Ft] {w : World} {g cap : Nat} {fs : List Ft} (h : HoldsK encF 7 w g 0 fs.toArray) (hlt : g < w.heap.size) (hc : fs.length ≤ cap) : Fv w (.slice (some ⟨g, 0, none⟩) fs.length cap) fs := by
  refine ⟨_, cap, rfl, hc, fun hp => ⟨g, 0, rfl, hlt, fun j u hj => ?_⟩⟩
  have hjl : j < fs.length * 7 := by
    rw [← flatF_len]
    apply Nat.lt_of_not_le; intro hle; rw [List.getElem?_eq_none hle] at hj; simp at hj
  have h1 := (h j (by rw [size_flatK]; simpa using hjl)).1
  rw [get_flatK _ _ _ _ (by simpa using hjl)] at h1
  rw [flatF_get fs j hjl] at hj
  rw [h1, ← hj]
  rfl
theorem sorted_grown [Inhabited Ft] {w : World} {g n : Nat} {os : Array Obj} (d : Array Ft) : w.grownBy (sortWorldK encF 7 w g 0 n d os) (some g) := by
  refine ⟨rfl, rfl, rfl, by simp [sortWorldK, putRowK], fun k hk hne => ?_⟩
  unfold sortWorldK putRowK
  rw [heap_grow_old _ _ (by simpa using hk)]
  have : g ≠ k := fun e => hne (by rw [e])
  simp [putRow, mapBlock, Sort.ahead, Array.getElem?_modify, this]

set_option maxHeartbeats 2000000 in
set_option maxRecDepth 100000 in
theorem sortFunc_any [Inhabited Ft] (g cap : Nat) (fs : List Ft) (w : World) (hH : HoldsK encF 7 w g 0 fs.toArray) (hblk : g < w.heap.size) (hsz : fs.length < 4611686018427387904) :
    Calls Tryz.prog 98 #[.slice (some ⟨g, 0, none⟩) fs.length cap, .func (.func 99) #[] #[]] w fun e w' => e = .returned (.tuple #[]) ∧ ∃ d' n os, PermIn 0 fs.length fs.toArray d' ∧ SortedIn (ltOf cmpF) 0 fs.length d' ∧ w' = sortWorldK encF 7 w g 0 n d' os := by
  have eg : ∀ args w, (callFunc 99 args).run Tryz.prog w = .ok (.enter 99 args) w := enters_of Tryz.func99 (by kernel_rfl) rfl
  have hcmp : CmpLays Tryz.prog 99 #[] encF 7 cmpF g 0 fs.toArray.size w := fun _ _ _ _ x y => sortCl_any x y _
  have hlim : Lib.bitLen fs.toArray.size < 4611686018427387904 := Nat.lt_of_le_of_lt (Lib.bitLen_le fs.toArray.size 62 (by simp; try omega) (by omega)) (by omega)
  have hp := AnyQ.pdqsortCmpFunc_all (P := Tryz.prog) Tryz.pdqFt 7 isAggFt sizeOfFt encF cmpF 99 #[] swoF g 0 cap fs.toArray w eg hcmp ⟨fun _ => rfl, encF_one, hH, hblk⟩ (fs.toArray.size + 1) 0 fs.toArray.size (Lib.bitLen fs.toArray.size) fs.toArray w (by omega) rfl (SWK.start hH) (Nat.zero_le _) (Nat.le_refl _) (by simpa using hsz) hlim (Or.inl rfl)
  change Calls Tryz.prog 124 _ _ _ at hp
  have hl := Tryz.bits_Len (fs.length : Int) w (by omega) (by omega)
  rw [Int.toNat_natCast] at hl
  have wr : IntKind.u64.wrap (fs.length : Int) = fs.length := by simp [IntKind.wrap, IntKind.bits, IntKind.signed]; omega
  have hps := pdq_sorts (ltOf cmpF) swoF fs.toArray 0 fs.toArray.size (Lib.bitLen fs.toArray.size) true true (Nat.zero_le _) (Nat.le_refl _) (Or.inl rfl)
  simp only [List.size_toArray] at hp hps hlim
  have HPS := hid hps
  have HP := hid hp
  have HL := hid hl
  clear hH hcmp hps hp hl eg
  generalize pdq (ltOf cmpF) fs.toArray 0 fs.length (Lib.bitLen fs.length) true true = dd at HPS HP
  generalize Lib.bitLen fs.length = bl at HP HL hlim
  go_enter Tryz.func98, Tryz.ntmps98
  go_wp2_with (first | (go_at_call 95; refine HL.out.mono ?_; rintro e w' ⟨rfl, rfl⟩) | (go_at_call 124; refine HP.out.mono ?_; rintro e w' ⟨rfl, n, os, rfl⟩))
  go_end0
  exact ⟨rfl, dd, n, os, HPS.out.1, HPS.out.2, rfl⟩

set_option maxHeartbeats 1000000 in
set_option maxRecDepth 100000 in
theorem flatSort_none (w : World) : Calls Tryz.prog 60 #[.slice none 0 0] w fun e w' => e = .returned (.tuple #[]) ∧ w' = w := by
  have hp := fun W => AnyF.pdqsortCmpFunc_none (P := Tryz.prog) Tryz.pdqFt none 0 0 (.func (.func 99) #[] #[]) W
  change ∀ W, Calls Tryz.prog 124 _ _ _ at hp
  have HL := hid (fun W => Tryz.bits_Len 0 W (by omega) (by omega))
  have HP := hid hp
  clear hp
  have e0 : Lib.bitLen (0 : Int).toNat = 0 := by decide
  rw [show (Lib.bitLen (0 : Int).toNat : Nat) = 0 from e0] at HL
  have hs : ∀ W, Calls Tryz.prog 98 #[.slice none 0 0, .func (.func 99) #[] #[]] W fun e w' => e = .returned (.tuple #[]) ∧ w' = W := fun W => by
    go_enter Tryz.func98, Tryz.ntmps98
    go_wp2_with (first | (go_at_call 95; refine (HL.out _).mono ?_; rintro e w' ⟨rfl, rfl⟩) | (go_at_call 124; refine (HP.out _).mono ?_; rintro e w' ⟨rfl, rfl⟩))
    go_end0
    exact ⟨rfl, rfl⟩
  have HS := hid hs
  clear hs
  go_enter Tryz.func60, Tryz.ntmps60
  go_wp2_with (go_at_call 98; refine (HS.out _).mono ?_; rintro e w' ⟨rfl, rfl⟩)
  go_end0
  exact ⟨rfl, rfl⟩
def FallK (fs : List Ft) : Prop := fs.Pairwise fun a b => b.k ≤ a.k
set_option maxRecDepth 100000 in
theorem flatSort_any (B g cap : Nat) (fs : List Ft) (w : World) (hown : w.ownsRow B 52 7 (.slice (some ⟨g, 0, none⟩) fs.length cap) fs.length (flatF fs)) (hc : fs.length ≤ cap) (hsz : fs.length < 4611686018427387904) (hB : B ≤ w.heap.size) :
    Calls Tryz.prog 60 #[.slice (some ⟨g, 0, none⟩) fs.length cap] w fun e w' => e = .returned (.tuple #[]) ∧ ∃ fs' : List Ft, fs'.Perm fs ∧ FallK fs' ∧ Fv w' (.slice (some ⟨g, 0, none⟩) fs.length cap) fs' ∧ Below B w w' := by
  have inh : Inhabited Ft := ⟨⟨0, 0, 0, 0, 0, 0, 0⟩⟩
  have hlt := World.ownsRow.lt hown g rfl
  have hH := own_holds hown
  have HC := hid (sortFunc_any g cap fs w hH hlt.2 hsz)
  have HH := hid hH
  have HLT := hid hlt
  clear hH hown hlt
  go_enter Tryz.func60, Tryz.ntmps60
  go_wp2_with (go_at_call 98; refine HC.out.mono ?_; rintro e w' ⟨rfl, d', n, os, hp, hs, hw⟩; have HR := hid (And.intro hp (And.intro hs hw)); clear hp hs hw)
  go_end0
  obtain ⟨hp, hs, hw⟩ := HR.out
  have hds : d'.size = fs.length := by simpa using hp.1
  have e1 : d'.toList.length = fs.length := by simpa using hds
  refine ⟨rfl, d'.toList, ?_, ?_, ?_, ?_⟩
  · have h := hp.2.2
    rw [show fs.toArray.extract 0 fs.length = fs.toArray from by simp, show d'.extract 0 fs.length = d' from by rw [← hds]; simp] at h
    simpa using h
  · unfold FallK
    rw [List.pairwise_iff_getElem]
    intro i j hi hj hij
    have h := hs i j (Nat.zero_le _) hij (by omega)
    rw [ltF, getElem!_pos _ j (by simpa using hj), getElem!_pos _ i (by simpa using hi)] at h
    simp only [decide_eq_false_iff_not] at h
    simp only [Array.getElem_toList]
    omega
  · have h := holdsK_sortWorldK encF 7 w g 0 n fs.toArray d' os HLT.out.2 HH.out (by simpa using hds)
    rw [← hw] at h
    have hg := sorted_grown (w := w) (g := g) (n := n) (os := os) d'
    rw [← hw] at hg
    have k := holds_fv (cap := cap) (fs := d'.toList) (by simpa using h) (Nat.lt_of_lt_of_le HLT.out.2 hg.size) (by omega)
    rw [e1] at k
    exact k
  · have hg := sorted_grown (w := w) (g := g) (n := n) (os := os) d'
    rw [← hw] at hg
    exact grown_below hg HLT.out.1 hB
end Go.Proofs.YtilogbggilchaaaGreat
namespace Go.Proofs.YtilogbggilchaaaGreat
set_option linter.unusedSimpArgs false
set_option linter.unusedVariables false
open Go.RowKit
def allF (k0 k1 k2 : Int) (ss : List Int) (fss : List (List Tm)) : Nat → List Ft
  | 0 => []
  | i + 1 => allF k0 k1 k2 ss fss i ++ (fss.getD i []).map (ftO (ss.getD i 0) k0 k1 k2 i)
theorem run_append_ft {P : Program} (w : World) (base : Nat) (t ty e : TypeId) (i : TypeInfo) (z : Value) (ht : P.underlying t = some (.slice e)) (hi : P.info? e = some i) (hz : i.zero = some z) (hsize : i.size = 7) (hby : i.bytes = 24) (hzs : z.cells.size = 7)
    (v : Value) (fs : List Ft) (hown : w.ownsRow base e 7 v fs.length (flatF fs)) (u : Ft) (ad : Addr) (c : Nat) (hnew : ∀ j x, (encF u)[j]? = some x → w.cell? (ad.add j) = some x) (hb : fs.length ≤ 1000000000000) (hbase : base ≤ w.heap.size) :
    ∃ v' w', (Builtin.append_ #[t, t] ty #[v, .slice (some ad) 1 c]).run P w = .ok v' w' ∧ w'.ownsRow base e 7 v' (fs ++ [u]).length (flatF (fs ++ [u])) ∧ w.grownBy w' v.ownBlock := by
  obtain ⟨v', w', hr, h2, h3, _⟩ := run_append_own (P := P) w base t ty e i z 7 24 ht hi hz hsize hby hzs (by decide) v fs.length (flatF fs) hown ad 1 c (encF u) rfl hnew (encF_one u) (by unfold maxLen; omega) (by omega) hbase
  exact ⟨v', w', hr, by rw [flatF_snoc, List.length_append]; exact h2, h3⟩
theorem wpList_append_ft {P : Program} {w : World} {ops : Array Oper} {rest : List Oper} {o : Oper} {a : Act} {Q : Exit → Act → World → Prop} (hgd : o.guard = none) (s x : Operand) (t : TypeId)
    (ho : o.op = .call { callee := .builtin .append, args := #[s, x], argTypes := #[t, t] })
    (base : Nat) (e : TypeId) (i : TypeInfo) (z : Value) (ht : P.underlying t = some (.slice e)) (hi : P.info? e = some i) (hz : i.zero = some z) (hsize : i.size = 7) (hby : i.bytes = 24) (hzs : z.cells.size = 7)
    (v : Value) (fs : List Ft) (hs : a.eval s = v) (hown : w.ownsRow base e 7 v fs.length (flatF fs)) (u : Ft) (ad : Addr) (c : Nat) (hx : a.eval x = .slice (some ad) 1 c) (hnew : ∀ j x, (encF u)[j]? = some x → w.cell? (ad.add j) = some x) (hb : fs.length ≤ 1000000000000) (hbase : base ≤ w.heap.size)
    (hK : ∀ v' w', w'.ownsRow base e 7 v' (fs ++ [u]).length (flatF (fs ++ [u])) → w.grownBy w' v.ownBlock → wpList P ops Q rest (a.put o.dst v') w') : wpList P ops Q (o :: rest) a w := by
  refine wpList_plain hgd fun K hK' => ?_
  obtain ⟨v', w', hr, h2, h3⟩ := run_append_ft (P := P) w base t o.type e i z ht hi hz hsize hby hzs v fs hown u ad c hnew hb hbase
  unfold Oper.wp execOp
  simp only [ho, resolve, invoke, builtin, Sem.run_bind, Sem.run_pure, Result.andThen_ok, List.map_toArray, List.map_cons, List.map_nil, hs, hx, hr]
  exact hK' _ _ (hK v' w' h2 h3)

set_option maxRecDepth 100000 in
set_option maxHeartbeats 2000000 in
theorem orderVector_any (ob : Nat) (p k0 k1 k2 : Int) (sv x : Value) (ss : List Int) (fss : List (List Tm)) (N : Nat) (w : World) (hob : OrdB w ob p k0 k1 k2 sv) (hs : Sl w sv ss) (hl : fss.length ≤ ss.length) (hl2 : fss.length ≤ 255) (hss : ∀ s ∈ ss, -600000000000000000 ≤ s ∧ s ≤ 600000000000000000)
    (h0 : 0 ≤ k0 ∧ k0 ≤ 137438953472) (h1 : 0 ≤ k1 ∧ k1 ≤ 137438953472) (h2 : 0 ≤ k2 ∧ k2 ≤ 137438953472) (hN0 : 0 < N) (hN3 : N ≤ 3) (hf : ∀ f ∈ fss, f.length ≤ 2000 ∧ ∀ t ∈ f, t.2.length = N ∧ (∀ x ∈ t.2, 0 ≤ x ∧ x ≤ 30000) ∧ 0 ≤ t.1 ∧ t.1 ≤ 255) (pf : Vl w x fss) :
    Calls Tryz.prog 23 #[.pointer (some ⟨ob, 0, none⟩), .int .i64 0, x] w fun e w' => ∃ u fs, e = .returned u ∧ Fv w' u fs ∧ fs.Perm (allF k0 k1 k2 ss fss fss.length) ∧ FallK fs ∧ Below w.heap.size w w' ∧ ∀ b, u.ownBlock = some b → w.heap.size ≤ b := by
  have HX := hid pf
  have HF := hid hf
  have HOB := hid hob
  have HS := hid hs
  have HSS := hid hss
  have HK := hid (And.intro h0 (And.intro h1 h2))
  obtain ⟨ax, cx, rfl, _⟩ := pf
  clear hf hob hs hss h0 h1 h2
  obtain ⟨i0, hi, hz0, hz1, hz2⟩ := info_parts Tryz.infoFt
  have HI := hid (And.intro hi (And.intro hz0 (And.intro hz1 hz2)))
  clear hi hz0 hz1 hz2
  have HLEN : Hid (∀ i, i ≤ fss.length → (allF k0 k1 k2 ss fss i).length ≤ i * 2000) := fun i => by
    induction i with
    | zero => intro _; simp [allF]
    | succ i ih =>
      intro hi
      have h1 := ih (by omega)
      have h2 := (HF.out _ (getD_memL fss i (by omega))).1
      simp only [allF, List.length_append, List.length_map]
      omega
  go_enter Tryz.func23, Tryz.ntmps23
  go_wp2_with fail
  go_loopw [7, 14] (fun z i wr => ∃ k : Nat, k ≤ fss.length ∧ i = .int .i64 k ∧ wr.ownsRow w.heap.size 52 7 z (allF k0 k1 k2 ss fss k).length (flatF (allF k0 k1 k2 ss fss k)) ∧ Below w.heap.size w wr) (fun _ i _ => fss.length - (intOf i).toNat)
  case atStart => exact ⟨0, Nat.zero_le _, rfl, World.ownsRow_nil _ _ _ _, Below.refl _ _⟩
  case round =>
    obtain ⟨k, hk, rfl, hown, hbr⟩ := hrel
    have HO := hid hown
    have HB := hid hbr
    have HL := hid (HLEN.out k hk)
    have HST : Hid (allF k0 k1 k2 ss fss (k + 1) = allF k0 k1 k2 ss fss k ++ (fss.getD k []).map (ftO (ss.getD k 0) k0 k1 k2 k)) := rfl
    clear hown hbr
    by_cases hk2 : k < fss.length
    · generalize allF k0 k1 k2 ss fss k = done at HO HL HST
      obtain ⟨b, off, fa, fc, rfl, hlt, c0, hpf⟩ := vl_at HX.out k hk2
      have HFK := hid (HF.out _ (getD_memL fss k hk2))
      generalize fss.getD k [] = f at c0 hpf HFK HST
      have HPF := hid hpf
      have d0 := cell_keep c0 HB.out
      have hfl : f.length ≤ 2000 := HFK.out.1
      obtain ⟨za, zc, hz⟩ := own_sl' HO.out
      subst hz
      clear c0 hpf
      have hk3 : k < ss.length := by omega
      have hk4 : k ≤ 255 := by omega
      have hdl : done.length ≤ 600000 := by have h5 := HL.out; omega
      go_wp2
      clear d0
      go_loopw [7, 21] (fun z i wm => ∃ m : Nat, m ≤ f.length ∧ i = .int .i64 m ∧ wm.ownsRow w.heap.size 52 7 z (done ++ (f.take m).map (ftO (ss.getD k 0) k0 k1 k2 k)).length (flatF (done ++ (f.take m).map (ftO (ss.getD k 0) k0 k1 k2 k))) ∧ Below w.heap.size w wm) (fun _ i _ => f.length - (intOf i).toNat)
      case atStart => exact ⟨0, Nat.zero_le _, rfl, by simpa using HO.out, HB.out⟩
      case round =>
        clear HO HB
        obtain ⟨wo, hwo⟩ : ∃ wo : World, wo = wr := ⟨_, rfl⟩
        subst hwo
        obtain ⟨m, hm, rfl, hown, hbr⟩ := hrel
        have HO := hid hown
        have HB := hid hbr
        clear hown hbr
        by_cases hm2 : m < f.length
        · obtain ⟨fa2, fc2, hfv, _, hat0⟩ := HPF.out
          obtain ⟨b2, off2, hfa, hlt2, hat⟩ := hat0 (by omega)
          simp only [Value.slice.injEq, true_and] at hfv
          obtain ⟨e1, e2⟩ := hfv
          subst e1
          subst e2
          subst hfa
          obtain ⟨t0, ev, t1, hse⟩ := hat m hm2
          have HTK : Hid (f.take (m + 1) = f.take m ++ [f.getD m noT]) := by
            show _ = _
            rw [List.take_succ_eq_append_getElem hm2]; simp [List.getD_eq_getElem?_getD, hm2]
          have HTO := hid (HFK.out.2 _ (getD_memT f m hm2))
          generalize f.getD m noT = t at t0 hse HTK HTO
          obtain ⟨tc, te⟩ := t
          have HSE := hid hse
          obtain ⟨ea, ec, rfl, _⟩ := hse
          simp only at t0 t1
          have q0 := cell_keep t0 HB.out
          have q1 := cell_keep t1 HB.out
          have hdm : Hid ((done ++ (f.take m).map (ftO (ss.getD k 0) k0 k1 k2 k)).length ≤ 1000000000000) := by
            show _ ≤ _
            rw [List.length_append, List.length_map, List.length_take]; omega
          have HTM := hid (fun (W : World) (hb : Below w.heap.size w W) => orderTerm_any ob k p k0 k1 k2 sv (.slice ea te.length ec) ss te tc W (HOB.out.below hb) (HS.out.below hb) hk3 hk4 HSS.out HK.out.1 HK.out.2.1 HK.out.2.2 ⟨HTO.out.2.2.1, HTO.out.2.2.2⟩ (by have h5 := HTO.out.1; simp only at h5; omega) (by have h5 := HTO.out.1; simp only at h5; omega) HTO.out.2.1 (HSE.out.below hb))
          have HNX : Hid (done ++ (f.take (m + 1)).map (ftO (ss.getD k 0) k0 k1 k2 k) = done ++ (f.take m).map (ftO (ss.getD k 0) k0 k1 k2 k) ++ [ftO (ss.getD k 0) k0 k1 k2 k (tc, te)]) := by
            show _ = _
            rw [HTK.out, List.map_append, List.append_assoc]; rfl
          generalize ftO (ss.getD k 0) k0 k1 k2 k (tc, te) = ft at HTM HNX
          generalize done ++ (f.take m).map (ftO (ss.getD k 0) k0 k1 k2 k) = dm at HO HNX hdm
          unfold ftV at HTM
          obtain ⟨ya, yc, hy⟩ := own_sl' HO.out
          subst hy
          clear hat0 hat t0 t1
          have HBA : Hid (Below w.heap.size w (wo.alloc (.cells #[.int .i64 tc, .slice ea te.length ec] 57))) := HB.out.alloc HB.out.size _
          go_wp2_with (first
            | (go_at_call 59; refine (HTM.out _ HBA.out).mono ?_; rintro e w8 ⟨rfl, hb8⟩; have HB8 := hid (HBA.out.trans (hb8.mono HBA.out.size)); have HO8 := hid (ownBlock_lt HO.out (belowNew.trans (hb8.mono (by simp)))); have HO9 := hid (HO8.out.alloc (.cells #[.int .i64 ft.k, .int .u16 ft.a, .int .u16 ft.b, .int .u16 ft.d, .int .u16 ft.z, .int .u8 ft.pl, .int .u8 ft.c] 52)); clear hb8)
            | (at_builtin; refine wpList_append_ft rfl (.tmp 25) (.tmp 32) 64 rfl w.heap.size 52 i0 _ Tryz.underlying64 HI.out.1 HI.out.2.1 HI.out.2.2.1 HI.out.2.2.2 rfl (.slice ya dm.length yc) dm rfl HO9.out ft ⟨w8.heap.size, 0, none⟩ 1 rfl (seven_new _ _ _) hdm.out (Nat.le_trans HB8.out.size (by simp)) ?_; intro v9 w9 r1 r2; have R1 := hid r1; have R2 := hid (show Below w.heap.size w w9 from own_grown HO9.out (HB8.out.alloc HB8.out.size _) r2 (Nat.le_refl _)); obtain ⟨va9, vc9, hv9⟩ := own_sl' r1; subst hv9; clear r1 r2))
          go_roundw
          case rel => exact ⟨m + 1, by omega, by go_num, by rw [HNX.out]; have h := R1.out; rwa [show (dm ++ [ft]).length = dm.length + 1 from by simp] at h ⊢, R2.out⟩
          case measure => simp [intOf]; omega
        · have e : m = f.length := by omega
          subst e
          have HO2 := hid HO.out
          rw [List.take_of_length_le (Nat.le_refl _), ← HST.out] at HO2
          go_wp2
          go_roundw
          case rel => exact ⟨k + 1, by omega, by go_num, HO2.out, HB.out⟩
          case measure => simp [intOf]; omega
    · have e : k = fss.length := by omega
      subst e
      have hdl : (allF k0 k1 k2 ss fss fss.length).length < 4611686018427387904 := by have h5 := HL.out; omega
      have HOQ := hid HO.out
      have hc := HO.out.2
      generalize hAL : allF k0 k1 k2 ss fss fss.length = al at HO HOQ HL hdl hc
      have HAL := hid hAL
      clear hAL
      rcases hc with ⟨hz, hn⟩ | ⟨g, cap, cur, hz, hg, hh, hn, hmx, hcs, ht⟩
      · subst hz
        have hal : al = [] := List.length_eq_zero_iff.1 hn
        subst hal
        have HSN := hid (fun (W : World) => flatSort_none W)
        go_wp2_with (go_at_call 60; refine (HSN.out _).mono ?_; rintro e w8 ⟨rfl, rfl⟩)
        go_ret
        exact ⟨_, [], rfl, fv_nil _ _, (by rw [HAL.out]), List.Pairwise.nil, HB.out, fun b hb => by simp [Value.ownBlock] at hb⟩
      · subst hz
        have HGE := hid hg
        have HSO := hid (flatSort_any w.heap.size g cap al wr HOQ.out hn hdl HB.out.size)
        clear hh hcs ht
        go_wp2_with (go_at_call 60; refine HSO.out.mono ?_; rintro e w8 ⟨rfl, fs', h1, h2, h3, h4⟩; have HR := hid (And.intro h1 (And.intro h2 (And.intro h3 h4))); clear h1 h2 h3 h4)
        go_ret
        refine ⟨.slice (some ⟨g, 0, none⟩) al.length cap, fs', rfl, HR.out.2.2.1, (by rw [HAL.out]; exact HR.out.1), HR.out.2.1, HB.out.trans HR.out.2.2.2, fun b hb => by
          have hge : w.heap.size ≤ g := HGE.out
          have hb2 : g = b := by simpa [Value.ownBlock] using hb
          rw [← hb2]; exact hge⟩
def lay7 (wr : World) (g : Nat) (t : Ft) : World := ((((((wr.setCell ⟨g, 0, none⟩ (.int .i64 t.k)).setCell ⟨g, 1, none⟩ (.int .u16 t.a)).setCell ⟨g, 2, none⟩ (.int .u16 t.b)).setCell ⟨g, 3, none⟩ (.int .u16 t.d)).setCell ⟨g, 4, none⟩ (.int .u16 t.z)).setCell ⟨g, 5, none⟩ (.int .u8 t.pl)).setCell ⟨g, 6, none⟩ (.int .u8 t.c)
def Bx (B : Nat) (wr : World) (g : Nat) (t : Ft) : Prop := wr.ownsRow B 52 7 (.slice (some ⟨g, 0, none⟩) 1 1) 1 (encF t)
theorem Bx.put {B : Nat} {wr : World} {g : Nat} {t0 : Ft} (h : Bx B wr g t0) (t : Ft) : Bx B (lay7 wr g t) g t ∧ wr.grownBy (lay7 wr g t) (some g) := by
  have s1 := World.ownsRow.stored h 0 (.int .i64 t.k)
  have s2 := s1.1.stored 1 (.int .u16 t.a)
  have s3 := s2.1.stored 2 (.int .u16 t.b)
  have s4 := s3.1.stored 3 (.int .u16 t.d)
  have s5 := s4.1.stored 4 (.int .u16 t.z)
  have s6 := s5.1.stored 5 (.int .u8 t.pl)
  have s7 := s6.1.stored 6 (.int .u8 t.c)
  exact ⟨s7.1, grown_trans (grown_trans (grown_trans (grown_trans (grown_trans (grown_trans s1.2 s2.2) s3.2) s4.2) s5.2) s6.2) s7.2⟩
theorem Bx.at {B : Nat} {wr : World} {g : Nat} {t : Ft} (h : Bx B wr g t) : FtAt wr g 0 t := ft_at_of fun j u hj => by
  have hl : j < 7 := by
    have := (List.getElem?_eq_some_iff.1 hj).1
    simpa [encF] using this
  rw [Nat.zero_add, World.ownsRow.cellAt h j (by omega)]; exact hj
theorem Bx.below {B : Nat} {wr w' : World} {g : Nat} {t : Ft} (h : Bx B wr g t) (hb : Below wr.heap.size wr w') : Bx B w' g t := ownBlock_lt h hb
theorem Bx.new (w : World) (B : Nat) (hB : B ≤ w.heap.size) : Bx B (w.alloc (.cells #[.int .i64 0, .int .u16 0, .int .u16 0, .int .u16 0, .int .u16 0, .int .u8 0, .int .u8 0] 52)) w.heap.size ⟨0, 0, 0, 0, 0, 0, 0⟩ :=
  ⟨by simp [encF], .inr ⟨w.heap.size, 1, _, rfl, hB, heap_alloc_new w _, Nat.le_refl _, by decide, by simp, by simp [encF]⟩⟩

def RwsAt (w : World) (rv : Value) (rows : List (List Ft)) : Prop := ∃ ra rc, rv = .slice ra rows.length rc ∧ ∀ i, i < rows.length → ∃ b off u, ra = some ⟨b, off, none⟩ ∧ b < w.heap.size ∧ w.cell? ⟨b, off + i, none⟩ = some u ∧ Fv w u (rows.getD i [])
def gr1 (g : Option Ft) : List Ft → Option Ft
  | [] => g
  | t :: _ => match g with
    | none => some t
    | some g => if g.k < t.k then some t else some g
def grt (rows : List (List Ft)) : Option Ft := rows.foldl gr1 none
def grF (g : Option Ft) : Ft := g.getD ⟨0, 0, 0, 0, 0, 0, 0⟩
structure GW (w wr : World) (g : Option Ft) : Prop where
  below : Below w.heap.size w wr
  res : Bx w.heap.size wr w.heap.size ⟨0, 0, 0, 0, 0, 0, 0⟩
  box : Bx w.heap.size wr (w.heap.size + 1) (grF g)
theorem GW.next {w wr w' : World} {g : Option Ft} (h : GW w wr g) (hb : Below wr.heap.size wr w') : GW w w' g := ⟨h.below.trans (hb.mono h.below.size), h.res.below hb, h.box.below hb⟩
theorem GW.put {w wr : World} {g : Option Ft} (h : GW w wr g) (t : Ft) : GW w (lay7 wr (w.heap.size + 1) t) (some t) := by
  have s := h.box.put t
  exact ⟨h.below.trans (grown_below s.2 (by omega) h.below.size), World.ownsRow.kept h.res s.2 (Or.inr (by simp [Value.ownBlock])), s.1⟩

set_option maxRecDepth 100000 in
set_option maxHeartbeats 2000000 in
theorem greatest_any (sb : Nat) (rv : Value) (rows : List (List Ft)) (w : World) (hsb : sb < w.heap.size) (h1 : w.cell? ⟨sb, 1, none⟩ = some rv) (hr : RwsAt w rv rows) (hn : rows.length ≤ 1000) :
    Calls Tryz.prog 101 #[.pointer (some ⟨sb, 0, none⟩)] w fun e w' => e = .returned (.tuple #[ftV (grF (grt rows)), .bool (grt rows).isSome]) ∧ Below w.heap.size w w' := by
  obtain ⟨ra, rc, rfl, hat⟩ := hr
  have HAT := hid hat
  clear hat
  obtain ⟨w1, hw1⟩ : ∃ w1, w1 = (w.alloc (.cells #[.int .i64 0, .int .u16 0, .int .u16 0, .int .u16 0, .int .u16 0, .int .u8 0, .int .u8 0] 52)).alloc (.cells #[.int .i64 0, .int .u16 0, .int .u16 0, .int .u16 0, .int .u16 0, .int .u8 0, .int .u8 0] 52) := ⟨_, rfl⟩
  have H0 : Hid (GW w w1 none) := by
    show GW _ _ _
    rw [hw1]
    refine ⟨below_two, (Bx.new w _ (Nat.le_refl _)).below belowNew, ?_⟩
    have h := Bx.new (w.alloc (.cells #[.int .i64 0, .int .u16 0, .int .u16 0, .int .u16 0, .int .u16 0, .int .u8 0, .int .u8 0] 52)) w.heap.size (by simp)
    simpa [grF] using h
  have q1 : w1.cell? ⟨sb, 1, none⟩ = some (.slice ra rows.length rc) := cell_keep h1 H0.out.below
  go_enter Tryz.func101, Tryz.ntmps101
  go_wp2_with fail
  rw [← hw1]
  clear hw1
  go_wp2
  clear q1
  go_loopw [5, 13] (fun f i wr => ∃ m : Nat, m ≤ rows.length ∧ i = .int .i64 m ∧ f = .bool (grt (rows.take m)).isSome ∧ GW w wr (grt (rows.take m))) (fun _ i _ => rows.length - (intOf i).toNat)
  case atStart => exact ⟨0, Nat.zero_le _, rfl, rfl, H0.out⟩
  case round =>
    clear H0
    obtain ⟨m, hm, rfl, rfl, ht⟩ := hrel
    have HT := hid ht
    clear ht
    by_cases hm2 : m < rows.length
    · obtain ⟨rb, off, u, rfl, hlt, hc, hf⟩ := HAT.out m hm2
      have HTK : Hid (grt (rows.take (m + 1)) = gr1 (grt (rows.take m)) (rows.getD m [])) := by
        show _ = _
        unfold grt
        rw [List.take_succ_eq_append_getElem hm2, List.foldl_append]; simp [List.getD_eq_getElem?_getD, hm2]
      generalize grt (rows.take m) = g at HT HTK ⊢
      generalize rows.getD m [] = row at hf HTK
      have z1 := cell_keep hc HT.out.below
      cases row with
      | nil =>
        obtain ⟨a, cap, rfl, _, _⟩ := hf
        go_wp2
        go_quiet (fail)
        have HBQ := hid (below_drewN (Below.refl wr.heap.size wr) nq)
        generalize wr.drewN nq = wq at HBQ ⊢
        have HTQ := hid (HT.out.next HBQ.out)
        go_wp2
        go_roundw
        case rel => exact ⟨m + 1, by omega, by go_num, by rw [HTK.out]; rfl, by rw [HTK.out]; exact HTQ.out⟩
        case measure => simp [intOf]; omega
      | cons t ts =>
        obtain ⟨b, of2, cap, rfl, hcap, hlt2, hft, _, _⟩ := hf.head
        obtain ⟨f0, f1, f2, f3, f4, f5, f6⟩ := hft.keep HT.out.below
        cases g with
        | none =>
          simp only [Option.isSome_none]
          go_wp2
          go_quiet (fail)
          have HBQ := hid (below_drewN (Below.refl wr.heap.size wr) nq)
          generalize wr.drewN nq = wq at HBQ ⊢
          have HTQ := hid (HT.out.next HBQ.out)
          obtain ⟨f0, f1, f2, f3, f4, f5, f6⟩ := hft.keep HTQ.out.below
          obtain ⟨x0, x1, x2, x3, x4, x5, x6⟩ := HTQ.out.box.at
          have y0 := World.ownsRow.frozenAt HTQ.out.box 0
          have y1 := World.ownsRow.frozenAt HTQ.out.box 1
          have y2 := World.ownsRow.frozenAt HTQ.out.box 2
          have y3 := World.ownsRow.frozenAt HTQ.out.box 3
          have y4 := World.ownsRow.frozenAt HTQ.out.box 4
          have y5 := World.ownsRow.frozenAt HTQ.out.box 5
          have y6 := World.ownsRow.frozenAt HTQ.out.box 6
          simp only [Nat.zero_add] at x0 x1 x2 x3 x4 x5 x6
          have HP := hid (HTQ.out.put t)
          unfold lay7 at HP
          go_wp2
          go_roundw
          case rel => exact ⟨m + 1, by omega, by go_num, by rw [HTK.out]; rfl, by rw [HTK.out]; exact HP.out⟩
          case measure => simp [intOf]; omega
        | some g =>
          simp only [Option.isSome_some]
          obtain ⟨x0, x1, x2, x3, x4, x5, x6⟩ := HT.out.box.at
          simp only [Nat.zero_add, grF, Option.getD_some] at x0 x1 x2 x3 x4 x5 x6
          by_cases hk : g.k < t.k
          · skip
            go_wp2
            go_quiet (fail)
            have HBQ := hid (below_drewN (Below.refl wr.heap.size wr) nq)
            generalize wr.drewN nq = wq at HBQ ⊢
            have HTQ := hid (HT.out.next HBQ.out)
            obtain ⟨f0, f1, f2, f3, f4, f5, f6⟩ := hft.keep HTQ.out.below
            obtain ⟨x0, x1, x2, x3, x4, x5, x6⟩ := HTQ.out.box.at
            have y0 := World.ownsRow.frozenAt HTQ.out.box 0
            have y1 := World.ownsRow.frozenAt HTQ.out.box 1
            have y2 := World.ownsRow.frozenAt HTQ.out.box 2
            have y3 := World.ownsRow.frozenAt HTQ.out.box 3
            have y4 := World.ownsRow.frozenAt HTQ.out.box 4
            have y5 := World.ownsRow.frozenAt HTQ.out.box 5
            have y6 := World.ownsRow.frozenAt HTQ.out.box 6
            simp only [Nat.zero_add] at x0 x1 x2 x3 x4 x5 x6
            have HP := hid (HTQ.out.put t)
            unfold lay7 at HP
            go_wp2
            go_roundw
            case rel => exact ⟨m + 1, by omega, by go_num, by rw [HTK.out]; simp [gr1, hk], by rw [HTK.out]; simp only [gr1, hk, if_true]; exact HP.out⟩
            case measure => simp [intOf]; omega
          · have HK := hid hk
            go_wp2
            go_quiet (fail)
            have HBQ := hid (below_drewN (Below.refl wr.heap.size wr) nq)
            generalize wr.drewN nq = wq at HBQ ⊢
            have HTQ := hid (HT.out.next HBQ.out)
            go_wp2
            go_roundw
            case rel => exact ⟨m + 1, by omega, by go_num, by rw [HTK.out]; simp only [gr1]; rw [if_neg (show ¬ g.k < t.k from by have := HK.out; omega)]; rfl, by rw [HTK.out]; simp only [gr1]; rw [if_neg (show ¬ g.k < t.k from by have := HK.out; omega)]; exact HTQ.out⟩
            case measure => simp [intOf]; omega
    · have e : m = rows.length := by omega
      subst e
      rw [List.take_of_length_le (Nat.le_refl _)] at HT ⊢
      obtain ⟨x0, x1, x2, x3, x4, x5, x6⟩ := HT.out.box.at
      obtain ⟨v0, v1, v2, v3, v4, v5, v6⟩ := HT.out.res.at
      have y0 := World.ownsRow.frozenAt HT.out.res 0
      have y1 := World.ownsRow.frozenAt HT.out.res 1
      have y2 := World.ownsRow.frozenAt HT.out.res 2
      have y3 := World.ownsRow.frozenAt HT.out.res 3
      have y4 := World.ownsRow.frozenAt HT.out.res 4
      have y5 := World.ownsRow.frozenAt HT.out.res 5
      have y6 := World.ownsRow.frozenAt HT.out.res 6
      simp only [Nat.zero_add] at x0 x1 x2 x3 x4 x5 x6 v0 v1 v2 v3 v4 v5 v6
      have HP := hid (HT.out.res.put (grF (grt rows)))
      have HBP := hid (HT.out.below.trans (grown_below HP.out.2 (Nat.le_refl _) HT.out.below.size))
      have hpat := HP.out.1.at
      unfold lay7 at hpat
      obtain ⟨r0, r1, r2, r3, r4, r5, r6⟩ := hpat
      simp only [Nat.zero_add] at r0 r1 r2 r3 r4 r5 r6
      go_wp2
      refine bodyPost_ret (v := .tuple #[ftV (grF (grt rows)), .bool (grt rows).isSome]) (by simp [results, Tryz.results101, go_sem, r0, r1, r2, r3, r4, r5, r6, ftV]) rfl ⟨rfl, HBP.out⟩
end Go.Proofs.YtilogbggilchaaaGreat
