/- The sum's take. -/
import Derived.Test.YtilogbggilchaaaGreatZP
namespace Go.Proofs.YtilogbggilchaaaGreat
set_option linter.unusedSimpArgs false
set_option linter.unusedVariables false
open Go.RowKit
theorem OrdB.frm {S : Nat → Prop} {w w' : World} {ob : Nat} {p k0 k1 k2 : Int} {sv : Value} (h : OrdB w ob p k0 k1 k2 sv) (hf : Frm S w w') (hn : ¬ S ob) : OrdB w' ob p k0 k1 k2 sv :=
  ⟨Nat.lt_of_lt_of_le h.lt hf.size, hf.cell h.c0 hn, hf.cell h.c1 hn, hf.cell h.c2 hn, hf.cell h.c3 hn, hf.cell h.c4 hn⟩
theorem SumW.ob_apart {B : Nat} {w : World} {sb ob : Nat} {rv : Value} {us : List Value} {rows : List (List Ft)} {p k0 k1 k2 : Int} {sv : Value} (h : SumW B w sb ob rv us rows) (ho : OrdB w ob p k0 k1 k2 sv) : rv.ownBlock ≠ some ob := by
  intro e
  obtain ⟨_, _, _, h2⟩ := h.rws.kind ob e 0 _ ho.c0
  cases h2
theorem sum_bd (key : Int) {p : Int} (hp : 2 ≤ p ∧ p ≤ 101) : ∀ (rows : List (List Ft)), (∀ r ∈ rows, ∀ t ∈ r, 0 ≤ t.c ∧ t.c < p) → 0 ≤ tkS key rows ∧ tkS key rows ≤ 101 * rows.length
  | [], _ => by simp [tkS]
  | r :: rows, h => by
    have ih := sum_bd key hp rows fun r hr => h r (by simp [hr])
    have h1 : 0 ≤ tkC key r ∧ tkC key r ≤ 101 := by
      cases r with
      | nil => simp [tkC]
      | cons t ts =>
        have := h (t :: ts) (by simp) t (by simp)
        simp only [tkC]; split <;> omega
    simp only [tkS, List.map_cons, List.sum_cons, List.length_cons] at ih ⊢
    omega
def tkM (key : Int) (rows : List (List Ft)) (m : Nat) : List (List Ft) := tk key (rows.take m) ++ rows.drop m
theorem tkM_len (key : Int) (rows : List (List Ft)) (m : Nat) : (tkM key rows m).length = rows.length := by
  simp [tkM, tk]; omega
theorem tkM_at (key : Int) (rows : List (List Ft)) (m : Nat) (h : m < rows.length) : (tkM key rows m).getD m [] = rows.getD m [] := by
  have hl : (tk key (rows.take m)).length = m := by simp [tk]; omega
  unfold tkM
  rw [List.getD_eq_getElem?_getD, List.getElem?_append_right (by omega), hl, Nat.sub_self, List.getElem?_drop, Nat.add_zero, List.getD_eq_getElem?_getD]
theorem tkM_set (key : Int) (rows : List (List Ft)) (m : Nat) (h : m < rows.length) : (tkM key rows m).set m (tk1 key (rows.getD m [])) = tkM key rows (m + 1) := by
  have hl : (tk key (rows.take m)).length = m := by simp [tk]; omega
  have e : rows.getD m [] = rows[m] := by simp [List.getD_eq_getElem?_getD, h]
  unfold tkM
  rw [List.set_append_right _ _ (by omega), hl, Nat.sub_self, List.drop_eq_getElem_cons h, List.set_cons_zero, List.take_succ_eq_append_getElem h, e]
  unfold tk
  rw [List.map_append, List.append_assoc]; rfl
theorem tkS_succ (key : Int) (rows : List (List Ft)) (m : Nat) (h : m < rows.length) : tkS key (rows.take (m + 1)) = tkS key (rows.take m) + tkC key (rows.getD m []) := by
  have e : rows.getD m [] = rows[m] := by simp [List.getD_eq_getElem?_getD, h]
  rw [List.take_succ_eq_append_getElem h, e]
  unfold tkS
  rw [List.map_append, List.sum_append]
  simp only [List.map_cons, List.map_nil, List.sum_cons, List.sum_nil]; omega
theorem tkM_same (key : Int) (rows : List (List Ft)) (m : Nat) (h : m < rows.length) (he : tk1 key (rows.getD m []) = rows.getD m []) : tkM key rows (m + 1) = tkM key rows m := by
  rw [← tkM_set key rows m h, he]
  have := tkM_at key rows m h
  apply List.ext_getElem?
  intro i
  rw [List.getElem?_set]
  split
  · rename_i e
    subst e
    rw [tkM_len, if_pos h]
    have hl : m < (tkM key rows m).length := by rw [tkM_len]; exact h
    rw [← this, List.getD_eq_getElem?_getD, List.getElem?_eq_getElem hl]; rfl
  · rfl

def VLt (L : Nat) (u : Value) : Prop := ∀ g, u.ownBlock = some g → g < L
def LocR (L : Nat) (us : List Value) (rows : List (List Ft)) : Prop := ∀ i, i < rows.length → rows.getD i [] ≠ [] → VLt L (us.getD i nilV)
theorem Fv.vlt {w : World} {v : Value} {fs : List Ft} (h : Fv w v fs) (hn : fs ≠ []) : VLt w.heap.size v := by
  obtain ⟨a, cap, rfl, _, h1⟩ := h
  obtain ⟨b, off, rfl, hlt, _⟩ := h1 (List.length_pos_iff.2 hn)
  intro g hg
  simp only [Value.ownBlock, Option.some.injEq] at hg
  omega
theorem SumW.loc {B : Nat} {w : World} {sb ob : Nat} {rv : Value} {us : List Value} {rows : List (List Ft)} (h : SumW B w sb ob rv us rows) : LocR w.heap.size us rows := fun i hi hn => (h.rws.fvs i hi).vlt hn
theorem fv_far {w w' : World} {g L : Nat} {v : Value} {fs : List Ft} (h : Fv w v fs) (hg : w.grownBy w' (some g)) (hv : fs ≠ [] → VLt L v) (hL : L ≤ g) : Fv w' v fs := by
  obtain ⟨a, cap, rfl, hc, h1⟩ := h
  refine ⟨a, cap, rfl, hc, fun hp => ?_⟩
  obtain ⟨b, off, rfl, hlt, hcs⟩ := h1 hp
  have hb := hv (List.length_pos_iff.1 hp) b rfl
  exact ⟨b, off, rfl, Nat.lt_of_lt_of_le hlt hg.size, fun j u hj => by rw [cell_far hg hlt (by omega)]; exact hcs j u hj⟩
theorem SumW.far {B : Nat} {w w' : World} {sb ob g L : Nat} {rv : Value} {us : List Value} {rows : List (List Ft)} (h : SumW B w sb ob rv us rows) (hg : w.grownBy w' (some g)) (hl : LocR L us rows) (hL : L ≤ g) (hs : sb ≠ g) (hr : rv.ownBlock ≠ some g) : SumW B w' sb ob rv us rows :=
  ⟨World.ownsRow.kept h.box hg (Or.inr (by simpa [Value.ownBlock] using hs)), h.kind.below (hg.block sb h.lt.2 (by simpa using hs)),
    h.rws.len, World.ownsRow.kept h.rws.own hg (Or.inr hr), fun k hk => KdB.below (h.rws.kind k hk) (hg.block k (World.ownsRow.lt h.rws.own k hk).2 (fun e => hr (by rw [hk, e]))), fun i hi => fv_far (h.rws.fvs i hi) hg (hl i hi) hL⟩

structure TkW (B L : Nat) (w wr : World) (sb ob : Nat) (rv : Value) (rows : List (List Ft)) : Prop where
  sum : ∃ us, SumW B wr sb ob rv us rows ∧ LocR L us rows
  frm : Frm (fun k => rv.ownBlock = some k) w wr
theorem TkW.next {B L : Nat} {w wr w' : World} {sb ob : Nat} {rv : Value} {rows : List (List Ft)} (h : TkW B L w wr sb ob rv rows) (hb : Below wr.heap.size wr w') : TkW B L w w' sb ob rv rows := by
  obtain ⟨us, hs, hl⟩ := h.sum
  exact ⟨⟨us, hs.next hb, hl⟩, h.frm.trans (Frm.of_below (S := fun _ => False) hb) fun _ _ h => h.elim⟩
theorem TkW.put {B L : Nat} {w wr : World} {sb ob g n c : Nat} {rows : List (List Ft)} (h : TkW B L w wr sb ob (.slice (some ⟨g, 0, none⟩) n c) rows) (i : Nat) (hi : i < rows.length) (u : Value) (f : List Ft) (hu : Fv wr u f) (hv : VLt L u) : TkW B L w (wr.setCell ⟨g, i, none⟩ u) sb ob (.slice (some ⟨g, 0, none⟩) n c) (rows.set i f) := by
  obtain ⟨us, hs, hl⟩ := h.sum
  have s := hs.put i hi u f hu
  refine ⟨⟨_, s.1, fun j hj hne => ?_⟩, h.frm.trans (Frm.of_grown (S := fun k => k = g) s.2 fun x e => by simpa using e.symm) fun x _ e => by subst e; rfl⟩
  rw [List.length_set] at hj
  rw [getD_set] at hne ⊢
  rw [hs.rws.len]
  by_cases e : i = j ∧ j < rows.length
  · rw [if_pos e]; exact hv
  · rw [if_neg e] at hne ⊢; exact hl j hj hne
theorem TkW.far {B L : Nat} {w wr w' : World} {sb ob g : Nat} {rv : Value} {rows : List (List Ft)} (h : TkW B L w wr sb ob rv rows) (hg : wr.grownBy w' (some g)) (hL : L ≤ g) (hw : w.heap.size ≤ g) (hs : sb < w.heap.size) (hr : ∀ k, rv.ownBlock = some k → k < w.heap.size) : TkW B L w w' sb ob rv rows := by
  obtain ⟨us, hs1, hl⟩ := h.sum
  exact ⟨⟨us, hs1.far hg hl hL (by omega) (fun e => by have := hr g e; omega), hl⟩, h.frm.trans (Frm.of_grown (S := fun k => k = g) hg fun x e => by simpa using e.symm) fun x hx e => by omega⟩

set_option maxRecDepth 100000 in
set_option maxHeartbeats 2000000 in
theorem take_any (B L sb ob : Nat) (p k0 k1 k2 key : Int) (sv rv : Value) (us : List Value) (rows : List (List Ft)) (w : World) (hs : SumW B w sb ob rv us rows) (hL : LocR L us rows) (hob : OrdB w ob p k0 k1 k2 sv) (hp : 2 ≤ p ∧ p ≤ 101) (hn : rows.length ≤ 1000) (hc : ∀ r ∈ rows, ∀ t ∈ r, 0 ≤ t.c ∧ t.c < p) :
    Calls Tryz.prog 102 #[.pointer (some ⟨sb, 0, none⟩), .int .i64 key] w fun e w' => e = .returned (.int .u8 (tkS key rows % p)) ∧ TkW B L w w' sb ob rv (tk key rows) := by
  have HS := hid hs
  have HOB := hid hob
  have HC := hid hc
  have HAP := hid (hs.ob_apart hob)
  have hq := sum_bd key hp rows hc
  have HBD := hid hq
  obtain ⟨hp0, hp1⟩ := hp
  have H0 : Hid (TkW B L w w sb ob rv (tkM key rows 0)) := by
    show TkW _ _ _ _ _ _ _ _
    have e : tkM key rows 0 = rows := by simp [tkM, tk]
    rw [e]; exact ⟨⟨us, hs, hL⟩, Frm.refl _ _⟩
  obtain ⟨q0, q1, q2⟩ := hs.cells
  obtain ⟨ra, rc, rfl⟩ := own_sl hs.rws.own
  clear hs hL hob hc hq
  go_enter Tryz.func102, Tryz.ntmps102
  go_wp2
  clear q0 q1 q2
  go_loopw [5, 13] (fun s i wr => ∃ m : Nat, m ≤ rows.length ∧ i = .int .i64 m ∧ s = .int .u32 (tkS key (rows.take m)) ∧ TkW B L w wr sb ob (.slice ra rows.length rc) (tkM key rows m)) (fun _ i _ => rows.length - (intOf i).toNat)
  case atStart => exact ⟨0, Nat.zero_le _, rfl, by simp [tkS], H0.out⟩
  case round =>
    clear H0
    obtain ⟨m, hm, rfl, rfl, ht⟩ := hrel
    have HT := hid ht
    obtain ⟨us1, hs1, hl1⟩ := ht.sum
    have HL1 := hid hl1
    have HS1 := hid hs1
    obtain ⟨x0, x1, x2⟩ := hs1.cells
    clear ht hs1 hl1
    by_cases hm2 : m < rows.length
    · have hml : m < (tkM key rows m).length := by rw [tkM_len]; exact hm2
      obtain ⟨g, c, e, _, hlt, z1, z2⟩ := HS1.out.rws.at m hml
      simp only [Value.slice.injEq] at e
      obtain ⟨rfl, _, rfl⟩ := e
      have hfv := HS1.out.rws.fvs m hml
      rw [tkM_at key rows m hm2] at hfv
      have HSET := hid (tkM_set key rows m hm2)
      have HSAME := hid (tkM_same key rows m hm2)
      have HSUC := hid (tkS_succ key rows m hm2)
      have hb0 := sum_bd key ⟨hp0, hp1⟩ (rows.take m) fun r hr => HC.out r (List.mem_of_mem_take hr)
      have hlm : ((rows.take m).length : Int) ≤ 1000 := by rw [List.length_take]; omega
      have hrow : ∀ t ∈ rows.getD m [], 0 ≤ t.c ∧ t.c < p := fun t ht => by
        rcases getD_mem_or rows m with h | h
        · rw [h] at ht; simp at ht
        · exact HC.out _ h t ht
      have hvl := HL1.out m hml
      rw [tkM_at key rows m hm2] at hvl
      generalize us1.getD m nilV = u at hfv z1 hvl
      generalize rows.getD m [] = row at hfv HSET HSAME HSUC hrow hvl
      generalize tkS key (rows.take m) = acc at HSUC hb0
      cases row with
      | nil =>
        obtain ⟨a, cap, rfl, _, _⟩ := hfv
        go_wp2
        go_roundw
        case rel => exact ⟨m + 1, by omega, by go_num, by rw [HSUC.out]; simp [tkC], by rw [HSAME.out rfl]; exact HT.out⟩
        case measure => simp [intOf]; omega
      | cons t ts =>
        obtain ⟨b, of2, cap, rfl, hcap, hlt2, hft, h1, h2⟩ := hfv.head
        obtain ⟨f0, f1, f2, f3, f4, f5, f6⟩ := hft
        have htc := hrow t (by simp)
        have hle : (1 : Int) ≤ (ts.length : Int) + 1 := by omega
        obtain ⟨A, hA, hplA⟩ := Fv.tail ⟨h1, h2⟩
        have HPA := hid hplA
        have HVA : Hid (VLt L (.slice (some A) ts.length (cap - 1))) := fun g hg => by
          have hb2 := hvl (by simp) b rfl
          simp only [Value.ownBlock, Option.some.injEq] at hg
          have : A.block = b := by
            by_cases hc1 : cap = 1
            · rw [if_pos hc1] at hA; simp only [Option.some.injEq] at hA; rw [← hA]
            · rw [if_neg hc1] at hA; simp only [Option.some.injEq] at hA; rw [← hA]
          omega
        clear hfv hrow h1 h2 hplA hvl
        by_cases hk : t.k = key
        · have w32 : IntKind.u32.wrap (acc + t.c) = acc + t.c := by rw [IntKind.wrap_u32]; omega
          have w32c : IntKind.u32.wrap t.c = t.c := by rw [IntKind.wrap_u32]; omega
          go_wp2
          go_region
          all_goals
            have HTD := hid (HT.out.next (Below.refl wr.heap.size wr).drew)
            have HP := hid (HTD.out.put m hml _ ts (HPA.out.below (Below.refl wr.heap.size wr).drew) HVA.out)
            go_wp2
            go_roundw
            case rel => exact ⟨m + 1, by omega, by go_num, by rw [HSUC.out]; simp [tkC, hk], by rw [← HSET.out]; simp only [tk1, if_pos hk]; exact HP.out⟩
            case measure => simp [intOf]; omega
        · have HK := hid hk
          go_wp2
          go_roundw
          case rel => exact ⟨m + 1, by omega, by go_num, by rw [HSUC.out]; simp [tkC, HK.out], by rw [HSAME.out (by simp [tk1, HK.out])]; exact HT.out⟩
          case measure => simp [intOf]; omega
    · have e : m = rows.length := by omega
      subst e
      have HO2 := hid (HOB.out.frm HT.out.frm HAP.out)
      have c0 := HO2.out.c0
      rw [List.take_of_length_le (Nat.le_refl _)]
      have HB2 := HBD.out
      have hm0 := Int.emod_nonneg (tkS key rows) (show p ≠ 0 by omega)
      have hm1 := Int.emod_lt_of_pos (tkS key rows) (show 0 < p by omega)
      have w8 : IntKind.u8.wrap (tkS key rows % p) = tkS key rows % p := by rw [IntKind.wrap_u8]; omega
      have hfin : tkM key rows rows.length = tk key rows := by simp [tkM]
      rw [hfin] at HT
      go_wp2
      go_ret
      exact ⟨rfl, HT.out⟩
def lenC : Option Value → Nat
  | some (.slice _ k _) => k
  | _ => 0
def cellLen (w : World) : Value → Nat
  | .slice (some ⟨b, off, _⟩) n _ => ((List.range n).map fun i => lenC (w.cell? ⟨b, off + i, none⟩)).sum
  | _ => 0
theorem tot_range (rows : List (List Ft)) : ((List.range rows.length).map fun i => (rows.getD i []).length).sum = tot rows := by
  unfold tot
  congr 1
  apply List.ext_getElem
  · simp
  · intro i h1 h2
    simp at h1
    simp [List.getD_eq_getElem?_getD, h1]
theorem RowsW.total {B : Nat} {w : World} {v : Value} {us : List Value} {rows : List (List Ft)} (h : RowsW B w v us rows) : cellLen w v = tot rows := by
  rcases h.own.2 with ⟨rfl, h0⟩ | ⟨g, cap, cur, rfl, _⟩
  · rw [List.length_eq_zero_iff] at h0
    subst h0; rfl
  · simp only [cellLen]
    rw [← tot_range rows]
    congr 1
    refine List.map_congr_left fun i hi => ?_
    rw [List.mem_range] at hi
    obtain ⟨g2, c2, e, _, _, hc, _⟩ := h.at i hi
    simp only [Value.slice.injEq, Option.some.injEq, Addr.mk.injEq, true_and, and_true] at e
    obtain ⟨rfl, _⟩ := e
    rw [Nat.zero_add, hc]
    obtain ⟨a, c, e2, _⟩ := h.fvs i hi
    rw [e2]; rfl
structure NxW (p : Int) (B : Nat) (w wr : World) (sb ob : Nat) (rv : Value) (rows cur : List (List Ft)) : Prop where
  tk : TkW B w.heap.size w wr sb ob rv cur
  res : Bx w.heap.size wr w.heap.size ⟨0, 0, 0, 0, 0, 0, 0⟩
  go : ∀ r rows2, Nx p cur r rows2 → Nx p rows r rows2
  co : ∀ r ∈ cur, ∀ t ∈ r, 0 < t.c ∧ t.c < p
  dn : ∀ r ∈ cur, Dn r
  len : cur.length = rows.length
theorem NxW.next {p : Int} {B : Nat} {w wr w' : World} {sb ob : Nat} {rv : Value} {rows cur : List (List Ft)} (h : NxW p B w wr sb ob rv rows cur) (hb : Below wr.heap.size wr w') : NxW p B w w' sb ob rv rows cur :=
  ⟨h.tk.next hb, h.res.below hb, h.go, h.co, h.dn, h.len⟩
theorem TkW.trans {B L L2 : Nat} {w w1 w2 : World} {sb ob : Nat} {rv : Value} {rows rows2 : List (List Ft)} (h : TkW B L2 w w1 sb ob rv rows) (k : TkW B L w1 w2 sb ob rv rows2) : TkW B L w w2 sb ob rv rows2 := ⟨k.sum, h.frm.trans k.frm fun _ _ h => h⟩
theorem bx_frm {B : Nat} {S : Nat → Prop} {w w' : World} {g : Nat} {t : Ft} (h : Bx B w g t) (hf : Frm S w w') (hn : ¬ S g) : Bx B w' g t := hf.own h fun k e => by
  simp only [Value.ownBlock, Option.some.injEq] at e; subst e; exact hn
set_option maxRecDepth 100000 in
set_option maxHeartbeats 2000000 in
theorem next_any (B sb ob : Nat) (p k0 k1 k2 : Int) (sv rv : Value) (us : List Value) (rows : List (List Ft)) (w : World) (hs : SumW B w sb ob rv us rows) (hob : OrdB w ob p k0 k1 k2 sv) (hp : 2 ≤ p ∧ p ≤ 101) (hn : rows.length ≤ 1000) (hc : ∀ r ∈ rows, ∀ t ∈ r, 0 < t.c ∧ t.c < p) (hd : ∀ r ∈ rows, Dn r) :
    Calls Tryz.prog 61 #[.pointer (some ⟨sb, 0, none⟩)] w fun e w' => ∃ r, e = .returned (.tuple #[ftV (grF r), .bool r.isSome]) ∧ ∃ rows2, Nx p rows r rows2 ∧ TkW B w.heap.size w w' sb ob rv rows2 := by
  have HOB := hid hob
  have HAP := hid (hs.ob_apart hob)
  have HRL : Hid (∀ g, rv.ownBlock = some g → g < w.heap.size) := fun g hg => (World.ownsRow.lt hs.rws.own g hg).2
  have HSL := hid hs.lt.2
  obtain ⟨w0, hw0⟩ : ∃ w0, w0 = w.alloc (.cells #[.int .i64 0, .int .u16 0, .int .u16 0, .int .u16 0, .int .u16 0, .int .u8 0, .int .u8 0] 52) := ⟨_, rfl⟩
  have H0 : Hid (NxW p B w w0 sb ob rv rows rows) := by
    show NxW _ _ _ _ _ _ _ _ _
    rw [hw0]
    exact ⟨⟨⟨us, hs.next belowNew, hs.loc⟩, Frm.of_below belowNew⟩, Bx.new w _ (Nat.le_refl _), fun _ _ h => h, hc, hd, rfl⟩
  clear hs hob hc hd
  go_enter Tryz.func61, Tryz.ntmps61
  go_wp2_with fail
  rw [← hw0]
  clear hw0
  go_loopw [3] (fun f wr => f = .bool false ∧ ∃ cur, NxW p B w wr sb ob rv rows cur) (fun _ wr => cellLen wr rv)
  case atStart => exact ⟨rfl, rows, H0.out⟩
  case round =>
    clear H0
    obtain ⟨rfl, cur, ht⟩ := hrel
    have HT := hid ht
    obtain ⟨us1, hs1, _⟩ := ht.tk.sum
    obtain ⟨x0, x1, x2⟩ := hs1.cells
    have HG := hid (greatest_any sb rv cur wr hs1.lt.2 x1 hs1.rws.rws (by rw [ht.len]; exact hn))
    have HTOT := hid hs1.rws.total
    clear ht hs1 x0 x1 x2
    cases hgr : grt cur with
    | none =>
      have HGR := hid hgr
      rw [hgr] at HG
      simp only [grF, ftV, Option.getD_none, Option.isSome_none] at HG
      clear hgr
      go_upto_region 2 with (go_at_call 101; refine HG.out.mono ?_; rintro e w1 ⟨rfl, hb1⟩; have HT1 := hid (HT.out.next hb1); have HBX := hid (Bx.new w1 w.heap.size HT1.out.tk.frm.size); obtain ⟨y0, y1, y2, y3, y4, y5, y6⟩ := HBX.out.at; have z0 := World.ownsRow.frozenAt HBX.out 0; have z1 := World.ownsRow.frozenAt HBX.out 1; have z2 := World.ownsRow.frozenAt HBX.out 2; have z3 := World.ownsRow.frozenAt HBX.out 3; have z4 := World.ownsRow.frozenAt HBX.out 4; have z5 := World.ownsRow.frozenAt HBX.out 5; have z6 := World.ownsRow.frozenAt HBX.out 6; simp only [Nat.zero_add] at y0 y1 y2 y3 y4 y5 y6; clear hb1)
      obtain ⟨wq, hwq⟩ : ∃ wq, wq = w1.alloc (.cells #[.int .i64 0, .int .u16 0, .int .u16 0, .int .u16 0, .int .u16 0, .int .u8 0, .int .u8 0] 52) := ⟨_, rfl⟩
      have HQ : Hid (NxW p B w wq sb ob rv rows cur ∧ Bx w.heap.size wq w1.heap.size ⟨0, 0, 0, 0, 0, 0, 0⟩ ∧ w.heap.size < w1.heap.size ∧ cellLen wq rv = tot cur) := by
        show _ ∧ _ ∧ _ ∧ _
        rw [hwq]
        obtain ⟨us2, hs2, _⟩ := (HT1.out.next (belowNew (A := .cells #[.int .i64 0, .int .u16 0, .int .u16 0, .int .u16 0, .int .u16 0, .int .u8 0, .int .u8 0] 52))).tk.sum
        exact ⟨HT1.out.next belowNew, box7 HT1.out.tk.frm.size ⟨0, 0, 0, 0, 0, 0, 0⟩, (World.ownsRow.lt HT1.out.res _ rfl).2, hs2.rws.total⟩
      rw [← hwq]
      clear hwq HBX y0 y1 y2 y3 y4 y5 y6 z0 z1 z2 z3 z4 z5 z6
      have HLT2 := HQ.out.2.2.1
      obtain ⟨v0, v1, v2, v3, v4, v5, v6⟩ := HQ.out.1.res.at
      have r0 := World.ownsRow.frozenAt HQ.out.1.res 0
      have r1 := World.ownsRow.frozenAt HQ.out.1.res 1
      have r2 := World.ownsRow.frozenAt HQ.out.1.res 2
      have r3 := World.ownsRow.frozenAt HQ.out.1.res 3
      have r4 := World.ownsRow.frozenAt HQ.out.1.res 4
      have r5 := World.ownsRow.frozenAt HQ.out.1.res 5
      have r6 := World.ownsRow.frozenAt HQ.out.1.res 6
      simp only [Nat.zero_add] at v0 v1 v2 v3 v4 v5 v6
      have HP := hid (HQ.out.1.res.put ⟨0, 0, 0, 0, 0, 0, 0⟩)
      have hpat := HP.out.1.at
      have HPT := hid (HQ.out.1.tk.far HP.out.2 (Nat.le_refl _) (Nat.le_refl _) HSL.out HRL.out)
      unfold lay7 at hpat HPT
      obtain ⟨s0, s1, s2, s3, s4, s5, s6⟩ := hpat
      simp only [Nat.zero_add] at s0 s1 s2 s3 s4 s5 s6
      go_wp2
      refine bodyPost_ret (v := .tuple #[ftV (grF none), .bool false]) (by simp [results, Tryz.results61, go_sem, s0, s1, s2, s3, s4, s5, s6, ftV, grF]) rfl ⟨none, rfl, cur, HQ.out.1.go _ _ (Nx.stop cur HGR.out), HPT.out⟩
    | some t =>
      have HGR := hid hgr
      rw [hgr] at HG
      simp only [grF, ftV, Option.getD_some, Option.isSome_some] at HG
      clear hgr
      go_upto_region 2 with (go_at_call 101; refine HG.out.mono ?_; rintro e w1 ⟨rfl, hb1⟩; have HT1 := hid (HT.out.next hb1); have HBX := hid (Bx.new w1 w.heap.size HT1.out.tk.frm.size); obtain ⟨y0, y1, y2, y3, y4, y5, y6⟩ := HBX.out.at; have z0 := World.ownsRow.frozenAt HBX.out 0; have z1 := World.ownsRow.frozenAt HBX.out 1; have z2 := World.ownsRow.frozenAt HBX.out 2; have z3 := World.ownsRow.frozenAt HBX.out 3; have z4 := World.ownsRow.frozenAt HBX.out 4; have z5 := World.ownsRow.frozenAt HBX.out 5; have z6 := World.ownsRow.frozenAt HBX.out 6; simp only [Nat.zero_add] at y0 y1 y2 y3 y4 y5 y6; clear hb1)
      obtain ⟨wq, hwq⟩ : ∃ wq, wq = w1.alloc (.cells #[.int .i64 t.k, .int .u16 t.a, .int .u16 t.b, .int .u16 t.d, .int .u16 t.z, .int .u8 t.pl, .int .u8 t.c] 52) := ⟨_, rfl⟩
      have HQ : Hid (NxW p B w wq sb ob rv rows cur ∧ Bx w.heap.size wq w1.heap.size t ∧ w.heap.size < w1.heap.size ∧ cellLen wq rv = tot cur) := by
        show _ ∧ _ ∧ _ ∧ _
        rw [hwq]
        obtain ⟨us2, hs2, _⟩ := (HT1.out.next (belowNew (A := .cells #[.int .i64 t.k, .int .u16 t.a, .int .u16 t.b, .int .u16 t.d, .int .u16 t.z, .int .u8 t.pl, .int .u8 t.c] 52))).tk.sum
        exact ⟨HT1.out.next belowNew, box7 HT1.out.tk.frm.size t, (World.ownsRow.lt HT1.out.res _ rfl).2, hs2.rws.total⟩
      rw [← hwq]
      clear hwq HBX y0 y1 y2 y3 y4 y5 y6 z0 z1 z2 z3 z4 z5 z6
      have HLT2 := HQ.out.2.2.1
      have HTA : Hid (Calls Tryz.prog 102 #[.pointer (some ⟨sb, 0, none⟩), .int .i64 t.k] wq fun e w' => e = .returned (.int .u8 (tkS t.k cur % p)) ∧ TkW B w.heap.size wq w' sb ob rv (tk t.k cur)) := by
        obtain ⟨us2, hs2, hl2⟩ := HQ.out.1.tk.sum
        exact take_any B w.heap.size sb ob p k0 k1 k2 t.k sv rv us2 cur wq hs2 hl2 (HOB.out.frm HQ.out.1.tk.frm HAP.out) hp (by rw [HQ.out.1.len]; exact hn) fun r hr t ht => by have := HQ.out.1.co r hr t ht; omega
      obtain ⟨b0, b1, b2, b3, b4, b5, b6⟩ := HQ.out.2.1.at
      simp only [Nat.zero_add] at b0 b1 b2 b3 b4 b5 b6
      have hmem := (grt_some HQ.out.1.dn HGR.out).1
      have HMEM := hid hmem
      obtain ⟨t2, ht2⟩ : ∃ t2 : Ft, t2 = { t with c := tkS t.k cur % p } := ⟨_, rfl⟩
      have HT2 := hid ht2
      have hcd : tkS t.k cur % p = t2.c := by rw [ht2]
      have HCD := hid hcd
      have HEN : Hid ((encF t).set 6 (.int .u8 t2.c) = encF t2) := by show _ = _; rw [ht2]; rfl
      rw [hcd] at HTA
      clear hmem hcd ht2
      have STEP : Hid (∀ w3, TkW B w.heap.size wq w3 sb ob rv (tk t.k cur) → TkW B w.heap.size w w3 sb ob rv (tk t.k cur) ∧ Bx w.heap.size w3 w1.heap.size t ∧ Bx w.heap.size w3 w.heap.size ⟨0, 0, 0, 0, 0, 0, 0⟩) := fun w3 h3 =>
        ⟨HQ.out.1.tk.trans h3, bx_frm HQ.out.2.1 h3.frm (fun e => by have := HRL.out _ e; omega), bx_frm HQ.out.1.res h3.frm (fun e => by have := HRL.out _ e; omega)⟩
      go_upto_region 5 with (go_at_call 102; refine HTA.out.mono ?_; rintro e w3 ⟨rfl, h3⟩; have H3 := hid (STEP.out w3 h3); clear h3; have d6 := (H3.out.2.1.at).2.2.2.2.2.2; have f6 := World.ownsRow.frozenAt H3.out.2.1 6; simp only [Nat.zero_add] at d6)
      have s6 := World.ownsRow.stored H3.out.2.1 6 (.int .u8 t2.c)
      obtain ⟨w4, hw4⟩ : ∃ w4, w4 = w3.setCell ⟨w1.heap.size, 6, none⟩ (.int .u8 t2.c) := ⟨_, rfl⟩
      have H4 : Hid (TkW B w.heap.size w w4 sb ob rv (tk t.k cur) ∧ Bx w.heap.size w4 w1.heap.size t2 ∧ Bx w.heap.size w4 w.heap.size ⟨0, 0, 0, 0, 0, 0, 0⟩) := by
        show _ ∧ _ ∧ _
        rw [hw4]
        exact ⟨H3.out.1.far s6.2 (by omega) (by omega) HSL.out HRL.out, by have := s6.1; rw [HEN.out] at this; exact this, World.ownsRow.kept H3.out.2.2 s6.2 (Or.inr (by simp [Value.ownBlock]; omega))⟩
      rw [← hw4]
      clear hw4 s6 d6 f6
      obtain ⟨e0, e1, e2, e3, e4, e5, e6⟩ := H4.out.2.1.at
      simp only [Nat.zero_add] at e0 e1 e2 e3 e4 e5 e6
      by_cases hz : t2.c = 0
      · have HZ := hid hz
        go_wp2
        go_roundw
        case rel =>
          refine ⟨rfl, tk t.k cur, H4.out.1, H4.out.2.2, fun r rows2 h => HQ.out.1.go _ _ (Nx.go cur rows2 t r HGR.out (HCD.out.trans HZ.out) h), fun r hr x hx => ?_, fun r hr => ?_, ?_⟩
          · obtain ⟨r0, h0, rfl⟩ := List.mem_map.1 hr
            exact HQ.out.1.co r0 h0 x (tk1_sub _ r0 x hx)
          · obtain ⟨r0, h0, rfl⟩ := List.mem_map.1 hr
            exact tk1_dn (HQ.out.1.dn r0 h0)
          · have := HQ.out.1.len; simp [tk, this]
        case measure =>
          obtain ⟨us4, hs4, _⟩ := H4.out.1.sum
          have h4 := hs4.rws.total
          obtain ⟨ts, hm⟩ := HMEM.out
          have h5 := tk_tot_lt hm
          have h6 := HTOT.out
          omega
      · have HZ := hid hz
        go_upto_region 6 with fail
        obtain ⟨v0, v1, v2, v3, v4, v5, v6⟩ := H4.out.2.2.at
        have r0 := World.ownsRow.frozenAt H4.out.2.2 0
        have r1 := World.ownsRow.frozenAt H4.out.2.2 1
        have r2 := World.ownsRow.frozenAt H4.out.2.2 2
        have r3 := World.ownsRow.frozenAt H4.out.2.2 3
        have r4 := World.ownsRow.frozenAt H4.out.2.2 4
        have r5 := World.ownsRow.frozenAt H4.out.2.2 5
        have r6 := World.ownsRow.frozenAt H4.out.2.2 6
        simp only [Nat.zero_add] at v0 v1 v2 v3 v4 v5 v6
        have HP := hid (H4.out.2.2.put t2)
        have hpat := HP.out.1.at
        have HPT := hid (H4.out.1.far HP.out.2 (Nat.le_refl _) (Nat.le_refl _) HSL.out HRL.out)
        unfold lay7 at hpat HPT
        obtain ⟨s0, s1, s2, s3, s4, s5, s6⟩ := hpat
        simp only [Nat.zero_add] at s0 s1 s2 s3 s4 s5 s6
        have HNX := hid (HQ.out.1.go _ _ (Nx.hit cur t HGR.out (by rw [HCD.out]; exact HZ.out)))
        rw [← HT2.out] at HNX
        go_wp2
        refine bodyPost_ret (v := .tuple #[ftV (grF (some t2)), .bool true]) (by simp [results, Tryz.results61, go_sem, s0, s1, s2, s3, s4, s5, s6, ftV, grF]) rfl ⟨some t2, rfl, _, HNX.out, HPT.out⟩
theorem bitLen_le (f : Nat) : ∀ x, Lib.bitLenAux f x ≤ f := by
  induction f with
  | zero => intro x; simp [Lib.bitLenAux]
  | succ f ih =>
    intro x
    simp only [Lib.bitLenAux]
    split
    · omega
    · have := ih (x / 2); omega
theorem bitLen64 (x : Nat) : Lib.bitLen x ≤ 64 := bitLen_le 64 x
theorem cnt_set (k : Int) (f : List Ft) : ∀ (rows : List (List Ft)) (a : Nat), a < rows.length → cnt k (rows.set a f).flatten = cnt k rows.flatten - cnt k (rows.getD a []) + cnt k f
  | [], a, h => by simp at h
  | r :: rows, 0, h => by
    simp only [List.set_cons_zero, List.flatten_cons, cnt_append, List.getD_cons_zero]; omega
  | r :: rows, a + 1, h => by
    have := cnt_set k f rows a (by simpa using h)
    simp only [List.set_cons_succ, List.flatten_cons, cnt_append, List.getD_cons_succ]; omega
theorem tot_set (f : List Ft) : ∀ (rows : List (List Ft)) (a : Nat), a < rows.length → tot (rows.set a f) + (rows.getD a []).length = tot rows + f.length
  | [], a, h => by simp at h
  | r :: rows, 0, h => by
    simp only [tot, List.set_cons_zero, List.map_cons, List.sum_cons, List.getD_cons_zero]; omega
  | r :: rows, a + 1, h => by
    have := tot_set f rows a (by simpa using h)
    simp only [tot, List.set_cons_succ, List.map_cons, List.sum_cons, List.getD_cons_succ] at this ⊢; omega
theorem Rok.set {p : Int} {G : Ft → Prop} {rows : List (List Ft)} {f : List Ft} (h : Rok p G rows) (hf : Rok p G [f]) (a : Nat) : Rok p G (rows.set a f) := by
  refine ⟨fun r hr => ?_, fun r hr => ?_, fun r hr => ?_⟩ <;> rcases List.mem_or_eq_of_mem_set hr with hr | rfl
  · exact h.dn r hr
  · exact hf.dn r (by simp)
  · exact h.co r hr
  · exact hf.co r (by simp)
  · exact h.gd r hr
  · exact hf.gd r (by simp)
theorem Rok.nil (p : Int) (G : Ft → Prop) : Rok p G [[]] := ⟨fun r hr => by simp at hr; subst hr; exact List.Pairwise.nil, fun r hr t ht => by simp at hr; subst hr; simp at ht, fun r hr t ht => by simp at hr; subst hr; simp at ht⟩
theorem Rok.append {p : Int} {G : Ft → Prop} {a b : List (List Ft)} (h : Rok p G a) (k : Rok p G b) : Rok p G (a ++ b) := by
  refine ⟨fun r hr => ?_, fun r hr => ?_, fun r hr => ?_⟩ <;> rcases List.mem_append.1 hr with hr | hr
  · exact h.dn r hr
  · exact k.dn r hr
  · exact h.co r hr
  · exact k.co r hr
  · exact h.gd r hr
  · exact k.gd r hr
theorem Rok.getD {p : Int} {G : Ft → Prop} {rows : List (List Ft)} (h : Rok p G rows) (a : Nat) : Rok p G [rows.getD a []] := by
  rcases getD_mem_or rows a with e | hm
  · rw [e]; exact Rok.nil p G
  · exact ⟨fun r hr => by simp at hr; subst hr; exact h.dn _ (by simpa using hm), fun r hr => by simp at hr; subst hr; exact h.co _ (by simpa using hm), fun r hr => by simp at hr; subst hr; exact h.gd _ (by simpa using hm)⟩
theorem Rok.merge {p : Int} {G : Ft → Prop} (hp : 2 ≤ p) (hG : ∀ x t, Alk x t → G t → G x) {f g : List Ft} (h : Rok p G [f]) (k : Rok p G [g]) : Rok p G [mergeK p f g] := by
  have hm := mergeK_mem p hp f g (h.co f (by simp)) (k.co g (by simp))
  refine ⟨fun r hr => ?_, fun r hr t ht => ?_, fun r hr t ht => ?_⟩ <;> (rw [List.mem_singleton] at hr; subst hr)
  · exact mergeK_dn p f g (h.dn f (by simp)) (k.dn g (by simp))
  · exact (hm t ht).2
  · obtain ⟨⟨u, hu, ha⟩, _⟩ := hm t ht
    rcases hu with hu | hu
    · exact hG t u ha (h.gd f (by simp) u hu)
    · exact hG t u ha (k.gd g (by simp) u hu)
theorem Tryz.infoFv : (Tryz.prog.info? 64).map (fun i => (i.zero, i.size, i.bytes)) = some (some (.slice none 0 0), 1, 24) := by kernel_rfl
structure AdW (p : Int) (G : Ft → Prop) (B : Nat) (w wr : World) (sb ob : Nat) (rv0 rv : Value) (rows0 : List (List Ft)) (f0 : List Ft) (rows : List (List Ft)) (v : Value) (f : List Ft) : Prop where
  sum : ∃ us, SumW B wr sb ob rv us rows
  frm : Frm (SFp sb rv0) w wr
  loc : ∀ k, rv.ownBlock = some k → k < w.heap.size → rv0.ownBlock = some k
  fv : Fv wr v f
  ok : Rok p G rows
  okf : Rok p G [f]
  cn : ∀ k, p ∣ cnt k rows.flatten + cnt k f - (cnt k rows0.flatten + cnt k f0)
theorem AdW.next {p : Int} {G : Ft → Prop} {B : Nat} {w wr w' : World} {sb ob : Nat} {rv0 rv : Value} {rows0 rows : List (List Ft)} {f0 f : List Ft} {v : Value} (h : AdW p G B w wr sb ob rv0 rv rows0 f0 rows v f) (hb : Below wr.heap.size wr w') : AdW p G B w w' sb ob rv0 rv rows0 f0 rows v f := by
  obtain ⟨us, hs⟩ := h.sum
  exact ⟨⟨us, hs.next hb⟩, h.frm.trans (Frm.of_below (S := fun _ => False) hb) (fun _ _ h => h.elim), h.loc, h.fv.below hb, h.ok, h.okf, h.cn⟩
theorem AdW.merge {p : Int} {G : Ft → Prop} {B : Nat} {w wr : World} {sb ob g n c : Nat} {rv0 : Value} {rows0 rows : List (List Ft)} {f0 f : List Ft} {v v2 : Value} (hp : 2 ≤ p) (hG : ∀ x t, Alk x t → G t → G x) (h : AdW p G B w wr sb ob rv0 (.slice (some ⟨g, 0, none⟩) n c) rows0 f0 rows v f) (a : Nat) (ha : a < rows.length) (hv : Fv wr v2 (mergeK p f (rows.getD a []))) :
    AdW p G B w (wr.setCell ⟨g, a, none⟩ (.slice none 0 0)) sb ob rv0 (.slice (some ⟨g, 0, none⟩) n c) rows0 f0 (rows.set a []) v2 (mergeK p f (rows.getD a [])) := by
  obtain ⟨us, hs⟩ := h.sum
  have s := hs.put a ha (.slice none 0 0) [] (fv_nil none 0)
  have hf : Frm (fun k => k = g) wr (wr.setCell ⟨g, a, none⟩ (.slice none 0 0)) := Frm.of_grown s.2 fun x e => by simpa using e.symm
  refine ⟨⟨_, s.1⟩, h.frm.trans hf fun x hx e => ?_, h.loc, fv_frm hf (fun k e => by subst e; exact slk_nou (hs.rws.kind _ rfl)) hv, h.ok.set (Rok.nil p G) a, h.okf.merge hp hG (h.ok.getD a), fun k => ?_⟩
  · subst e; exact Or.inr (h.loc _ rfl hx)
  · rw [cnt_set k [] rows a ha]
    obtain ⟨m, hm⟩ := mergeK_cnt p k f (rows.getD a [])
    obtain ⟨q, hq⟩ := h.cn k
    exact ⟨m + q, by simp only [cnt]; rw [Int.mul_add]; omega⟩
theorem AdW.grow {p : Int} {G : Ft → Prop} {B : Nat} {w wr w2 : World} {sb ob : Nat} {rv0 rv v2 : Value} {us : List Value} {rows0 rows : List (List Ft)} {f0 f : List Ft} {v : Value} (h : AdW p G B w wr sb ob rv0 rv rows0 f0 rows v f) (hs : SumW B wr sb ob rv us rows)
    (h2 : w2.ownsRow B 64 1 v2 (rows.length + 1) (us ++ [.slice none 0 0])) (g2 : wr.grownBy w2 rv.ownBlock) (k2 : ∀ g, v2.ownBlock = some g → SlK w2 g) (l2 : v2.ownBlock = rv.ownBlock ∨ v2.ownBlock = some wr.heap.size) :
    AdW p G B w (w2.setCell ⟨sb, 1, none⟩ v2) sb ob rv0 v2 rows0 f0 (rows ++ [[]]) v f := by
  have hg := hs.grow (fv_nil none 0) h2 g2 k2
  have hf : Frm (SFp sb rv) wr (w2.setCell ⟨sb, 1, none⟩ v2) := by
    have hb2 := World.ownsRow.kept hs.box g2 (Or.inr (by simpa [Value.ownBlock] using fun e => hs.apart e.symm))
    have s := World.ownsRow.stored hb2 1 v2
    exact (Frm.of_grown (S := SFp sb rv) g2 fun x e => Or.inr e).trans (Frm.of_grown (S := fun k => k = sb) s.2 fun x e => by simpa using e.symm) fun x _ e => Or.inl e
  refine ⟨⟨_, hg⟩, h.frm.trans hf fun x hx e => ?_, fun k hk hlt => ?_, fv_frm hf (fun k e => ?_) h.fv, h.ok.append (Rok.nil p G), h.okf, fun k => ?_⟩
  · rcases e with e | e
    · exact Or.inl e
    · exact Or.inr (h.loc x e hx)
  · rcases l2 with l2 | l2
    · exact h.loc k (by rw [← l2]; exact hk) hlt
    · rw [l2] at hk
      simp only [Option.some.injEq] at hk
      have := h.frm.size; omega
  · rcases e with e | e
    · subst e; exact hs.kind
    · exact slk_nou (hs.rws.kind k e)
  · have := h.cn k
    rw [List.flatten_append, cnt_append]
    simpa [cnt] using this
theorem wpList_append_rows {ops : Array Oper} {rest : List Oper} {w : World} {o : Oper} {a : Act} {Q : Exit → Act → World → Prop} (hgd : o.guard = none) (s x : Operand) (t : TypeId)
    (ho : o.op = .call { callee := .builtin .append, args := #[s, x], argTypes := #[t, t] }) (ht : Tryz.prog.underlying t = some (.slice 64))
    (B : Nat) (v : Value) (us : List Value) (rows : List (List Ft)) (hs : a.eval s = v) (h : RowsW B w v us rows) (ad : Addr) (c : Nat) (hx : a.eval x = .slice (some ad) 1 c)
    (hnew : ∀ j y, [Value.slice none 0 0][j]? = some y → w.cell? (ad.add j) = some y) (hn : rows.length ≤ 1000) (hB : B ≤ w.heap.size)
    (hK : ∀ v' w', w'.ownsRow B 64 1 v' (rows.length + 1) (us ++ [.slice none 0 0]) → w.grownBy w' v.ownBlock → (∀ g, v'.ownBlock = some g → SlK w' g) → (v'.ownBlock = v.ownBlock ∨ v'.ownBlock = some w.heap.size) → wpList Tryz.prog ops Q rest (a.put o.dst v') w') : wpList Tryz.prog ops Q (o :: rest) a w := by
  refine wpList_plain hgd fun K hK' => ?_
  obtain ⟨i0, hi, hz0, hz1, hz2⟩ := info_parts Tryz.infoFv
  obtain ⟨v', w', hr, h2, h3, h4, h5⟩ := run_append_kdb (P := Tryz.prog) w (fun u => ∃ a n c, u = .slice a n c) B t o.type 64 i0 _ 1 24 ht hi hz0 hz1 hz2 rfl (by decide) (fun u hu => by simp [Value.cells] at hu; exact ⟨_, _, _, hu⟩) v rows.length us h.own h.kind ad 1 c [.slice none 0 0] (by decide) rfl hnew (fun u hu => by rw [List.mem_singleton] at hu; subst hu; rfl) (fun u hu => by rw [List.mem_singleton] at hu; exact ⟨_, _, _, hu⟩) (by unfold maxLen; omega) (by omega) hB
  unfold Oper.wp execOp
  simp only [ho, resolve, invoke, builtin, Sem.run_bind, Sem.run_pure, Result.andThen_ok, List.map_toArray, List.map_cons, List.map_nil, hs, hx, hr]
  exact hK' _ _ (hK v' w' h2 h3 h4 h5)
end Go.Proofs.YtilogbggilchaaaGreat
