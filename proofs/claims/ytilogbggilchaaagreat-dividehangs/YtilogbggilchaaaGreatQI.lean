/- What holds from round to round of the division: the sum beside the reference's vector. -/
import Derived.Test.YtilogbggilchaaaGreatQE
namespace Go.Proofs.YtilogbggilchaaaGreat
set_option linter.unusedSimpArgs false
set_option linter.unusedVariables false
open Go.RowKit
theorem idx_inj {a b c d a2 b2 c2 d2 : Int} (h0 : 0 ≤ a) (h1 : 0 ≤ b) (h2 : 0 ≤ c) (h3 : 0 ≤ d) (h4 : b + c + d ≤ 400) (g0 : 0 ≤ a2) (g1 : 0 ≤ b2) (g2 : 0 ≤ c2) (g3 : 0 ≤ d2) (g4 : b2 + c2 + d2 ≤ 400) (e : (a * 64481201 + (b * 160801 + (c * 401 + d))).toNat = (a2 * 64481201 + (b2 * 160801 + (c2 * 401 + d2))).toNat) : a = a2 ∧ b = b2 ∧ c = c2 ∧ d = d2 := by
  have q1 : 0 ≤ c * 401 + d ∧ c * 401 + d < 160801 := by omega
  have q2 : 0 ≤ c2 * 401 + d2 ∧ c2 * 401 + d2 < 160801 := by omega
  have q3 : 0 ≤ b * 160801 + (c * 401 + d) ∧ b * 160801 + (c * 401 + d) < 64481201 := by omega
  have q4 : 0 ≤ b2 * 160801 + (c2 * 401 + d2) ∧ b2 * 160801 + (c2 * 401 + d2) < 64481201 := by omega
  have e1 : a = a2 ∧ b * 160801 + (c * 401 + d) = b2 * 160801 + (c2 * 401 + d2) := by
    generalize b * 160801 + (c * 401 + d) = x at e q3
    generalize b2 * 160801 + (c2 * 401 + d2) = y at e q4
    omega
  have e2 : b = b2 ∧ c * 401 + d = c2 * 401 + d2 := by
    have := e1.2
    generalize c * 401 + d = x at this q1
    generalize c2 * 401 + d2 = y at this q2
    omega
  have e3 : c = c2 ∧ d = d2 := by omega
  exact ⟨e1.1, e2.1, e3.1, e3.2⟩
theorem gd_len {o ov : Int} {N R : Nat} (hR : R ≤ 40) : ∀ r, Dn r → (∀ t ∈ r, Gd o ov N R 400 t) → r.length ≤ 100000000000 := by
  intro r hd hg
  let idx : Ft → Nat := fun t => (t.pl * 64481201 + (t.a * 160801 + (t.b * 401 + t.d))).toNat
  have hn : (r.map idx).Nodup := by
    rw [List.nodup_iff_pairwise_ne, List.pairwise_map]
    refine List.Pairwise.imp_of_mem (R := fun a b : Ft => b.k < a.k) (fun {a b} ha hb hlt e => ?_) hd
    have ga := hg a ha
    have gb := hg b hb
    obtain ⟨k1, a1, b1, d1, s1, z1, p1, q1, _, _⟩ := ga
    obtain ⟨k2, a2, b2, d2, s2, z2, p2, q2, _, _⟩ := gb
    have e2 := idx_inj p1 a1 b1 d1 s1 p2 a2 b2 d2 s2 e
    have e3 : exs N a = exs N b := by unfold exs; rw [e2.2.1, e2.2.2.1, e2.2.2.2]
    rw [k1, k2, e3, e2.1] at hlt
    omega
  have hb : ∀ x ∈ r.map idx, x < 100000000000 := fun x hx => by
    obtain ⟨t, ht, rfl⟩ := List.mem_map.1 hx
    obtain ⟨k1, a1, b1, d1, s1, z1, p1, q1, _, _⟩ := hg t ht
    simp only [idx]
    omega
  have := nodup_le _ _ hn hb
  rwa [List.length_map] at this
structure PV (p o ov : Int) (N R : Nat) (r : Option Ft) (rows : List (List Ft)) (s : DS) : Prop where
  ok : Rok p (Gd o ov N R 400) rows
  none : r = none → leadF o ov s.v s.v.length = none
  some : ∀ t, r = some t → leadF o ov s.v s.v.length = some (t.pl.toNat, (t.c, exs N t)) ∧ Gd o ov N R 400 t ∧ 0 < t.c ∧ t.c < p ∧ ∀ k, p ∣ cnt k rows.flatten + (if k = t.k then t.c else 0) - cv o ov k s.v R
theorem nx_pv {p o ov : Int} {N R : Nat} (hx : RCx p o ov N R) {lss : List (List (List Tm))} {s : DS} (h : DInv p o ov N R lss s) {rows rows2 : List (List Ft)} {r : Option Ft} (hr : Rok p (Gd o ov N R 400) rows) (hrep : Rep p o ov R rows s.v) (hn : Nx p rows r rows2) : PV p o ov N R r rows2 s ∧ rows2.length = rows.length := by
  have hD : ∀ i, i < R → Dg ov i ≤ 16000 := fun i hi => by have := (Dg_bd (ov := ov) hx.r i hi).2; omega
  obtain ⟨hp1, hp2⟩ := errP_bd hx.pr
  obtain ⟨r1, r2, _⟩ := Nx.spec hp1 (G := Gd o ov N R 400) (fun x t => Gd.alk x t) hn hr
  refine ⟨⟨r1, fun e => ?_, fun t e => ?_⟩, r2⟩
  · subst e; exact ls_none hx h.vok h.vl hD hr hrep hn
  · subst e
    obtain ⟨a, _, _, b, c, d, e⟩ := ls_some hx (by omega) h.vok h.vl hD hr hrep hn
    exact ⟨a, b, c, d, e⟩
structure QS (tss : Bool → List (List TV)) (s : DS) : Prop where
  q : (tss true).map (List.map tm) = s.q
  l : (tss false).map (List.map tm) = s.l
def Sml (tss : Bool → List (List TV)) : Prop := ∀ s i, ((tss s).getD i []).length ≤ 2000 ∧ ∀ t ∈ (tss s).getD i [], sumI t.2.2 ≤ 200
def Grt (tss : Bool → List (List TV)) : Prop := ∃ s i, i < (tss s).length ∧ (2000 < ((tss s).getD i []).length ∨ ∃ t ∈ (tss s).getD i [], 200 < sumI t.2.2)
theorem map_setT (l : List (List TV)) (i : Nat) (x : TV) : (l.set i (l.getD i [] ++ [x])).map (List.map tm) = (l.map (List.map tm)).set i ((l.map (List.map tm)).getD i [] ++ [tm x]) := by
  rw [List.map_set]
  congr 1
  rw [List.map_append]
  congr 1
  by_cases h : i < l.length
  · simp [List.getD_eq_getElem?_getD, h]
  · simp [List.getD_eq_getElem?_getD, h]
theorem qs_left {tss : Bool → List (List TV)} {s s2 : DS} (h : QS tss s) {i N : Nat} {t : Ft} {ev : Value} (hq : s2.q = s.q) (hl : s2.l = s.l.set i (s.l.getD i [] ++ [(t.c, exs N t)])) : QS (gro tss false i t ev N) s2 := by
  refine ⟨?_, ?_⟩
  · unfold gro; rw [upd_ne _ _ (by decide), h.q, hq]
  · unfold gro; rw [upd_same, map_setT, h.l, hl]; rfl
theorem qs_taken {tss : Bool → List (List TV)} {s s2 : DS} (h : QS tss s) {i N : Nat} {t : Ft} {ev : Value} (hl : s2.l = s.l) (hq : s2.q = s.q.set i (s.q.getD i [] ++ [(t.c, exs N t)])) : QS (gro tss true i t ev N) s2 := by
  refine ⟨?_, ?_⟩
  · unfold gro; rw [upd_same, map_setT, h.q, hq]; rfl
  · unfold gro; rw [upd_ne _ _ (by decide), h.l, hl]
theorem gro_at (tss : Bool → List (List TV)) (s : Bool) (i : Nat) (t : Ft) (ev : Value) (N : Nat) (s' : Bool) (j : Nat) : (gro tss s i t ev N s').getD j [] = if s' = s ∧ i = j ∧ j < (tss s).length then (tss s).getD i [] ++ [(t.c, ev, exs N t)] else (tss s').getD j [] := by
  unfold gro
  by_cases e : s' = s
  · subst e; rw [upd_same, getD_set]
    by_cases e2 : i = j ∧ j < (tss s').length
    · rw [if_pos e2, if_pos ⟨rfl, e2⟩]
    · rw [if_neg e2, if_neg fun h => e2 h.2]
  · rw [upd_ne _ _ e, if_neg fun h => e h.1]
theorem gro_len (tss : Bool → List (List TV)) (s : Bool) (i : Nat) (t : Ft) (ev : Value) (N : Nat) (s' : Bool) : (gro tss s i t ev N s').length = (tss s').length := by
  unfold gro
  by_cases e : s' = s
  · subst e; rw [upd_same, List.length_set]
  · rw [upd_ne _ _ e]
theorem sml_gro {tss : Bool → List (List TV)} (h : Sml tss) {s : Bool} {i N : Nat} {t : Ft} {ev : Value} (hok : okG ((tss s).getD i []).length (exs N t) = true) : Sml (gro tss s i t ev N) := by
  simp only [okG, Bool.and_eq_true, decide_eq_true_eq] at hok
  intro s' j
  rw [gro_at]
  split
  · rw [List.length_append]
    refine ⟨by simpa using hok.1, fun x hx => ?_⟩
    rcases List.mem_append.1 hx with hx | hx
    · exact (h s i).2 x hx
    · rw [List.mem_singleton] at hx; subst hx; exact hok.2
  · exact h s' j
theorem grt_gro {tss : Bool → List (List TV)} {s : Bool} {i N : Nat} {t : Ft} {ev : Value} (hi : i < (tss s).length) (hok : okG ((tss s).getD i []).length (exs N t) = false) : Grt (gro tss s i t ev N) := by
  refine ⟨s, i, by rw [gro_len]; exact hi, ?_⟩
  rw [gro_at, if_pos ⟨rfl, rfl, hi⟩, List.length_append]
  simp only [okG, Bool.and_eq_false_iff, decide_eq_false_iff_not] at hok
  rcases hok with h | h
  · left; simp only [List.length_cons, List.length_nil]; omega
  · right; exact ⟨(t.c, ev, exs N t), by simp, by simp only; omega⟩
theorem rok_mul {p o ov : Int} {N R : Nat} (hx : RCx p o ov N R) {r : List Ft} {bt : Ft} {more : Int} (hd : Dn r) (hc : ∀ t ∈ r, 0 < t.c ∧ t.c < p) (hg : ∀ t ∈ r, Gd o ov N R 200 t) (ba : 0 ≤ bt.a) (bb : 0 ≤ bt.b) (bd : 0 ≤ bt.d) (bz : bt.z = 0) (bs : bt.a + bt.b + bt.d ≤ 200) (b1 : N ≤ 1 → bt.b = 0) (b2 : N ≤ 2 → bt.d = 0) (bc : 0 < bt.c ∧ bt.c < p) (hm : more = addK o (exs N bt)) : Rok p (Gd o ov N R 400) [r.map (mulF p more bt)] := by
  refine ⟨fun f hf => ?_, fun f hf t ht => ?_, fun f hf t ht => ?_⟩ <;> (rw [List.mem_singleton] at hf; subst hf)
  · unfold Dn
    rw [List.pairwise_map]
    exact hd.imp fun {a b} h => by simp only [mulF]; omega
  · obtain ⟨x, hx2, rfl⟩ := List.mem_map.1 ht
    have := prime_mulI hx.pr (show 1 ≤ x.c by have := hc x hx2; omega) (hc x hx2).2 (show 1 ≤ bt.c by omega) bc.2
    simp only [mulF]; omega
  · obtain ⟨x, hx2, rfl⟩ := List.mem_map.1 ht
    obtain ⟨k1, a1, b1', d1, s1, z1, p1, q1, n1, n2⟩ := hg x hx2
    have hex : exs N (mulF p more bt x) = zipI (· + ·) (exs N bt) (exs N x) := by
      have hN : N = 1 ∨ N = 2 ∨ N = 3 := by have := hx.n0; have := hx.n3; omega
      rcases hN with rfl | rfl | rfl <;> simp [exs, mulF, zipI] <;> omega
    have hlb : (exs N bt).length = N := by unfold exs; rw [List.length_take]; simp; have := hx.n3; omega
    have hlx : (exs N x).length = N := by unfold exs; rw [List.length_take]; simp; have := hx.n3; omega
    refine ⟨?_, by simp only [mulF]; omega, by simp only [mulF]; omega, by simp only [mulF]; omega, by simp only [mulF]; omega, by simp only [mulF]; omega, by simp only [mulF]; exact p1, by simp only [mulF]; exact q1, fun h => by simp only [mulF]; have := n1 h; have := b1 h; omega, fun h => by simp only [mulF]; have := n2 h; have := b2 h; omega⟩
    rw [hex]
    show x.k + more = keyL o ov x.pl _
    unfold keyL
    rw [addK_zip hx.n3 hlb hlx, k1, hm]
    unfold keyL; omega
def kyOf : Option Value → Nat
  | some (.int _ k) => (k + 1).toNat
  | _ => 0
def msD (v m : Value) (w : World) : Nat :=
  match v, m with
  | .pointer (some a), .bool true => kyOf (w.cell? ⟨a.block, 0, none⟩)
  | _, _ => 0
structure DCx (p o ov : Int) (N R : Nat) (lss : List (List (List Tm))) (n0 : Nat) (w0 : World) (ob rb db : Nat) (sv dv : Value) (ds : List De) (fls : List (List Ft)) : Prop where
  rc : RCx p o ov N R
  lok : LOk p o N R lss
  oc : OrC w0 ob p o ov N R sv
  ring : BoxAt w0 rb p N o ov
  db : w0.cell? ⟨db, 0, none⟩ = some dv
  dvs : DvsW p 0 w0 dv ds
  made : ds.map dvr = mkD 0 fls
  len : fls.length = lss.length
  flr : ∀ i, i < lss.length → FlR p o ov N R 200 (lss.getD i []) (fls.getD i [])
  size : w0.heap.size = n0
  ll : lss.length ≤ 60
structure DiW (p o ov : Int) (N R : Nat) (lss : List (List (List Tm))) (n0 : Nat) (w0 wr : World) (rb qb lb fb gb sb ob : Nat) (rv : Bool → Value) (s0 s : DS) (rows : List (List Ft)) (tss : Bool → List (List TV)) (f : Bool) : Prop where
  below : Below n0 w0 wr
  en : ∃ us, EnW n0 N wr rb qb lb fb gb rv us tss f
  sum : ∃ rw us, SumW n0 wr sb ob rw us rows
  len : rows.length ≤ 65
  qs : QS tss s
  dv : Dv p o ov lss s0 s
theorem DiW.next {p o ov : Int} {N R : Nat} {lss : List (List (List Tm))} {n0 : Nat} {w0 wr w' : World} {rb qb lb fb gb sb ob : Nat} {rv : Bool → Value} {s0 s : DS} {rows : List (List Ft)} {tss : Bool → List (List TV)} {f : Bool} (h : DiW p o ov N R lss n0 w0 wr rb qb lb fb gb sb ob rv s0 s rows tss f) (hn : n0 ≤ wr.heap.size) (hb : Below wr.heap.size wr w') : DiW p o ov N R lss n0 w0 w' rb qb lb fb gb sb ob rv s0 s rows tss f := by
  obtain ⟨us, he⟩ := h.en
  obtain ⟨rw, us2, hs⟩ := h.sum
  exact ⟨h.below.trans (hb.mono hn), ⟨us, he.next hb⟩, ⟨rw, us2, hs.next hb⟩, h.len, h.qs, h.dv⟩
theorem sum_nq {B : Nat} {w : World} {sb ob : Nat} {rw : Value} {us : List Value} {rows : List (List Ft)} (h : SumW B w sb ob rw us rows) : ∀ g, SFp sb rw g → NQ w g := by
  intro g hg
  have key : ∀ {T : TypeId}, 109 ≠ T → 64 ≠ T → NTy w T g := fun {T} h1 h2 => by
    rcases hg with rfl | e
    · exact own_nty h.box rfl h1
    · exact own_nty h.rws.own e h2
  exact ⟨key (by decide) (by decide), key (by decide) (by decide), key (by decide) (by decide), key (by decide) (by decide), key (by decide) (by decide), key (by decide) (by decide), key (by decide) (by decide)⟩
theorem SumW.gs {B n0 : Nat} {w w' : World} {sb ob : Nat} {rw : Value} {us : List Value} {rows : List (List Ft)} (h : SumW B w sb ob rw us rows) (hf : Frm (GS n0 w) w w') : SumW B w' sb ob rw us rows := by
  have hne : ¬ GS n0 w sb := fun hg => by
    obtain ⟨cur, e⟩ := own_ty h.box (g := sb) rfl
    exact hg.2.2.1 cur e
  refine ⟨hf.own h.box fun g hg hs => ?_, hf.kdb h.kind h.lt.2 hne, h.rws.frm hf (fun g hg => hg.2.1) fun g hg hs => ?_⟩
  · simp only [Value.ownBlock, Option.some.injEq] at hg; subst hg; exact hne hs
  · obtain ⟨cur, e⟩ := own_ty h.rws.own hg
    exact hs.2.2.2.1 cur e
theorem bx_gs {B n0 : Nat} {w w' : World} {g : Nat} {t : Ft} (h : Bx B w g t) (hf : Frm (GS n0 w) w w') : Bx B w' g t := own_frmT hf h fun k hk => hk.2.2.2.2
theorem bx_sfp {B B2 : Nat} {w w' : World} {g sb ob : Nat} {t : Ft} {rw : Value} {us : List Value} {rows : List (List Ft)} (h : Bx B w g t) (hs : SumW B2 w sb ob rw us rows) (hf : Frm (SFp sb rw) w w') : Bx B w' g t := own_frmT hf h fun k hk => by
  rcases hk with rfl | e
  · exact own_nty hs.box rfl (by decide)
  · exact own_nty hs.rws.own e (by decide)
theorem gs_below {n0 : Nat} {w w' : World} (hf : Frm (GS n0 w) w w') (hn : n0 ≤ w.heap.size) : Below n0 w w' := hf.to_below hn fun _ h => h.1
theorem DiW.nx {p o ov : Int} {N R : Nat} {lss : List (List (List Tm))} {n0 : Nat} {w0 wr w' : World} {rb qb lb fb gb sb ob : Nat} {rv : Bool → Value} {s0 s : DS} {rows rows2 : List (List Ft)} {tss : Bool → List (List TV)} {f : Bool} {rw : Value} {us : List Value} {L : Nat} (h : DiW p o ov N R lss n0 w0 wr rb qb lb fb gb sb ob rv s0 s rows tss f) (hn : n0 ≤ wr.heap.size) (hs : SumW n0 wr sb ob rw us rows) (ht : TkW n0 L wr w' sb ob rw rows2) (hl : rows2.length = rows.length) : DiW p o ov N R lss n0 w0 w' rb qb lb fb gb sb ob rv s0 s rows2 tss f := by
  obtain ⟨us1, he⟩ := h.en
  obtain ⟨us2, hs2, _⟩ := ht.sum
  have hf : Frm (SFp sb rw) wr w' := ht.frm.wide fun x _ e => Or.inr e
  exact ⟨h.below.trans (hf.to_below hn fun x hx => by
    rcases hx with rfl | e
    · exact hs.lt.1
    · exact (World.ownsRow.lt hs.rws.own x e).1), ⟨us1, he.frm hf (sum_nq hs)⟩, ⟨rw, us2, hs2⟩, by rw [hl]; exact h.len, h.qs, h.dv⟩
structure NyW (p : Int) (B L : Nat) (w wr : World) (sb ob : Nat) (rv : Value) (rows cur : List (List Ft)) : Prop where
  tk : TkW B L w wr sb ob rv cur
  res : Bx w.heap.size wr w.heap.size ⟨0, 0, 0, 0, 0, 0, 0⟩
  go : ∀ r rows2, Nx p cur r rows2 → Nx p rows r rows2
  co : ∀ r ∈ cur, ∀ t ∈ r, 0 < t.c ∧ t.c < p
  dn : ∀ r ∈ cur, Dn r
  len : cur.length = rows.length
theorem NyW.next {p : Int} {B L : Nat} {w wr w' : World} {sb ob : Nat} {rv : Value} {rows cur : List (List Ft)} (h : NyW p B L w wr sb ob rv rows cur) (hb : Below wr.heap.size wr w') : NyW p B L w w' sb ob rv rows cur :=
  ⟨h.tk.next hb, h.res.below hb, h.go, h.co, h.dn, h.len⟩
set_option maxRecDepth 100000 in
set_option maxHeartbeats 2000000 in
theorem next_at (B L sb ob : Nat) (p k0 k1 k2 : Int) (sv rv : Value) (us : List Value) (rows : List (List Ft)) (w : World) (hs : SumW B w sb ob rv us rows) (hL : L ≤ w.heap.size) (hloc : LocR L us rows) (hob : OrdB w ob p k0 k1 k2 sv) (hp : 2 ≤ p ∧ p ≤ 101) (hn : rows.length ≤ 1000) (hc : ∀ r ∈ rows, ∀ t ∈ r, 0 < t.c ∧ t.c < p) (hd : ∀ r ∈ rows, Dn r) :
    Calls Tryz.prog 61 #[.pointer (some ⟨sb, 0, none⟩)] w fun e w' => ∃ r, e = .returned (.tuple #[ftV (grF r), .bool r.isSome]) ∧ ∃ rows2, Nx p rows r rows2 ∧ TkW B L w w' sb ob rv rows2 := by
  have HOB := hid hob
  have HAP := hid (hs.ob_apart hob)
  have HRL : Hid (∀ g, rv.ownBlock = some g → g < w.heap.size) := fun g hg => (World.ownsRow.lt hs.rws.own g hg).2
  have HSL := hid hs.lt.2
  obtain ⟨w0, hw0⟩ : ∃ w0, w0 = w.alloc (.cells #[.int .i64 0, .int .u16 0, .int .u16 0, .int .u16 0, .int .u16 0, .int .u8 0, .int .u8 0] 52) := ⟨_, rfl⟩
  have H0 : Hid (NyW p B L w w0 sb ob rv rows rows) := by
    show NyW _ _ _ _ _ _ _ _ _ _
    rw [hw0]
    exact ⟨⟨⟨us, hs.next belowNew, hloc⟩, Frm.of_below belowNew⟩, Bx.new w _ (Nat.le_refl _), fun _ _ h => h, hc, hd, rfl⟩
  clear hs hob hc hd hloc
  go_enter Tryz.func61, Tryz.ntmps61
  go_wp2_with fail
  rw [← hw0]
  clear hw0
  go_loopw [3] (fun f wr => f = .bool false ∧ ∃ cur, NyW p B L w wr sb ob rv rows cur) (fun _ wr => cellLen wr rv)
  case atStart => exact ⟨rfl, rows, H0.out⟩
  case round =>
    clear H0
    obtain ⟨rfl, cur, ht⟩ := hrel
    have HT := hid ht
    obtain ⟨us1, hs1, _⟩ := ht.tk.sum
    obtain ⟨x0, x1, x2⟩ := hs1.cells
    have HG := hid (greatest_any sb rv cur wr hs1.lt.2 x1 hs1.rws.rws (by rw [ht.len]; exact hn))
    have HTOT := hid hs1.rws.total
    clear ht hs1 x0 x1 x2
    cases hgr : grt cur with
    | none =>
      have HGR := hid hgr
      rw [hgr] at HG
      simp only [grF, ftV, Option.getD_none, Option.isSome_none] at HG
      clear hgr
      go_upto_region 2 with (go_at_call 101; refine HG.out.mono ?_; rintro e w1 ⟨rfl, hb1⟩; have HT1 := hid (HT.out.next hb1); have HBX := hid (Bx.new w1 w.heap.size HT1.out.tk.frm.size); obtain ⟨y0, y1, y2, y3, y4, y5, y6⟩ := HBX.out.at; have z0 := World.ownsRow.frozenAt HBX.out 0; have z1 := World.ownsRow.frozenAt HBX.out 1; have z2 := World.ownsRow.frozenAt HBX.out 2; have z3 := World.ownsRow.frozenAt HBX.out 3; have z4 := World.ownsRow.frozenAt HBX.out 4; have z5 := World.ownsRow.frozenAt HBX.out 5; have z6 := World.ownsRow.frozenAt HBX.out 6; simp only [Nat.zero_add] at y0 y1 y2 y3 y4 y5 y6; clear hb1)
      obtain ⟨wq, hwq⟩ : ∃ wq, wq = w1.alloc (.cells #[.int .i64 0, .int .u16 0, .int .u16 0, .int .u16 0, .int .u16 0, .int .u8 0, .int .u8 0] 52) := ⟨_, rfl⟩
      have HQ : Hid (NyW p B L w wq sb ob rv rows cur ∧ Bx w.heap.size wq w1.heap.size ⟨0, 0, 0, 0, 0, 0, 0⟩ ∧ w.heap.size < w1.heap.size ∧ cellLen wq rv = tot cur) := by
        show _ ∧ _ ∧ _ ∧ _
        rw [hwq]
        obtain ⟨us2, hs2, _⟩ := (HT1.out.next (belowNew (A := .cells #[.int .i64 0, .int .u16 0, .int .u16 0, .int .u16 0, .int .u16 0, .int .u8 0, .int .u8 0] 52))).tk.sum
        exact ⟨HT1.out.next belowNew, box7 HT1.out.tk.frm.size ⟨0, 0, 0, 0, 0, 0, 0⟩, (World.ownsRow.lt HT1.out.res _ rfl).2, hs2.rws.total⟩
      rw [← hwq]
      clear hwq HBX y0 y1 y2 y3 y4 y5 y6 z0 z1 z2 z3 z4 z5 z6
      have HLT2 := HQ.out.2.2.1
      obtain ⟨v0, v1, v2, v3, v4, v5, v6⟩ := HQ.out.1.res.at
      have r0 := World.ownsRow.frozenAt HQ.out.1.res 0
      have r1 := World.ownsRow.frozenAt HQ.out.1.res 1
      have r2 := World.ownsRow.frozenAt HQ.out.1.res 2
      have r3 := World.ownsRow.frozenAt HQ.out.1.res 3
      have r4 := World.ownsRow.frozenAt HQ.out.1.res 4
      have r5 := World.ownsRow.frozenAt HQ.out.1.res 5
      have r6 := World.ownsRow.frozenAt HQ.out.1.res 6
      simp only [Nat.zero_add] at v0 v1 v2 v3 v4 v5 v6
      have HP := hid (HQ.out.1.res.put ⟨0, 0, 0, 0, 0, 0, 0⟩)
      have hpat := HP.out.1.at
      have HPT := hid (HQ.out.1.tk.far HP.out.2 hL (Nat.le_refl _) HSL.out HRL.out)
      unfold lay7 at hpat HPT
      obtain ⟨s0, s1, s2, s3, s4, s5, s6⟩ := hpat
      simp only [Nat.zero_add] at s0 s1 s2 s3 s4 s5 s6
      go_wp2
      refine bodyPost_ret (v := .tuple #[ftV (grF none), .bool false]) (by simp [results, Tryz.results61, go_sem, s0, s1, s2, s3, s4, s5, s6, ftV, grF]) rfl ⟨none, rfl, cur, HQ.out.1.go _ _ (Nx.stop cur HGR.out), HPT.out⟩
    | some t =>
      have HGR := hid hgr
      rw [hgr] at HG
      simp only [grF, ftV, Option.getD_some, Option.isSome_some] at HG
      clear hgr
      go_upto_region 2 with (go_at_call 101; refine HG.out.mono ?_; rintro e w1 ⟨rfl, hb1⟩; have HT1 := hid (HT.out.next hb1); have HBX := hid (Bx.new w1 w.heap.size HT1.out.tk.frm.size); obtain ⟨y0, y1, y2, y3, y4, y5, y6⟩ := HBX.out.at; have z0 := World.ownsRow.frozenAt HBX.out 0; have z1 := World.ownsRow.frozenAt HBX.out 1; have z2 := World.ownsRow.frozenAt HBX.out 2; have z3 := World.ownsRow.frozenAt HBX.out 3; have z4 := World.ownsRow.frozenAt HBX.out 4; have z5 := World.ownsRow.frozenAt HBX.out 5; have z6 := World.ownsRow.frozenAt HBX.out 6; simp only [Nat.zero_add] at y0 y1 y2 y3 y4 y5 y6; clear hb1)
      obtain ⟨wq, hwq⟩ : ∃ wq, wq = w1.alloc (.cells #[.int .i64 t.k, .int .u16 t.a, .int .u16 t.b, .int .u16 t.d, .int .u16 t.z, .int .u8 t.pl, .int .u8 t.c] 52) := ⟨_, rfl⟩
      have HQ : Hid (NyW p B L w wq sb ob rv rows cur ∧ Bx w.heap.size wq w1.heap.size t ∧ w.heap.size < w1.heap.size ∧ cellLen wq rv = tot cur) := by
        show _ ∧ _ ∧ _ ∧ _
        rw [hwq]
        obtain ⟨us2, hs2, _⟩ := (HT1.out.next (belowNew (A := .cells #[.int .i64 t.k, .int .u16 t.a, .int .u16 t.b, .int .u16 t.d, .int .u16 t.z, .int .u8 t.pl, .int .u8 t.c] 52))).tk.sum
        exact ⟨HT1.out.next belowNew, box7 HT1.out.tk.frm.size t, (World.ownsRow.lt HT1.out.res _ rfl).2, hs2.rws.total⟩
      rw [← hwq]
      clear hwq HBX y0 y1 y2 y3 y4 y5 y6 z0 z1 z2 z3 z4 z5 z6
      have HLT2 := HQ.out.2.2.1
      have HTA : Hid (Calls Tryz.prog 102 #[.pointer (some ⟨sb, 0, none⟩), .int .i64 t.k] wq fun e w' => e = .returned (.int .u8 (tkS t.k cur % p)) ∧ TkW B L wq w' sb ob rv (tk t.k cur)) := by
        obtain ⟨us2, hs2, hl2⟩ := HQ.out.1.tk.sum
        exact take_any B L sb ob p k0 k1 k2 t.k sv rv us2 cur wq hs2 hl2 (HOB.out.frm HQ.out.1.tk.frm HAP.out) hp (by rw [HQ.out.1.len]; exact hn) fun r hr t ht => by have := HQ.out.1.co r hr t ht; omega
      obtain ⟨b0, b1, b2, b3, b4, b5, b6⟩ := HQ.out.2.1.at
      simp only [Nat.zero_add] at b0 b1 b2 b3 b4 b5 b6
      have hmem := (grt_some HQ.out.1.dn HGR.out).1
      have HMEM := hid hmem
      obtain ⟨t2, ht2⟩ : ∃ t2 : Ft, t2 = { t with c := tkS t.k cur % p } := ⟨_, rfl⟩
      have HT2 := hid ht2
      have hcd : tkS t.k cur % p = t2.c := by rw [ht2]
      have HCD := hid hcd
      have HEN : Hid ((encF t).set 6 (.int .u8 t2.c) = encF t2) := by show _ = _; rw [ht2]; rfl
      rw [hcd] at HTA
      clear hmem hcd ht2
      have STEP : Hid (∀ w3, TkW B L wq w3 sb ob rv (tk t.k cur) → TkW B L w w3 sb ob rv (tk t.k cur) ∧ Bx w.heap.size w3 w1.heap.size t ∧ Bx w.heap.size w3 w.heap.size ⟨0, 0, 0, 0, 0, 0, 0⟩) := fun w3 h3 =>
        ⟨HQ.out.1.tk.trans h3, bx_frm HQ.out.2.1 h3.frm (fun e => by have := HRL.out _ e; omega), bx_frm HQ.out.1.res h3.frm (fun e => by have := HRL.out _ e; omega)⟩
      go_upto_region 5 with (go_at_call 102; refine HTA.out.mono ?_; rintro e w3 ⟨rfl, h3⟩; have H3 := hid (STEP.out w3 h3); clear h3; have d6 := (H3.out.2.1.at).2.2.2.2.2.2; have f6 := World.ownsRow.frozenAt H3.out.2.1 6; simp only [Nat.zero_add] at d6)
      have s6 := World.ownsRow.stored H3.out.2.1 6 (.int .u8 t2.c)
      obtain ⟨w4, hw4⟩ : ∃ w4, w4 = w3.setCell ⟨w1.heap.size, 6, none⟩ (.int .u8 t2.c) := ⟨_, rfl⟩
      have H4 : Hid (TkW B L w w4 sb ob rv (tk t.k cur) ∧ Bx w.heap.size w4 w1.heap.size t2 ∧ Bx w.heap.size w4 w.heap.size ⟨0, 0, 0, 0, 0, 0, 0⟩) := by
        show _ ∧ _ ∧ _
        rw [hw4]
        exact ⟨H3.out.1.far s6.2 (by omega) (by omega) HSL.out HRL.out, by have := s6.1; rw [HEN.out] at this; exact this, World.ownsRow.kept H3.out.2.2 s6.2 (Or.inr (by simp [Value.ownBlock]; omega))⟩
      rw [← hw4]
      clear hw4 s6 d6 f6
      obtain ⟨e0, e1, e2, e3, e4, e5, e6⟩ := H4.out.2.1.at
      simp only [Nat.zero_add] at e0 e1 e2 e3 e4 e5 e6
      by_cases hz : t2.c = 0
      · have HZ := hid hz
        go_wp2
        go_roundw
        case rel =>
          refine ⟨rfl, tk t.k cur, H4.out.1, H4.out.2.2, fun r rows2 h => HQ.out.1.go _ _ (Nx.go cur rows2 t r HGR.out (HCD.out.trans HZ.out) h), fun r hr x hx => ?_, fun r hr => ?_, ?_⟩
          · obtain ⟨r0, h0, rfl⟩ := List.mem_map.1 hr
            exact HQ.out.1.co r0 h0 x (tk1_sub _ r0 x hx)
          · obtain ⟨r0, h0, rfl⟩ := List.mem_map.1 hr
            exact tk1_dn (HQ.out.1.dn r0 h0)
          · have := HQ.out.1.len; simp [tk, this]
        case measure =>
          obtain ⟨us4, hs4, _⟩ := H4.out.1.sum
          have h4 := hs4.rws.total
          obtain ⟨ts, hm⟩ := HMEM.out
          have h5 := tk_tot_lt hm
          have h6 := HTOT.out
          omega
      · have HZ := hid hz
        go_upto_region 6 with fail
        obtain ⟨v0, v1, v2, v3, v4, v5, v6⟩ := H4.out.2.2.at
        have r0 := World.ownsRow.frozenAt H4.out.2.2 0
        have r1 := World.ownsRow.frozenAt H4.out.2.2 1
        have r2 := World.ownsRow.frozenAt H4.out.2.2 2
        have r3 := World.ownsRow.frozenAt H4.out.2.2 3
        have r4 := World.ownsRow.frozenAt H4.out.2.2 4
        have r5 := World.ownsRow.frozenAt H4.out.2.2 5
        have r6 := World.ownsRow.frozenAt H4.out.2.2 6
        simp only [Nat.zero_add] at v0 v1 v2 v3 v4 v5 v6
        have HP := hid (H4.out.2.2.put t2)
        have hpat := HP.out.1.at
        have HPT := hid (H4.out.1.far HP.out.2 hL (Nat.le_refl _) HSL.out HRL.out)
        unfold lay7 at hpat HPT
        obtain ⟨s0, s1, s2, s3, s4, s5, s6⟩ := hpat
        simp only [Nat.zero_add] at s0 s1 s2 s3 s4 s5 s6
        have HNX := hid (HQ.out.1.go _ _ (Nx.hit cur t HGR.out (by rw [HCD.out]; exact HZ.out)))
        rw [← HT2.out] at HNX
        go_wp2
        refine bodyPost_ret (v := .tuple #[ftV (grF (some t2)), .bool true]) (by simp [results, Tryz.results61, go_sem, s0, s1, s2, s3, s4, s5, s6, ftV, grF]) rfl ⟨some t2, rfl, _, HNX.out, HPT.out⟩
theorem fI_none {t : Ft} {ds : List De} (h : fI t ds = none) : fD t (ds.map dvr) = none := by
  unfold fI at h
  unfold fD
  rw [List.findIdx?_eq_none_iff] at h
  rw [List.find?_eq_none]
  intro d hd
  obtain ⟨e, he, rfl⟩ := List.mem_map.1 hd
  have := h e he
  simp only [dvr]
  rw [this]; simp
theorem fI_some {t : Ft} : ∀ {ds : List De} {k : Nat}, fI t ds = some k → ∃ h : k < ds.length, fD t (ds.map dvr) = some (dvr ds[k])
  | [], k, h => by simp [fI] at h
  | d :: ds, k, h => by
    unfold fI at h
    rw [List.findIdx?_cons] at h
    simp only [List.map_cons, fD, List.find?_cons]
    by_cases hi : intoF d.2.1 t = true
    · rw [hi, if_pos rfl] at h
      simp only [Option.some.injEq] at h
      subst h
      refine ⟨by simp, ?_⟩
      simp only [dvr, hi]
      rfl
    · have hf : intoF d.2.1 t = false := by simpa using hi
      rw [hf] at h
      simp only [Bool.false_eq_true, if_false, Option.map_eq_some_iff] at h
      obtain ⟨j, hj, rfl⟩ := h
      obtain ⟨h2, h3⟩ := fI_some (t := t) (ds := ds) (k := j) hj
      refine ⟨by simpa using h2, ?_⟩
      simp only [dvr, hf]
      unfold fD at h3
      rw [List.getElem_cons_succ]
      exact h3
theorem DiW.gs {p o ov : Int} {N R : Nat} {lss : List (List (List Tm))} {n0 : Nat} {w0 wr w' : World} {rb qb lb fb gb sb ob : Nat} {rv : Bool → Value} {s0 s s2 : DS} {rows : List (List Ft)} {tss tss2 : Bool → List (List TV)} {f f2 : Bool} (h : DiW p o ov N R lss n0 w0 wr rb qb lb fb gb sb ob rv s0 s rows tss f) (hn : n0 ≤ wr.heap.size) {us : Bool → List Value} (he : EnW n0 N w' rb qb lb fb gb rv us tss2 f2) (hf : Frm (GS n0 wr) wr w') (hs : dstep p o ov lss s = some s2) (hq : QS tss2 s2) : DiW p o ov N R lss n0 w0 w' rb qb lb fb gb sb ob rv s0 s2 rows tss2 f2 := by
  obtain ⟨rw, us2, h2⟩ := h.sum
  exact ⟨h.below.trans (gs_below hf hn), ⟨us, he⟩, ⟨rw, us2, h2.gs hf⟩, h.len, hq, h.dv.step hs⟩
theorem DiW.put {p o ov : Int} {N R : Nat} {lss : List (List (List Tm))} {n0 : Nat} {w0 wr w' : World} {rb qb lb fb gb sb ob g L : Nat} {rv : Bool → Value} {s0 s : DS} {rows : List (List Ft)} {tss : Bool → List (List TV)} {f : Bool} {t : Ft} {rw : Value} {us : List Value} (h : DiW p o ov N R lss n0 w0 wr rb qb lb fb gb sb ob rv s0 s rows tss f) (hn : n0 ≤ wr.heap.size) (hs : SumW n0 wr sb ob rw us rows) (hl : LocR L us rows) (hL : L ≤ g) (hb : Bx n0 wr g t) (hg : wr.grownBy w' (some g)) : DiW p o ov N R lss n0 w0 w' rb qb lb fb gb sb ob rv s0 s rows tss f := by
  obtain ⟨us1, he⟩ := h.en
  have hge := (World.ownsRow.lt hb g rfl).1
  have hty : ∀ {T : TypeId}, 52 ≠ T → NTy wr T g := fun {T} hT => own_nty hb rfl hT
  have hf : Frm (fun k => k = g) wr w' := Frm.of_grown hg fun x e => by simpa using e.symm
  have hsb : sb ≠ g := fun e => by
    subst e
    obtain ⟨cur, e2⟩ := own_ty hs.box (g := sb) rfl
    exact hty (by decide) cur e2
  have hrv : rw.ownBlock ≠ some g := fun e => by
    obtain ⟨cur, e2⟩ := own_ty hs.rws.own e
    exact hty (by decide) cur e2
  exact ⟨h.below.trans (grown_below hg hge hn), ⟨us1, he.frm hf fun k e => by subst e; exact ⟨hty (by decide), hty (by decide), hty (by decide), hty (by decide), hty (by decide), hty (by decide), hty (by decide)⟩⟩, ⟨rw, us, hs.far hg hl hL hsb hrv⟩, h.len, h.qs, h.dv⟩
theorem pv_lt {p o ov : Int} {N R : Nat} (hx : RCx p o ov N R) {lss : List (List (List Tm))} (hl : LOk p o N R lss) {s s2 : DS} {t t2 : Ft} {rows rows2 : List (List Ft)} (hi : DInv p o ov N R lss s) (hs : dstep p o ov lss s = some s2) (h1 : PV p o ov N R (some t) rows s) (h2 : PV p o ov N R (some t2) rows2 s2) : t2.k < t.k ∧ 0 ≤ t2.k := by
  obtain ⟨hi2, j, u, hld, hk⟩ := dinv_step hx hl hi hs
  obtain ⟨a1, a2, _⟩ := h1.some t rfl
  obtain ⟨b1, b2, _⟩ := h2.some t2 rfl
  rw [a1] at hld
  simp only [Option.some.injEq, Prod.mk.injEq] at hld
  obtain ⟨rfl, rfl⟩ := hld
  have hD : ∀ i, i < R → Dg ov i ≤ 16000 := fun i hi => by have := (Dg_bd (ov := ov) hx.r i hi).2; omega
  obtain ⟨hm, hj, _, _⟩ := lead_cv hx hi2.vok hi2.vl hD b1
  have h3 := hk _ _ hm
  simp only at h3
  have e1 := a2.k
  have e2 := b2.k
  rw [← Int.toNat_of_nonneg a2.pl0] at e1
  rw [← Int.toNat_of_nonneg b2.pl0] at e2
  rw [← e1, ← e2] at h3
  refine ⟨h3, ?_⟩
  rw [e2]
  have := addK_bd hx.o hx.n0 hx.n3 (b2.exq hx.n0 hx.n3 (by omega)).1
  have hR := hx.r
  unfold keyL stK; split <;> omega
theorem nextR_any (p o ov : Int) (N R : Nat) (lss : List (List (List Tm))) (n0 L : Nat) (w0 : World) (ob rb qb lb fb gb sb : Nat) (sv : Value) (rv : Bool → Value) (s0 s : DS) (rows : List (List Ft)) (tss : Bool → List (List TV)) (rw : Value) (us : List Value) (W : World) (hx : RCx p o ov N R) (hoc : OrC W ob p o ov N R sv) (hnW : n0 ≤ W.heap.size) (hL : L ≤ W.heap.size) (hs : SumW n0 W sb ob rw us rows) (hl : LocR L us rows)
    (hdi : DiW p o ov N R lss n0 w0 W rb qb lb fb gb sb ob rv s0 s rows tss true) (hin : DInv p o ov N R lss s) (hro : Rok p (Gd o ov N R 400) rows) (hre : Rep p o ov R rows s.v) :
    Calls Tryz.prog 61 #[.pointer (some ⟨sb, 0, none⟩)] W fun e w' => ∃ r, e = .returned (.tuple #[ftV (grF r), .bool r.isSome]) ∧ ∃ rows2 us2, PV p o ov N R r rows2 s ∧ DiW p o ov N R lss n0 w0 w' rb qb lb fb gb sb ob rv s0 s rows2 tss true ∧ n0 ≤ w'.heap.size ∧ Frm (SFp sb rw) W w' ∧ SumW n0 w' sb ob rw us2 rows2 ∧ LocR L us2 rows2 := by
  have hp := errP_bd hx.pr
  refine (next_at n0 L sb ob p _ _ _ sv rw us rows W hs hL hl hoc.ord hp (by have := hdi.len; omega) hro.co hro.dn).mono ?_
  rintro e w' ⟨r, rfl, rows2, q1, q2⟩
  obtain ⟨a1, a2⟩ := nx_pv hx hin hro hre q1
  obtain ⟨us2, b1, b2⟩ := q2.sum
  exact ⟨r, rfl, rows2, us2, a1, hdi.nx hnW hs q2 a2, Nat.le_trans hnW q2.frm.size, q2.frm.wide fun x _ e => Or.inr e, b1, b2⟩
theorem exs_sub {N : Nat} {t L bt : Ft} (h0 : 0 < N) (h3 : N ≤ 3) (ha : bt.a = t.a - L.a) (hb : bt.b = t.b - L.b) (hd : bt.d = t.d - L.d) : exs N bt = zipI (· - ·) (exs N t) (exs N L) := by
  have hN : N = 1 ∨ N = 2 ∨ N = 3 := by omega
  rcases hN with rfl | rfl | rfl <;> simp [exs, zipI, ha, hb, hd]
theorem more_add {o : Int} {N : Nat} {bt : Ft} (h0 : 0 < N) (h3 : N ≤ 3) : bt.a * WtN o N N 0 + bt.b * WtN o N N 1 + bt.d * WtN o N N 2 = addK o (exs N bt) := by
  have hN : N = 1 ∨ N = 2 ∨ N = 3 := by omega
  rcases hN with rfl | rfl | rfl <;> simp [exs, addK, WtN, WtK]
theorem DivB.belowN {w w' : World} {n b off : Nat} {t : Ft} {rv : Value} {num inv : Int} (h : DivB w b off t rv num inv) (hb : Below n w w') (hlt : b < n) : DivB w' b off t rv num inv := by
  have hc : ∀ j, w'.cell? ⟨b, j, none⟩ = w.cell? ⟨b, j, none⟩ := fun j => World.cell?_of_block (hb.block b hlt)
  exact ⟨Nat.lt_of_lt_of_le h.lt hb.size, fun j u hj => by rw [hc]; exact h.cs j u hj, by rw [hc]; exact h.c7, by rw [hc]; exact h.c8, by rw [hc]; exact h.c9⟩
theorem DiW.added {p o ov : Int} {N R : Nat} {lss : List (List (List Tm))} {n0 : Nat} {w0 wr w8 w9 : World} {rb qb lb fb gb sb ob : Nat} {rv : Bool → Value} {s0 s : DS} {rows rows9 : List (List Ft)} {tss : Bool → List (List TV)} {f : Bool} {rw rw9 : Value} {us us9 : List Value} (h : DiW p o ov N R lss n0 w0 wr rb qb lb fb gb sb ob rv s0 s rows tss f) (hn : n0 ≤ wr.heap.size) (hs : SumW n0 wr sb ob rw us rows) (hb : Below wr.heap.size wr w8) (hf : Frm (SFp sb rw) w8 w9) (h9 : SumW n0 w9 sb ob rw9 us9 rows9) (hl : rows9.length ≤ 65) : DiW p o ov N R lss n0 w0 w9 rb qb lb fb gb sb ob rv s0 s rows9 tss f := by
  have h8 := h.next hn hb
  have hs8 := hs.next hb
  obtain ⟨us1, he⟩ := h8.en
  exact ⟨h8.below.trans (hf.to_below (Nat.le_trans hn hb.size) fun x hx => by
    rcases hx with rfl | e
    · exact hs8.lt.1
    · exact (World.ownsRow.lt hs8.rws.own x e).1), ⟨us1, he.frm hf (sum_nq hs8)⟩, ⟨rw9, us9, h9⟩, hl, h.qs, h.dv⟩
end Go.Proofs.YtilogbggilchaaaGreat
