/- Flat vectors by their keys: plain mathematics of the sum. -/
import Derived.Test.YtilogbggilchaaaGreatZH
namespace Go.Proofs.YtilogbggilchaaaGreat
set_option linter.unusedSimpArgs false
set_option linter.unusedVariables false
def cnt (k : Int) : List Ft → Int
  | [] => 0
  | t :: ts => (if t.k = k then t.c else 0) + cnt k ts
theorem cnt_append (k : Int) : ∀ f g : List Ft, cnt k (f ++ g) = cnt k f + cnt k g
  | [], g => by simp [cnt]
  | t :: f, g => by simp only [List.cons_append, cnt, cnt_append k f g]; omega
theorem cnt_perm (k : Int) {f g : List Ft} (h : f.Perm g) : cnt k f = cnt k g := by
  induction h with
  | nil => rfl
  | cons x _ ih => simp only [cnt, ih]
  | swap x y l => simp only [cnt]; omega
  | trans _ _ h1 h2 => exact h1.trans h2
theorem cnt_far {k : Int} : ∀ {f : List Ft}, (∀ t ∈ f, t.k ≠ k) → cnt k f = 0
  | [], _ => rfl
  | t :: f, h => by
    simp only [cnt, if_neg (h t (by simp)), cnt_far (f := f) fun u hu => h u (by simp [hu])]; rfl
def Dn (fs : List Ft) : Prop := fs.Pairwise fun a b => b.k < a.k
theorem Dn.tail {t : Ft} {ts : List Ft} (h : Dn (t :: ts)) : Dn ts := (List.pairwise_cons.1 h).2
theorem Dn.head {t : Ft} {ts : List Ft} (h : Dn (t :: ts)) : ∀ u ∈ ts, u.k < t.k := (List.pairwise_cons.1 h).1
theorem Dn.le {t : Ft} {ts : List Ft} (h : Dn (t :: ts)) : ∀ u ∈ t :: ts, u.k ≤ t.k := fun u hu => by
  rcases List.mem_cons.1 hu with rfl | hu
  · omega
  · have := h.head u hu; omega
theorem mergeK_ind (P : List Ft → List Ft → Prop) (hl : ∀ g, P [] g) (hr : ∀ f, P f [])
    (h1 : ∀ t u f g, u.k < t.k → P f (u :: g) → P (t :: f) (u :: g)) (h2 : ∀ t u f g, t.k < u.k → P (t :: f) g → P (t :: f) (u :: g)) (h3 : ∀ t u f g, t.k = u.k → P f g → P (t :: f) (u :: g)) : ∀ f g, P f g
  | [], g => hl g
  | t :: f, [] => hr _
  | t :: f, u :: g => by
    by_cases ha : u.k < t.k
    · exact h1 t u f g ha (mergeK_ind P hl hr h1 h2 h3 f (u :: g))
    · by_cases hb : t.k < u.k
      · exact h2 t u f g hb (mergeK_ind P hl hr h1 h2 h3 (t :: f) g)
      · exact h3 t u f g (by omega) (mergeK_ind P hl hr h1 h2 h3 f g)
theorem mergeK_cnt (p k : Int) : ∀ f g : List Ft, p ∣ cnt k (mergeK p f g) - (cnt k f + cnt k g) := by
  refine mergeK_ind _ (fun g => ?_) (fun f => ?_) (fun t u f g h ih => ?_) (fun t u f g h ih => ?_) (fun t u f g h ih => ?_)
  · rw [mergeK_nilL]; exact ⟨0, by simp [cnt]⟩
  · rw [mergeK_nilR]; exact ⟨0, by simp [cnt]⟩
  · rw [mergeK_gt h]
    simp only [cnt] at ih ⊢
    obtain ⟨q, hq⟩ := ih
    exact ⟨q, by omega⟩
  · rw [mergeK_lt h]
    simp only [cnt] at ih ⊢
    obtain ⟨q, hq⟩ := ih
    exact ⟨q, by omega⟩
  · obtain ⟨q, hq⟩ := ih
    by_cases hc : (t.c + u.c) % p = 0
    · rw [mergeK_no h hc]
      obtain ⟨m, hm⟩ := Int.dvd_of_emod_eq_zero hc
      simp only [cnt, h]
      by_cases hk : u.k = k
      · rw [if_pos hk, if_pos hk]
        exact ⟨q - m, by rw [Int.mul_sub]; omega⟩
      · rw [if_neg hk, if_neg hk]
        exact ⟨q, by omega⟩
    · rw [mergeK_eq h hc]
      obtain ⟨m, hm⟩ := modDvd p (t.c + u.c)
      simp only [cnt, h]
      by_cases hk : u.k = k
      · rw [if_pos hk, if_pos hk, if_pos hk]
        exact ⟨q + m, by rw [Int.mul_add]; omega⟩
      · rw [if_neg hk, if_neg hk, if_neg hk]
        exact ⟨q, by omega⟩
def Alk (x t : Ft) : Prop := x.k = t.k ∧ x.a = t.a ∧ x.b = t.b ∧ x.d = t.d ∧ x.z = t.z ∧ x.pl = t.pl
theorem mergeK_mem (p : Int) (hp : 2 ≤ p) : ∀ f g : List Ft, (∀ t ∈ f, 0 < t.c ∧ t.c < p) → (∀ t ∈ g, 0 < t.c ∧ t.c < p) → ∀ x ∈ mergeK p f g, (∃ t, (t ∈ f ∨ t ∈ g) ∧ Alk x t) ∧ 0 < x.c ∧ x.c < p := by
  refine mergeK_ind _ (fun g => ?_) (fun f => ?_) (fun t u f g h ih => ?_) (fun t u f g h ih => ?_) (fun t u f g h ih => ?_)
  · rw [mergeK_nilL]; exact fun _ hg x hx => ⟨⟨x, Or.inr hx, rfl, rfl, rfl, rfl, rfl, rfl⟩, hg x hx⟩
  · rw [mergeK_nilR]; exact fun hf _ x hx => ⟨⟨x, Or.inl hx, rfl, rfl, rfl, rfl, rfl, rfl⟩, hf x hx⟩
  · intro hf hg x hx
    rw [mergeK_gt h] at hx
    rcases List.mem_cons.1 hx with rfl | hx
    · exact ⟨⟨x, by simp, rfl, rfl, rfl, rfl, rfl, rfl⟩, hf x (by simp)⟩
    · obtain ⟨⟨y, hy, ha⟩, hc⟩ := ih (fun y hy => hf y (by simp [hy])) hg x hx
      exact ⟨⟨y, by rcases hy with hy | hy <;> simp [hy], ha⟩, hc⟩
  · intro hf hg x hx
    rw [mergeK_lt h] at hx
    rcases List.mem_cons.1 hx with rfl | hx
    · exact ⟨⟨x, by simp, rfl, rfl, rfl, rfl, rfl, rfl⟩, hg x (by simp)⟩
    · obtain ⟨⟨y, hy, ha⟩, hc⟩ := ih hf (fun y hy => hg y (by simp [hy])) x hx
      exact ⟨⟨y, by rcases hy with hy | hy <;> simp [hy], ha⟩, hc⟩
  · intro hf hg x hx
    have ih' := ih (fun y hy => hf y (by simp [hy])) (fun y hy => hg y (by simp [hy]))
    by_cases hc : (t.c + u.c) % p = 0
    · rw [mergeK_no h hc] at hx
      obtain ⟨⟨y, hy, ha⟩, hc⟩ := ih' x hx
      exact ⟨⟨y, by rcases hy with hy | hy <;> simp [hy], ha⟩, hc⟩
    · rw [mergeK_eq h hc] at hx
      rcases List.mem_cons.1 hx with rfl | hx
      · have h1 := Int.emod_nonneg (t.c + u.c) (show p ≠ 0 by omega)
        have h2 := Int.emod_lt_of_pos (t.c + u.c) (show 0 < p by omega)
        exact ⟨⟨t, by simp, rfl, rfl, rfl, rfl, rfl, rfl⟩, by simp only; omega, by simp only; omega⟩
      · obtain ⟨⟨y, hy, ha⟩, hc⟩ := ih' x hx
        exact ⟨⟨y, by rcases hy with hy | hy <;> simp [hy], ha⟩, hc⟩
theorem mergeK_kmem (p : Int) : ∀ (f g : List Ft), ∀ x ∈ mergeK p f g, ∃ t, (t ∈ f ∨ t ∈ g) ∧ x.k = t.k := by
  refine mergeK_ind _ (fun g => ?_) (fun f => ?_) (fun t u f g h ih => ?_) (fun t u f g h ih => ?_) (fun t u f g h ih => ?_)
  · rw [mergeK_nilL]; exact fun x hx => ⟨x, Or.inr hx, rfl⟩
  · rw [mergeK_nilR]; exact fun x hx => ⟨x, Or.inl hx, rfl⟩
  · intro x hx
    rw [mergeK_gt h] at hx
    rcases List.mem_cons.1 hx with rfl | hx
    · exact ⟨x, by simp, rfl⟩
    · obtain ⟨y, hy, ha⟩ := ih x hx
      exact ⟨y, by rcases hy with hy | hy <;> simp [hy], ha⟩
  · intro x hx
    rw [mergeK_lt h] at hx
    rcases List.mem_cons.1 hx with rfl | hx
    · exact ⟨x, by simp, rfl⟩
    · obtain ⟨y, hy, ha⟩ := ih x hx
      exact ⟨y, by rcases hy with hy | hy <;> simp [hy], ha⟩
  · intro x hx
    by_cases hc : (t.c + u.c) % p = 0
    · rw [mergeK_no h hc] at hx
      obtain ⟨y, hy, ha⟩ := ih x hx
      exact ⟨y, by rcases hy with hy | hy <;> simp [hy], ha⟩
    · rw [mergeK_eq h hc] at hx
      rcases List.mem_cons.1 hx with rfl | hx
      · exact ⟨t, by simp, rfl⟩
      · obtain ⟨y, hy, ha⟩ := ih x hx
        exact ⟨y, by rcases hy with hy | hy <;> simp [hy], ha⟩
theorem mergeK_dn (p : Int) : ∀ f g : List Ft, Dn f → Dn g → Dn (mergeK p f g) := by
  refine mergeK_ind _ (fun g => ?_) (fun f => ?_) (fun t u f g h ih => ?_) (fun t u f g h ih => ?_) (fun t u f g h ih => ?_)
  · rw [mergeK_nilL]; exact fun _ hg => hg
  · rw [mergeK_nilR]; exact fun hf _ => hf
  · intro hf hg
    rw [mergeK_gt h]
    refine List.pairwise_cons.2 ⟨fun x hx => ?_, ih hf.tail hg⟩
    obtain ⟨y, hy, e⟩ := mergeK_kmem p _ _ x hx
    rcases hy with hy | hy
    · have := hf.head y hy; omega
    · have := hg.le y hy; omega
  · intro hf hg
    rw [mergeK_lt h]
    refine List.pairwise_cons.2 ⟨fun x hx => ?_, ih hf hg.tail⟩
    obtain ⟨y, hy, e⟩ := mergeK_kmem p _ _ x hx
    rcases hy with hy | hy
    · have := hf.le y hy; omega
    · have := hg.head y hy; omega
  · intro hf hg
    by_cases hc : (t.c + u.c) % p = 0
    · rw [mergeK_no h hc]; exact ih hf.tail hg.tail
    · rw [mergeK_eq h hc]
      refine List.pairwise_cons.2 ⟨fun x hx => ?_, ih hf.tail hg.tail⟩
      obtain ⟨y, hy, e⟩ := mergeK_kmem p _ _ x hx
      simp only
      rcases hy with hy | hy
      · have := hf.head y hy; omega
      · have := hg.head y hy; omega

theorem nodup_le : ∀ (M : Nat) (l : List Nat), l.Nodup → (∀ x ∈ l, x < M) → l.length ≤ M
  | 0, l, _, h => by
    cases l with
    | nil => simp
    | cons x l => exact absurd (h x (by simp)) (by omega)
  | M + 1, l, hn, h => by
    by_cases hm : M ∈ l
    · have h1 := List.length_erase_of_mem hm
      have h2 := nodup_le M (l.erase M) (hn.erase M) (fun x hx => by
        have := (List.Nodup.mem_erase_iff hn).1 hx
        have := h x this.2
        omega)
      omega
    · exact Nat.le_trans (nodup_le M l hn fun x hx => by
        have := h x hx
        have : x ≠ M := fun e => hm (e ▸ hx)
        omega) (by omega)

theorem gr1_spec {g : Option Ft} {row : List Ft} (hd : Dn row) : (∀ u, g = some u → ∃ t, gr1 g row = some t ∧ u.k ≤ t.k) ∧ (∀ u ∈ row, ∃ t, gr1 g row = some t ∧ u.k ≤ t.k) ∧ (∀ t, gr1 g row = some t → g = some t ∨ ∃ ts, row = t :: ts) := by
  cases row with
  | nil => exact ⟨fun u h => ⟨u, h, Int.le_refl _⟩, fun u h => by simp at h, fun t h => Or.inl h⟩
  | cons t ts =>
    cases g with
    | none => exact ⟨fun u h => by simp at h, fun u h => ⟨t, rfl, hd.le u h⟩, fun x h => by simp only [gr1, Option.some.injEq] at h; exact Or.inr ⟨ts, by rw [h]⟩⟩
    | some g =>
      simp only [gr1]
      split
      · exact ⟨fun u h => ⟨t, rfl, by simp at h; subst h; omega⟩, fun u h => ⟨t, rfl, hd.le u h⟩, fun x h => by simp only [Option.some.injEq] at h; exact Or.inr ⟨ts, by rw [h]⟩⟩
      · exact ⟨fun u h => ⟨g, rfl, by simp at h; subst h; omega⟩, fun u h => ⟨g, rfl, by have := hd.le u h; omega⟩, fun x h => Or.inl h⟩
theorem grf_spec : ∀ (rows : List (List Ft)) (g : Option Ft), (∀ r ∈ rows, Dn r) → (∀ u, g = some u → ∃ t, rows.foldl gr1 g = some t ∧ u.k ≤ t.k) ∧ (∀ r ∈ rows, ∀ u ∈ r, ∃ t, rows.foldl gr1 g = some t ∧ u.k ≤ t.k) ∧ (∀ t, rows.foldl gr1 g = some t → g = some t ∨ ∃ ts, (t :: ts) ∈ rows)
  | [], g, _ => ⟨fun u h => ⟨u, h, Int.le_refl _⟩, fun r h => by simp at h, fun t h => Or.inl h⟩
  | r :: rows, g, hd => by
    obtain ⟨a1, a2, a3⟩ := gr1_spec (g := g) (hd r (by simp))
    obtain ⟨b1, b2, b3⟩ := grf_spec rows (gr1 g r) fun r hr => hd r (by simp [hr])
    refine ⟨fun u h => ?_, fun r' hr' u hu => ?_, fun t h => ?_⟩
    · obtain ⟨t, ht, hk⟩ := a1 u h
      obtain ⟨t2, ht2, hk2⟩ := b1 t ht
      exact ⟨t2, ht2, by omega⟩
    · rcases List.mem_cons.1 hr' with rfl | hr'
      · obtain ⟨t, ht, hk⟩ := a2 u hu
        obtain ⟨t2, ht2, hk2⟩ := b1 t ht
        exact ⟨t2, ht2, by omega⟩
      · exact b2 r' hr' u hu
    · rcases b3 t h with h | ⟨ts, h⟩
      · rcases a3 t h with h | ⟨ts, rfl⟩
        · exact Or.inl h
        · exact Or.inr ⟨ts, by simp⟩
      · exact Or.inr ⟨ts, by simp [h]⟩
theorem grt_none {rows : List (List Ft)} (hd : ∀ r ∈ rows, Dn r) (h : grt rows = none) : ∀ r ∈ rows, r = [] := by
  intro r hr
  cases r with
  | nil => rfl
  | cons t ts =>
    obtain ⟨x, hx, _⟩ := (grf_spec rows none hd).2.1 _ hr t (by simp)
    rw [grt] at h; rw [h] at hx; simp at hx
theorem grt_some {rows : List (List Ft)} (hd : ∀ r ∈ rows, Dn r) {t : Ft} (h : grt rows = some t) : (∃ ts, (t :: ts) ∈ rows) ∧ ∀ r ∈ rows, ∀ u ∈ r, u.k ≤ t.k := by
  obtain ⟨_, b2, b3⟩ := grf_spec rows none hd
  refine ⟨?_, fun r hr u hu => ?_⟩
  · rcases b3 t h with h | h
    · simp at h
    · exact h
  · obtain ⟨x, hx, hk⟩ := b2 r hr u hu
    rw [grt] at h; rw [h] at hx; simp at hx; subst hx; exact hk

def tk1 (key : Int) : List Ft → List Ft
  | [] => []
  | t :: ts => if t.k = key then ts else t :: ts
def tkC (key : Int) : List Ft → Int
  | [] => 0
  | t :: _ => if t.k = key then t.c else 0
def tk (key : Int) (rows : List (List Ft)) : List (List Ft) := rows.map (tk1 key)
def tkS (key : Int) (rows : List (List Ft)) : Int := (rows.map (tkC key)).sum
theorem tk1_sub (key : Int) (r : List Ft) : ∀ u ∈ tk1 key r, u ∈ r := by
  cases r with
  | nil => exact fun u h => h
  | cons t ts =>
    simp only [tk1]
    split
    · exact fun u h => by simp [h]
    · exact fun u h => h
theorem tk1_dn {key : Int} {r : List Ft} (h : Dn r) : Dn (tk1 key r) := by
  cases r with
  | nil => exact h
  | cons t ts =>
    simp only [tk1]
    split
    · exact h.tail
    · exact h
theorem tk1_lt {key : Int} {r : List Ft} (h : Dn r) (hk : ∀ u ∈ r, u.k ≤ key) : ∀ u ∈ tk1 key r, u.k < key := by
  cases r with
  | nil => exact fun u h => by simp [tk1] at h
  | cons t ts =>
    simp only [tk1]
    split
    · rename_i e; exact fun u hu => by have := h.head u hu; omega
    · rename_i e
      intro u hu
      have h1 := hk t (by simp)
      have h2 := h.le u hu
      omega
theorem tk1_cnt (key k : Int) {r : List Ft} : cnt k r = cnt k (tk1 key r) + if k = key then tkC key r else 0 := by
  cases r with
  | nil => simp [tk1, tkC, cnt]
  | cons t ts =>
    simp only [tk1, tkC]
    by_cases h : t.k = key
    · rw [if_pos h, if_pos h]
      simp only [cnt]
      by_cases hk : k = key
      · rw [if_pos (by omega), if_pos hk]; omega
      · rw [if_neg (by omega), if_neg hk]; omega
    · rw [if_neg h, if_neg h]
      simp
theorem tk_cnt (key k : Int) : ∀ rows : List (List Ft), cnt k rows.flatten = cnt k (tk key rows).flatten + if k = key then tkS key rows else 0
  | [] => by simp [tk, tkS, cnt]
  | r :: rows => by
    have h1 := tk1_cnt key k (r := r)
    have h2 := tk_cnt key k rows
    simp only [tk, tkS, List.map_cons, List.flatten_cons, List.sum_cons, cnt_append] at h2 ⊢
    split at h1
    · rename_i e; simp only [if_pos e] at h2 ⊢; omega
    · rename_i e; simp only [if_neg e] at h2 ⊢; omega
def tot (rows : List (List Ft)) : Nat := (rows.map List.length).sum
theorem tk_tot (key : Int) : ∀ rows : List (List Ft), tot (tk key rows) ≤ tot rows
  | [] => by simp [tk, tot]
  | r :: rows => by
    have h := tk_tot key rows
    have h1 : (tk1 key r).length ≤ r.length := by
      cases r with
      | nil => simp [tk1]
      | cons t ts => simp only [tk1]; split <;> simp
    simp only [tk, tot, List.map_cons, List.sum_cons] at h ⊢
    omega
theorem tk_tot_lt {t : Ft} {ts : List Ft} : ∀ {rows : List (List Ft)}, (t :: ts) ∈ rows → tot (tk t.k rows) < tot rows
  | [], h => by simp at h
  | r :: rows, h => by
    have h0 := tk_tot t.k rows
    have h1 : (tk1 t.k r).length ≤ r.length := by
      cases r with
      | nil => simp [tk1]
      | cons t ts => simp only [tk1]; split <;> simp
    rcases List.mem_cons.1 h with rfl | h
    · simp only [tk, tot, List.map_cons, List.sum_cons, tk1, if_pos] at h0 ⊢
      simp only [List.length_cons]; omega
    · have h2 := tk_tot_lt h
      simp only [tk, tot, List.map_cons, List.sum_cons] at h2 ⊢
      omega
def Nx (p : Int) (rows : List (List Ft)) (r : Option Ft) (rows2 : List (List Ft)) : Prop :=
  ∀ P : List (List Ft) → Option Ft → List (List Ft) → Prop, (∀ rows, grt rows = none → P rows none rows) → (∀ rows (t : Ft), grt rows = some t → tkS t.k rows % p ≠ 0 → P rows (some { t with c := tkS t.k rows % p }) (tk t.k rows)) →
    (∀ rows rows2 (t : Ft) r, grt rows = some t → tkS t.k rows % p = 0 → P (tk t.k rows) r rows2 → P rows r rows2) → P rows r rows2
theorem Nx.stop {p : Int} (rows : List (List Ft)) (h : grt rows = none) : Nx p rows none rows := fun _ h1 _ _ => h1 rows h
theorem Nx.hit {p : Int} (rows : List (List Ft)) (t : Ft) (h : grt rows = some t) (hz : tkS t.k rows % p ≠ 0) : Nx p rows (some { t with c := tkS t.k rows % p }) (tk t.k rows) := fun _ _ h2 _ => h2 rows t h hz
theorem Nx.go {p : Int} (rows rows2 : List (List Ft)) (t : Ft) (r : Option Ft) (h : grt rows = some t) (hz : tkS t.k rows % p = 0) (hn : Nx p (tk t.k rows) r rows2) : Nx p rows r rows2 := fun P h1 h2 h3 => h3 rows rows2 t r h hz (hn P h1 h2 h3)
theorem Nx.ind {p : Int} {motive : ∀ rows r rows2, Nx p rows r rows2 → Prop} (stop : ∀ rows h, motive rows none rows (Nx.stop rows h)) (hit : ∀ rows t h hz, motive _ _ _ (Nx.hit rows t h hz))
    (go : ∀ rows rows2 t r h hz hn, motive _ _ _ hn → motive _ _ _ (Nx.go rows rows2 t r h hz hn)) {rows : List (List Ft)} {r : Option Ft} {rows2 : List (List Ft)} (h : Nx p rows r rows2) : motive rows r rows2 h := by
  have := h (fun a b c => ∃ h, motive a b c h) (fun a h1 => ⟨_, stop a h1⟩) (fun a t h1 h2 => ⟨_, hit a t h1 h2⟩) (fun a b t r h1 h2 ⟨h3, h4⟩ => ⟨_, go a b t r h1 h2 h3 h4⟩)
  exact this.2
structure Rok (p : Int) (G : Ft → Prop) (rows : List (List Ft)) : Prop where
  dn : ∀ r ∈ rows, Dn r
  co : ∀ r ∈ rows, ∀ t ∈ r, 0 < t.c ∧ t.c < p
  gd : ∀ r ∈ rows, ∀ t ∈ r, G t
theorem Rok.tk {p : Int} {G : Ft → Prop} {rows : List (List Ft)} (h : Rok p G rows) (key : Int) : Rok p G (tk key rows) := by
  refine ⟨fun r hr => ?_, fun r hr t ht => ?_, fun r hr t ht => ?_⟩ <;> (obtain ⟨r0, h0, rfl⟩ := List.mem_map.1 hr)
  · exact tk1_dn (h.dn r0 h0)
  · exact h.co r0 h0 t (tk1_sub key r0 t ht)
  · exact h.gd r0 h0 t (tk1_sub key r0 t ht)
theorem Nx.spec {p : Int} (hp : 2 ≤ p) {G : Ft → Prop} (hG : ∀ x t, Alk x t → G t → G x) {rows rows2 : List (List Ft)} {r : Option Ft} (h : Nx p rows r rows2) : Rok p G rows →
    Rok p G rows2 ∧ rows2.length = rows.length ∧ match r with
      | none => ∀ k, p ∣ cnt k rows.flatten
      | some t => G t ∧ 0 < t.c ∧ t.c < p ∧ (∀ r ∈ rows2, ∀ u ∈ r, u.k < t.k) ∧ ∀ k, p ∣ cnt k rows.flatten - (cnt k rows2.flatten + if k = t.k then t.c else 0) := by
  induction h using Nx.ind with
  | stop rows hg =>
    intro hr
    refine ⟨hr, rfl, fun k => ?_⟩
    have he := grt_none hr.dn hg
    rw [cnt_far (fun t ht => by
      obtain ⟨r, h1, h2⟩ := List.mem_flatten.1 ht
      rw [he r h1] at h2; simp at h2)]
    exact ⟨0, by omega⟩
  | hit rows t hg hne =>
    intro hr
    obtain ⟨⟨ts, hm⟩, hle⟩ := grt_some hr.dn hg
    have h1 := Int.emod_nonneg (tkS t.k rows) (show p ≠ 0 by omega)
    have h2 := Int.emod_lt_of_pos (tkS t.k rows) (show 0 < p by omega)
    refine ⟨hr.tk _, by simp [tk], hG _ t ⟨rfl, rfl, rfl, rfl, rfl, rfl⟩ (hr.gd _ hm t (by simp)), by simp only; omega, h2, fun r hr2 u hu => ?_, fun k => ?_⟩
    · obtain ⟨r0, h0, rfl⟩ := List.mem_map.1 hr2
      exact tk1_lt (hr.dn r0 h0) (hle r0 h0) u hu
    · rw [tk_cnt t.k k rows]
      by_cases hk : k = t.k
      · simp only [if_pos hk]
        obtain ⟨m, hm⟩ := modDvd p (tkS t.k rows)
        exact ⟨-m, by rw [Int.mul_neg]; omega⟩
      · simp only [if_neg hk]
        exact ⟨0, by omega⟩
  | go rows rows2 t r hg hz hn ih =>
    intro hr
    obtain ⟨i1, i2, i3⟩ := ih (hr.tk _)
    refine ⟨i1, by rw [i2]; simp [tk], ?_⟩
    have hc : ∀ k, p ∣ cnt k rows.flatten - cnt k (tk t.k rows).flatten := fun k => by
      rw [tk_cnt t.k k rows]
      obtain ⟨m, hm⟩ := Int.dvd_of_emod_eq_zero hz
      by_cases hk : k = t.k
      · rw [if_pos hk]; exact ⟨m, by omega⟩
      · rw [if_neg hk]; exact ⟨0, by omega⟩
    cases r with
    | none =>
      intro k
      obtain ⟨a, ha⟩ := hc k
      obtain ⟨b, hb⟩ := i3 k
      exact ⟨a + b, by rw [Int.mul_add]; omega⟩
    | some x =>
      obtain ⟨j1, j2, j3, j4, j5⟩ := i3
      refine ⟨j1, j2, j3, j4, fun k => ?_⟩
      obtain ⟨a, ha⟩ := hc k
      obtain ⟨b, hb⟩ := j5 k
      exact ⟨a + b, by rw [Int.mul_add]; omega⟩
end Go.Proofs.YtilogbggilchaaaGreat
