/- PolyRing, walked. -/
import Derived.Test.YtilogbggilchaaaDoorPY
import Derived.Test.YtilogbggilchaaaDoorFK
import Derived.Test.YtilogbggilchaaaDoorM
namespace Go.Proofs.YtilogbggilchaaaDoor
set_option linter.unusedSimpArgs false
set_option linter.unusedVariables false
open Go.RowKit
structure MidR (w w' : World) (x y z a : Value) (f g h : List Tm) (xs : List Int) (p n o v : Int) : Prop where
  below : Below w.heap.size w w'
  box : BoxAt w' w.heap.size p n o v
  pf : Pl w' x f
  pg : Pl w' y g
  ph : Pl w' z h
  sa : Sl w' a xs
theorem MidR.next {w w' w2 : World} {x y z a : Value} {f g h : List Tm} {xs : List Int} {p n o v : Int} (m : MidR w w' x y z a f g h xs p n o v) (hb : Below w'.heap.size w' w2) : MidR w w2 x y z a f g h xs p n o v :=
  ⟨m.below.trans (hb.mono m.below.size), m.box.below hb, m.pf.below hb, m.pg.below hb, m.ph.below hb, m.sa.below hb⟩
theorem MidR.new {w : World} {x y z a : Value} {f g h : List Tm} {xs : List Int} {p n o v : Int} (pf : Pl w x f) (pg : Pl w y g) (ph : Pl w z h) (sa : Sl w a xs) (T : TypeId) : MidR w (w.alloc (.cells #[.int .i64 p, .int .i64 n, .int .i64 o, .int .i64 v] T)) x y z a f g h xs p n o v :=
  ⟨below_one, BoxAt.new w p n o v T, pf.below below_one, pg.below below_one, ph.below below_one, sa.below below_one⟩

set_option maxRecDepth 100000 in
set_option maxHeartbeats 4000000 in
theorem polyRing_bad (p n o v : Int) (chk chk7 : List (List Tm) → Int) (HC : Tells p n o v chk) (HC7 : Tells 7 2 1 1 chk7) (hJ : JoK) (hI : ∀ w, ItoK (fun i => i < 100) w) (x y z a : Value) (f g h : List Tm) (xs : List Int) (w : World) (pf : Pl w x f) (pg : Pl w y g) (ph : Pl w z h) (sa : Sl w a xs)
    (hbad : ¬ (addE (chk [f, g]) p o f g = 0 ∧ mulE (chk [f, g]) p o f g = 0 ∧ mulE (chk [g, f]) p o g f = 0)) :
    Calls Tryd.prog 5 #[ringV p n o v, x, y, z, a] w fun e w' => e = .returned (.bool true) ∧ Below w.heap.size w w' := by
  have HP := hid pf
  have HQ := hid pg
  have HR := hid ph
  have HS := hid sa
  have HT := hid HC
  have HT7 := hid HC7
  have HJ := hid hJ
  have HI := hid hI
  obtain ⟨a1, c1, rfl, _, _⟩ := pf
  obtain ⟨a2, c2, rfl, _, _⟩ := pg
  obtain ⟨a3, c3, rfl, _, _⟩ := ph
  obtain ⟨a4, c4, rfl, _⟩ := sa
  clear HC HC7 hJ hI
  have HB : Hid ((addE (chk [f, g]) p o f g != 0) = true ∨ ((addE (chk [f, g]) p o f g != 0) = false ∧ (mulE (chk [f, g]) p o f g != 0) = true) ∨ ((addE (chk [f, g]) p o f g != 0) = false ∧ (mulE (chk [f, g]) p o f g != 0) = false ∧ (mulE (chk [g, f]) p o g f != 0) = true)) := by
    unfold Hid
    by_cases h1 : addE (chk [f, g]) p o f g = 0
    · by_cases h2 : mulE (chk [f, g]) p o f g = 0
      · by_cases h3 : mulE (chk [g, f]) p o g f = 0
        · exact absurd ⟨h1, h2, h3⟩ hbad
        · simp [h1, h2, h3]
      · simp [h1, h2]
    · simp [h1]
  clear hbad
  rcases HB.out with h1 | ⟨h1, h2⟩ | ⟨h1, h2, h3⟩
  all_goals
    clear HB
    go_enter Tryd.func5, Tryd.ntmps5
    go_wp2_with fail
    refine (polyBegun_any chk7 HT7.out HJ.out _ (HI.out _)).mono ?_
    rintro e w1 ⟨rfl, hb⟩
    have M1 := hid ((MidR.new (p := p) (n := n) (o := o) (v := v) HP.out HQ.out HR.out HS.out _).next hb)
    clear hb
    go_wp2_with fail
    refine (fieldBegun_any _).mono ?_
    rintro e w2 ⟨rfl, hb⟩
    have M2 := hid (M1.out.next hb)
    clear M1 hb
    obtain ⟨q, q0, q1, q2, q3⟩ := M2.out.box
    go_wp2_with fail
    refine (polyAdd_any p n o v chk HT.out _ _ f g _ M2.out.pf M2.out.pg).mono ?_
    rintro e w3 ⟨u, rfl, hu, hb⟩
    have Us := hid hu
    obtain ⟨uas, ucs, rfl, _, _⟩ := hu
    have M3 := hid (M2.out.next hb)
    clear M2 hb q q0 q1 q2 q3
    obtain ⟨q, q0, q1, q2, q3⟩ := M3.out.box
    go_wp2_with fail
    refine (polyMul_any p n o v chk HT.out _ _ f g _ M3.out.pf M3.out.pg).mono ?_
    rintro e w4 ⟨u, rfl, hu, hb⟩
    have Um := hid hu
    obtain ⟨uam, ucm, rfl, _, _⟩ := hu
    have M4 := hid (M3.out.next hb)
    replace Us := hid (Us.out.below hb)
    clear M3 hb q q0 q1 q2 q3
    obtain ⟨q, q0, q1, q2, q3⟩ := M4.out.box
    go_wp2_with fail
    refine (polyMul_any p n o v chk HT.out _ _ g f _ M4.out.pg M4.out.pf).mono ?_
    rintro e w5 ⟨u, rfl, hu, hb⟩
    have Uk := hid hu
    obtain ⟨uak, uck, rfl, _, _⟩ := hu
    have M5 := hid (M4.out.next hb)
    replace Us := hid (Us.out.below hb)
    replace Um := hid (Um.out.below hb)
    clear M4 hb q q0 q1 q2 q3
    obtain ⟨q, q0, q1, q2, q3⟩ := M5.out.box
    go_wp2
    go_ret
    exact ⟨rfl, M5.out.below⟩

set_option maxRecDepth 100000 in
set_option maxHeartbeats 4000000 in
theorem polyRing_goodVal (p n o v : Int) (chk chk7 : List (List Tm) → Int) (HC : Tells p n o v chk) (HC7 : Tells 7 2 1 1 chk7) (hJ : JoK) (hI : ∀ w, ItoK (fun i => i < 100) w) (x y z a : Value) (f g h : List Tm) (xs : List Int) (w : World) (pf : Pl w x f) (pg : Pl w y g) (ph : Pl w z h) (sa : Sl w a xs)
    (hz : addE (chk [f, g]) p o f g = 0 ∧ mulE (chk [f, g]) p o f g = 0 ∧ mulE (chk [g, f]) p o g f = 0) (hm : mulE (chk [colL p o (f ++ g), h]) p o (colL p o (f ++ g)) h = 0 ∧ mulE (chk [f, h]) p o f h = 0 ∧ mulE (chk [g, h]) p o g h = 0) (hv : valE 0 n p xs = 0) :
    Calls Tryd.prog 5 #[ringV p n o v, x, y, z, a] w fun e w' => e = .returned (.bool true) ∧ Below w.heap.size w w' := by
  have HP := hid pf
  have HQ := hid pg
  have HR := hid ph
  have HS := hid sa
  have HT := hid HC
  have HT7 := hid HC7
  have HJ := hid hJ
  have HI := hid hI
  obtain ⟨a1, c1, rfl, _, _⟩ := pf
  obtain ⟨a2, c2, rfl, _, _⟩ := pg
  obtain ⟨a3, c3, rfl, _, _⟩ := ph
  obtain ⟨a4, c4, rfl, _⟩ := sa
  clear HC HC7 hJ hI
  have G := hid (good_of HT.out hz.1 hz.2.1 hz.2.2)
  have Z := hid hz
  clear hz
  have hp := G.out.pr
  obtain ⟨A, B, ⟨ha0, ha1⟩, ⟨hb0, hb1⟩, vv⟩ := vals_of G.out hv
  have VV := hid (And.intro hv vv)
  obtain ⟨hm1, hm2⟩ := mul_bd (a := A) (b := B) ⟨by omega, by omega, by omega, by omega⟩
  have hp1 := hp.1
  have hp2 := hp.2
  clear hp vv hv
  have D := hid (dist_of HT.out G.out hm.1 hm.2.1 hm.2.2)
  have Y := hid hm
  clear hm
  go_enter Tryd.func5, Tryd.ntmps5
  go_wp2_with fail
  refine (polyBegun_any chk7 HT7.out HJ.out _ (HI.out _)).mono ?_
  rintro e w1 ⟨rfl, hb⟩
  have M1 := hid ((MidR.new (p := p) (n := n) (o := o) (v := v) HP.out HQ.out HR.out HS.out _).next hb)
  clear hb
  go_wp2_with fail
  refine (fieldBegun_any _).mono ?_
  rintro e w2 ⟨rfl, hb⟩
  have M2 := hid (M1.out.next hb)
  clear M1 hb
  obtain ⟨q, q0, q1, q2, q3⟩ := M2.out.box
  go_wp2_with fail
  refine (polyAdd_any p n o v chk HT.out _ _ f g _ M2.out.pf M2.out.pg).mono ?_
  rintro e w3 ⟨u, rfl, hu, hb⟩
  rw [Z.out.1]
  rw [G.out.c1] at hu
  have Us := hid hu
  obtain ⟨uas, ucs, rfl, _, _⟩ := hu
  have M3 := hid (M2.out.next hb)
  clear M2 hb q q0 q1 q2 q3
  obtain ⟨q, q0, q1, q2, q3⟩ := M3.out.box
  go_wp2_with fail
  refine (polyMul_any p n o v chk HT.out _ _ f g _ M3.out.pf M3.out.pg).mono ?_
  rintro e w4 ⟨u, rfl, hu, hb⟩
  rw [Z.out.2.1]
  rw [G.out.c2] at hu
  have Um := hid hu
  obtain ⟨uam, ucm, rfl, _, _⟩ := hu
  have M4 := hid (M3.out.next hb)
  replace Us := hid (Us.out.below hb)
  clear M3 hb q q0 q1 q2 q3
  obtain ⟨q, q0, q1, q2, q3⟩ := M4.out.box
  go_wp2_with fail
  refine (polyMul_any p n o v chk HT.out _ _ g f _ M4.out.pg M4.out.pf).mono ?_
  rintro e w5 ⟨u, rfl, hu, hb⟩
  rw [Z.out.2.2]
  rw [G.out.c3] at hu
  have Uk := hid hu
  obtain ⟨uak, uck, rfl, _, _⟩ := hu
  have M5 := hid (M4.out.next hb)
  replace Us := hid (Us.out.below hb)
  replace Um := hid (Um.out.below hb)
  clear M4 hb q q0 q1 q2 q3
  obtain ⟨q, q0, q1, q2, q3⟩ := M5.out.box
  go_wp2_with fail
  refine (samePoly_any _ _ (colL p o (prodL p f g)) (colL p o (prodL p f g)) _ (by have := G.out.rm.len; omega) (fun t ht => by rw [G.out.rm.canon.len t ht]; exact G.out.n3.2) Um.out Uk.out).mono ?_
  rintro e w6 ⟨rfl, hb⟩
  rw [show decide ((colL p o (prodL p f g)) = (colL p o (prodL p f g))) = true from decide_eq_true rfl]
  have M6 := hid (M5.out.next hb)
  replace Us := hid (Us.out.below hb)
  replace Um := hid (Um.out.below hb)
  replace Uk := hid (Uk.out.below hb)
  clear M5 hb q q0 q1 q2 q3
  clear Uk
  obtain ⟨q, q0, q1, q2, q3⟩ := M6.out.box
  go_wp2_with fail
  refine (polyMul_any p n o v chk HT.out _ _ (colL p o (f ++ g)) h _ Us.out M6.out.ph).mono ?_
  rintro e w7 ⟨u, rfl, hu, hb⟩
  rw [Y.out.1]
  rw [D.out.cx] at hu
  have Ux := hid hu
  obtain ⟨uax, ucx, rfl, _, _⟩ := hu
  have M7 := hid (M6.out.next hb)
  replace Us := hid (Us.out.below hb)
  replace Um := hid (Um.out.below hb)
  clear M6 hb q q0 q1 q2 q3
  obtain ⟨q, q0, q1, q2, q3⟩ := M7.out.box
  go_wp2_with fail
  refine (polyMul_any p n o v chk HT.out _ _ f h _ M7.out.pf M7.out.ph).mono ?_
  rintro e w8 ⟨u, rfl, hu, hb⟩
  rw [Y.out.2.1]
  rw [D.out.cy] at hu
  have Uy := hid hu
  obtain ⟨uay, ucy, rfl, _, _⟩ := hu
  have M8 := hid (M7.out.next hb)
  replace Us := hid (Us.out.below hb)
  replace Um := hid (Um.out.below hb)
  replace Ux := hid (Ux.out.below hb)
  clear M7 hb q q0 q1 q2 q3
  obtain ⟨q, q0, q1, q2, q3⟩ := M8.out.box
  go_wp2_with fail
  refine (polyMul_any p n o v chk HT.out _ _ g h _ M8.out.pg M8.out.ph).mono ?_
  rintro e w9 ⟨u, rfl, hu, hb⟩
  rw [Y.out.2.2]
  rw [D.out.cz] at hu
  have Uz := hid hu
  obtain ⟨uaz, ucz, rfl, _, _⟩ := hu
  have M9 := hid (M8.out.next hb)
  replace Us := hid (Us.out.below hb)
  replace Um := hid (Um.out.below hb)
  replace Ux := hid (Ux.out.below hb)
  replace Uy := hid (Uy.out.below hb)
  clear M8 hb q q0 q1 q2 q3
  obtain ⟨q, q0, q1, q2, q3⟩ := M9.out.box
  go_wp2_with fail
  refine (polyAdd_any p n o v chk HT.out _ _ _ _ _ Uy.out Uz.out).mono ?_
  rintro e w10 ⟨u, rfl, hu, hb⟩
  rw [D.out.et]
  rw [D.out.ct] at hu
  have Ut := hid hu
  obtain ⟨uat, uct, rfl, _, _⟩ := hu
  have M10 := hid (M9.out.next hb)
  replace Us := hid (Us.out.below hb)
  replace Um := hid (Um.out.below hb)
  replace Ux := hid (Ux.out.below hb)
  replace Uy := hid (Uy.out.below hb)
  replace Uz := hid (Uz.out.below hb)
  clear M9 hb q q0 q1 q2 q3
  obtain ⟨q, q0, q1, q2, q3⟩ := M10.out.box
  go_wp2_with fail
  refine (samePoly_any _ _ (colL p o (prodL p (colL p o (f ++ g)) h)) (colL p o (prodL p (colL p o (f ++ g)) h)) _ (by have := D.out.rx.len; omega) (fun t ht => by rw [D.out.rx.canon.len t ht]; exact G.out.n3.2) Ut.out Ux.out).mono ?_
  rintro e w11 ⟨rfl, hb⟩
  rw [show decide ((colL p o (prodL p (colL p o (f ++ g)) h)) = (colL p o (prodL p (colL p o (f ++ g)) h))) = true from decide_eq_true rfl]
  have M11 := hid (M10.out.next hb)
  replace Us := hid (Us.out.below hb)
  replace Um := hid (Um.out.below hb)
  replace Ux := hid (Ux.out.below hb)
  replace Uy := hid (Uy.out.below hb)
  replace Uz := hid (Uz.out.below hb)
  replace Ut := hid (Ut.out.below hb)
  clear M10 hb q q0 q1 q2 q3
  obtain ⟨q, q0, q1, q2, q3⟩ := M11.out.box
  go_wp2_with fail
  refine (polyValue_any p n o v chk HT.out _ _ f xs _ M11.out.pf M11.out.sa).mono ?_
  rintro e w12 ⟨rfl, hb⟩
  rw [G.out.kf]
  rw [VV.out.1, VV.out.2.1]
  have M12 := hid (M11.out.next hb)
  replace Us := hid (Us.out.below hb)
  replace Um := hid (Um.out.below hb)
  replace Ux := hid (Ux.out.below hb)
  replace Uy := hid (Uy.out.below hb)
  replace Uz := hid (Uz.out.below hb)
  replace Ut := hid (Ut.out.below hb)
  clear M11 hb q q0 q1 q2 q3
  obtain ⟨q, q0, q1, q2, q3⟩ := M12.out.box
  go_wp2_with fail
  refine (polyValue_any p n o v chk HT.out _ _ g xs _ M12.out.pg M12.out.sa).mono ?_
  rintro e w13 ⟨rfl, hb⟩
  rw [G.out.kg]
  rw [VV.out.1, VV.out.2.2.1]
  have M13 := hid (M12.out.next hb)
  replace Us := hid (Us.out.below hb)
  replace Um := hid (Um.out.below hb)
  replace Ux := hid (Ux.out.below hb)
  replace Uy := hid (Uy.out.below hb)
  replace Uz := hid (Uz.out.below hb)
  replace Ut := hid (Ut.out.below hb)
  clear M12 hb q q0 q1 q2 q3
  obtain ⟨q, q0, q1, q2, q3⟩ := M13.out.box
  go_wp2_with fail
  refine (polyValue_any p n o v chk HT.out _ _ (colL p o (f ++ g)) xs _ Us.out M13.out.sa).mono ?_
  rintro e w14 ⟨rfl, hb⟩
  rw [G.out.ks]
  rw [VV.out.1, VV.out.2.2.2.1]
  have M14 := hid (M13.out.next hb)
  replace Us := hid (Us.out.below hb)
  replace Um := hid (Um.out.below hb)
  replace Ux := hid (Ux.out.below hb)
  replace Uy := hid (Uy.out.below hb)
  replace Uz := hid (Uz.out.below hb)
  replace Ut := hid (Ut.out.below hb)
  clear M13 hb q q0 q1 q2 q3
  obtain ⟨q, q0, q1, q2, q3⟩ := M14.out.box
  go_wp2_with fail
  refine (polyValue_any p n o v chk HT.out _ _ (colL p o (prodL p f g)) xs _ Um.out M14.out.sa).mono ?_
  rintro e w15 ⟨rfl, hb⟩
  rw [G.out.km]
  rw [VV.out.1, VV.out.2.2.2.2]
  have M15 := hid (M14.out.next hb)
  replace Us := hid (Us.out.below hb)
  replace Um := hid (Um.out.below hb)
  replace Ux := hid (Ux.out.below hb)
  replace Uy := hid (Uy.out.below hb)
  replace Uz := hid (Uz.out.below hb)
  replace Ut := hid (Ut.out.below hb)
  clear M14 hb q q0 q1 q2 q3
  obtain ⟨q, q0, q1, q2, q3⟩ := M15.out.box
  go_wp2
  go_ret
  exact ⟨by simp, M15.out.below⟩

set_option maxRecDepth 100000 in
set_option maxHeartbeats 4000000 in
theorem polyRing_goodNo (p n o v : Int) (chk chk7 : List (List Tm) → Int) (HC : Tells p n o v chk) (HC7 : Tells 7 2 1 1 chk7) (hJ : JoK) (hI : ∀ w, ItoK (fun i => i < 100) w) (x y z a : Value) (f g h : List Tm) (xs : List Int) (w : World) (pf : Pl w x f) (pg : Pl w y g) (ph : Pl w z h) (sa : Sl w a xs)
    (hz : addE (chk [f, g]) p o f g = 0 ∧ mulE (chk [f, g]) p o f g = 0 ∧ mulE (chk [g, f]) p o g f = 0) (hm : mulE (chk [colL p o (f ++ g), h]) p o (colL p o (f ++ g)) h = 0 ∧ mulE (chk [f, h]) p o f h = 0 ∧ mulE (chk [g, h]) p o g h = 0) (hv : (valE 0 n p xs != 0) = true) :
    Calls Tryd.prog 5 #[ringV p n o v, x, y, z, a] w fun e w' => e = .returned (.bool true) ∧ Below w.heap.size w w' := by
  have HP := hid pf
  have HQ := hid pg
  have HR := hid ph
  have HS := hid sa
  have HT := hid HC
  have HT7 := hid HC7
  have HJ := hid hJ
  have HI := hid hI
  obtain ⟨a1, c1, rfl, _, _⟩ := pf
  obtain ⟨a2, c2, rfl, _, _⟩ := pg
  obtain ⟨a3, c3, rfl, _, _⟩ := ph
  obtain ⟨a4, c4, rfl, _⟩ := sa
  clear HC HC7 hJ hI
  have G := hid (good_of HT.out hz.1 hz.2.1 hz.2.2)
  have Z := hid hz
  clear hz
  have D := hid (dist_of HT.out G.out hm.1 hm.2.1 hm.2.2)
  have Y := hid hm
  clear hm
  go_enter Tryd.func5, Tryd.ntmps5
  go_wp2_with fail
  refine (polyBegun_any chk7 HT7.out HJ.out _ (HI.out _)).mono ?_
  rintro e w1 ⟨rfl, hb⟩
  have M1 := hid ((MidR.new (p := p) (n := n) (o := o) (v := v) HP.out HQ.out HR.out HS.out _).next hb)
  clear hb
  go_wp2_with fail
  refine (fieldBegun_any _).mono ?_
  rintro e w2 ⟨rfl, hb⟩
  have M2 := hid (M1.out.next hb)
  clear M1 hb
  obtain ⟨q, q0, q1, q2, q3⟩ := M2.out.box
  go_wp2_with fail
  refine (polyAdd_any p n o v chk HT.out _ _ f g _ M2.out.pf M2.out.pg).mono ?_
  rintro e w3 ⟨u, rfl, hu, hb⟩
  rw [Z.out.1]
  rw [G.out.c1] at hu
  have Us := hid hu
  obtain ⟨uas, ucs, rfl, _, _⟩ := hu
  have M3 := hid (M2.out.next hb)
  clear M2 hb q q0 q1 q2 q3
  obtain ⟨q, q0, q1, q2, q3⟩ := M3.out.box
  go_wp2_with fail
  refine (polyMul_any p n o v chk HT.out _ _ f g _ M3.out.pf M3.out.pg).mono ?_
  rintro e w4 ⟨u, rfl, hu, hb⟩
  rw [Z.out.2.1]
  rw [G.out.c2] at hu
  have Um := hid hu
  obtain ⟨uam, ucm, rfl, _, _⟩ := hu
  have M4 := hid (M3.out.next hb)
  replace Us := hid (Us.out.below hb)
  clear M3 hb q q0 q1 q2 q3
  obtain ⟨q, q0, q1, q2, q3⟩ := M4.out.box
  go_wp2_with fail
  refine (polyMul_any p n o v chk HT.out _ _ g f _ M4.out.pg M4.out.pf).mono ?_
  rintro e w5 ⟨u, rfl, hu, hb⟩
  rw [Z.out.2.2]
  rw [G.out.c3] at hu
  have Uk := hid hu
  obtain ⟨uak, uck, rfl, _, _⟩ := hu
  have M5 := hid (M4.out.next hb)
  replace Us := hid (Us.out.below hb)
  replace Um := hid (Um.out.below hb)
  clear M4 hb q q0 q1 q2 q3
  obtain ⟨q, q0, q1, q2, q3⟩ := M5.out.box
  go_wp2_with fail
  refine (samePoly_any _ _ (colL p o (prodL p f g)) (colL p o (prodL p f g)) _ (by have := G.out.rm.len; omega) (fun t ht => by rw [G.out.rm.canon.len t ht]; exact G.out.n3.2) Um.out Uk.out).mono ?_
  rintro e w6 ⟨rfl, hb⟩
  rw [show decide ((colL p o (prodL p f g)) = (colL p o (prodL p f g))) = true from decide_eq_true rfl]
  have M6 := hid (M5.out.next hb)
  replace Us := hid (Us.out.below hb)
  replace Um := hid (Um.out.below hb)
  replace Uk := hid (Uk.out.below hb)
  clear M5 hb q q0 q1 q2 q3
  clear Uk
  obtain ⟨q, q0, q1, q2, q3⟩ := M6.out.box
  go_wp2_with fail
  refine (polyMul_any p n o v chk HT.out _ _ (colL p o (f ++ g)) h _ Us.out M6.out.ph).mono ?_
  rintro e w7 ⟨u, rfl, hu, hb⟩
  rw [Y.out.1]
  rw [D.out.cx] at hu
  have Ux := hid hu
  obtain ⟨uax, ucx, rfl, _, _⟩ := hu
  have M7 := hid (M6.out.next hb)
  replace Us := hid (Us.out.below hb)
  replace Um := hid (Um.out.below hb)
  clear M6 hb q q0 q1 q2 q3
  obtain ⟨q, q0, q1, q2, q3⟩ := M7.out.box
  go_wp2_with fail
  refine (polyMul_any p n o v chk HT.out _ _ f h _ M7.out.pf M7.out.ph).mono ?_
  rintro e w8 ⟨u, rfl, hu, hb⟩
  rw [Y.out.2.1]
  rw [D.out.cy] at hu
  have Uy := hid hu
  obtain ⟨uay, ucy, rfl, _, _⟩ := hu
  have M8 := hid (M7.out.next hb)
  replace Us := hid (Us.out.below hb)
  replace Um := hid (Um.out.below hb)
  replace Ux := hid (Ux.out.below hb)
  clear M7 hb q q0 q1 q2 q3
  obtain ⟨q, q0, q1, q2, q3⟩ := M8.out.box
  go_wp2_with fail
  refine (polyMul_any p n o v chk HT.out _ _ g h _ M8.out.pg M8.out.ph).mono ?_
  rintro e w9 ⟨u, rfl, hu, hb⟩
  rw [Y.out.2.2]
  rw [D.out.cz] at hu
  have Uz := hid hu
  obtain ⟨uaz, ucz, rfl, _, _⟩ := hu
  have M9 := hid (M8.out.next hb)
  replace Us := hid (Us.out.below hb)
  replace Um := hid (Um.out.below hb)
  replace Ux := hid (Ux.out.below hb)
  replace Uy := hid (Uy.out.below hb)
  clear M8 hb q q0 q1 q2 q3
  obtain ⟨q, q0, q1, q2, q3⟩ := M9.out.box
  go_wp2_with fail
  refine (polyAdd_any p n o v chk HT.out _ _ _ _ _ Uy.out Uz.out).mono ?_
  rintro e w10 ⟨u, rfl, hu, hb⟩
  rw [D.out.et]
  rw [D.out.ct] at hu
  have Ut := hid hu
  obtain ⟨uat, uct, rfl, _, _⟩ := hu
  have M10 := hid (M9.out.next hb)
  replace Us := hid (Us.out.below hb)
  replace Um := hid (Um.out.below hb)
  replace Ux := hid (Ux.out.below hb)
  replace Uy := hid (Uy.out.below hb)
  replace Uz := hid (Uz.out.below hb)
  clear M9 hb q q0 q1 q2 q3
  obtain ⟨q, q0, q1, q2, q3⟩ := M10.out.box
  go_wp2_with fail
  refine (samePoly_any _ _ (colL p o (prodL p (colL p o (f ++ g)) h)) (colL p o (prodL p (colL p o (f ++ g)) h)) _ (by have := D.out.rx.len; omega) (fun t ht => by rw [D.out.rx.canon.len t ht]; exact G.out.n3.2) Ut.out Ux.out).mono ?_
  rintro e w11 ⟨rfl, hb⟩
  rw [show decide ((colL p o (prodL p (colL p o (f ++ g)) h)) = (colL p o (prodL p (colL p o (f ++ g)) h))) = true from decide_eq_true rfl]
  have M11 := hid (M10.out.next hb)
  replace Us := hid (Us.out.below hb)
  replace Um := hid (Um.out.below hb)
  replace Ux := hid (Ux.out.below hb)
  replace Uy := hid (Uy.out.below hb)
  replace Uz := hid (Uz.out.below hb)
  replace Ut := hid (Ut.out.below hb)
  clear M10 hb q q0 q1 q2 q3
  obtain ⟨q, q0, q1, q2, q3⟩ := M11.out.box
  go_wp2_with fail
  refine (polyValue_any p n o v chk HT.out _ _ f xs _ M11.out.pf M11.out.sa).mono ?_
  rintro e w12 ⟨rfl, hb⟩
  rw [G.out.kf]
  have M12 := hid (M11.out.next hb)
  replace Us := hid (Us.out.below hb)
  replace Um := hid (Um.out.below hb)
  replace Ux := hid (Ux.out.below hb)
  replace Uy := hid (Uy.out.below hb)
  replace Uz := hid (Uz.out.below hb)
  replace Ut := hid (Ut.out.below hb)
  clear M11 hb q q0 q1 q2 q3
  obtain ⟨q, q0, q1, q2, q3⟩ := M12.out.box
  go_wp2_with fail
  refine (polyValue_any p n o v chk HT.out _ _ g xs _ M12.out.pg M12.out.sa).mono ?_
  rintro e w13 ⟨rfl, hb⟩
  rw [G.out.kg]
  have M13 := hid (M12.out.next hb)
  replace Us := hid (Us.out.below hb)
  replace Um := hid (Um.out.below hb)
  replace Ux := hid (Ux.out.below hb)
  replace Uy := hid (Uy.out.below hb)
  replace Uz := hid (Uz.out.below hb)
  replace Ut := hid (Ut.out.below hb)
  clear M12 hb q q0 q1 q2 q3
  obtain ⟨q, q0, q1, q2, q3⟩ := M13.out.box
  go_wp2_with fail
  refine (polyValue_any p n o v chk HT.out _ _ (colL p o (f ++ g)) xs _ Us.out M13.out.sa).mono ?_
  rintro e w14 ⟨rfl, hb⟩
  rw [G.out.ks]
  have M14 := hid (M13.out.next hb)
  replace Us := hid (Us.out.below hb)
  replace Um := hid (Um.out.below hb)
  replace Ux := hid (Ux.out.below hb)
  replace Uy := hid (Uy.out.below hb)
  replace Uz := hid (Uz.out.below hb)
  replace Ut := hid (Ut.out.below hb)
  clear M13 hb q q0 q1 q2 q3
  obtain ⟨q, q0, q1, q2, q3⟩ := M14.out.box
  go_wp2_with fail
  refine (polyValue_any p n o v chk HT.out _ _ (colL p o (prodL p f g)) xs _ Um.out M14.out.sa).mono ?_
  rintro e w15 ⟨rfl, hb⟩
  rw [G.out.km]
  have M15 := hid (M14.out.next hb)
  replace Us := hid (Us.out.below hb)
  replace Um := hid (Um.out.below hb)
  replace Ux := hid (Ux.out.below hb)
  replace Uy := hid (Uy.out.below hb)
  replace Uz := hid (Uz.out.below hb)
  replace Ut := hid (Ut.out.below hb)
  clear M14 hb q q0 q1 q2 q3
  obtain ⟨q, q0, q1, q2, q3⟩ := M15.out.box
  go_wp2
  go_ret
  exact ⟨rfl, M15.out.below⟩

set_option maxRecDepth 100000 in
set_option maxHeartbeats 4000000 in
theorem polyRing_someVal (p n o v : Int) (chk chk7 : List (List Tm) → Int) (HC : Tells p n o v chk) (HC7 : Tells 7 2 1 1 chk7) (hJ : JoK) (hI : ∀ w, ItoK (fun i => i < 100) w) (x y z a : Value) (f g h : List Tm) (xs : List Int) (w : World) (pf : Pl w x f) (pg : Pl w y g) (ph : Pl w z h) (sa : Sl w a xs)
    (hz : addE (chk [f, g]) p o f g = 0 ∧ mulE (chk [f, g]) p o f g = 0 ∧ mulE (chk [g, f]) p o g f = 0) (hm : ¬ (mulE (chk [colL p o (f ++ g), h]) p o (colL p o (f ++ g)) h = 0 ∧ mulE (chk [f, h]) p o f h = 0 ∧ mulE (chk [g, h]) p o g h = 0)) (hv : valE 0 n p xs = 0) :
    Calls Tryd.prog 5 #[ringV p n o v, x, y, z, a] w fun e w' => e = .returned (.bool true) ∧ Below w.heap.size w w' := by
  have HP := hid pf
  have HQ := hid pg
  have HR := hid ph
  have HS := hid sa
  have HT := hid HC
  have HT7 := hid HC7
  have HJ := hid hJ
  have HI := hid hI
  obtain ⟨a1, c1, rfl, _, _⟩ := pf
  obtain ⟨a2, c2, rfl, _, _⟩ := pg
  obtain ⟨a3, c3, rfl, _, _⟩ := ph
  obtain ⟨a4, c4, rfl, _⟩ := sa
  clear HC HC7 hJ hI
  have G := hid (good_of HT.out hz.1 hz.2.1 hz.2.2)
  have Z := hid hz
  clear hz
  have hp := G.out.pr
  obtain ⟨A, B, ⟨ha0, ha1⟩, ⟨hb0, hb1⟩, vv⟩ := vals_of G.out hv
  have VV := hid (And.intro hv vv)
  obtain ⟨hm1, hm2⟩ := mul_bd (a := A) (b := B) ⟨by omega, by omega, by omega, by omega⟩
  have hp1 := hp.1
  have hp2 := hp.2
  clear hp vv hv
  have HB : Hid ((mulE (chk [colL p o (f ++ g), h]) p o (colL p o (f ++ g)) h == 0) = false ∨ ((mulE (chk [colL p o (f ++ g), h]) p o (colL p o (f ++ g)) h == 0) = true ∧ (mulE (chk [f, h]) p o f h == 0) = false) ∨ ((mulE (chk [colL p o (f ++ g), h]) p o (colL p o (f ++ g)) h == 0) = true ∧ (mulE (chk [f, h]) p o f h == 0) = true ∧ (mulE (chk [g, h]) p o g h == 0) = false)) := by
    unfold Hid
    by_cases h1 : mulE (chk [colL p o (f ++ g), h]) p o (colL p o (f ++ g)) h = 0
    · by_cases h2 : mulE (chk [f, h]) p o f h = 0
      · by_cases h3 : mulE (chk [g, h]) p o g h = 0
        · exact absurd ⟨h1, h2, h3⟩ hm
        · simp [h1, h2, h3]
      · simp [h1, h2]
    · simp [h1]
  clear hm
  rcases HB.out with h1 | ⟨h1, h2⟩ | ⟨h1, h2, h3⟩
  all_goals
    clear HB
    go_enter Tryd.func5, Tryd.ntmps5
    go_wp2_with fail
    refine (polyBegun_any chk7 HT7.out HJ.out _ (HI.out _)).mono ?_
    rintro e w1 ⟨rfl, hb⟩
    have M1 := hid ((MidR.new (p := p) (n := n) (o := o) (v := v) HP.out HQ.out HR.out HS.out _).next hb)
    clear hb
    go_wp2_with fail
    refine (fieldBegun_any _).mono ?_
    rintro e w2 ⟨rfl, hb⟩
    have M2 := hid (M1.out.next hb)
    clear M1 hb
    obtain ⟨q, q0, q1, q2, q3⟩ := M2.out.box
    go_wp2_with fail
    refine (polyAdd_any p n o v chk HT.out _ _ f g _ M2.out.pf M2.out.pg).mono ?_
    rintro e w3 ⟨u, rfl, hu, hb⟩
    rw [Z.out.1]
    rw [G.out.c1] at hu
    have Us := hid hu
    obtain ⟨uas, ucs, rfl, _, _⟩ := hu
    have M3 := hid (M2.out.next hb)
    clear M2 hb q q0 q1 q2 q3
    obtain ⟨q, q0, q1, q2, q3⟩ := M3.out.box
    go_wp2_with fail
    refine (polyMul_any p n o v chk HT.out _ _ f g _ M3.out.pf M3.out.pg).mono ?_
    rintro e w4 ⟨u, rfl, hu, hb⟩
    rw [Z.out.2.1]
    rw [G.out.c2] at hu
    have Um := hid hu
    obtain ⟨uam, ucm, rfl, _, _⟩ := hu
    have M4 := hid (M3.out.next hb)
    replace Us := hid (Us.out.below hb)
    clear M3 hb q q0 q1 q2 q3
    obtain ⟨q, q0, q1, q2, q3⟩ := M4.out.box
    go_wp2_with fail
    refine (polyMul_any p n o v chk HT.out _ _ g f _ M4.out.pg M4.out.pf).mono ?_
    rintro e w5 ⟨u, rfl, hu, hb⟩
    rw [Z.out.2.2]
    rw [G.out.c3] at hu
    have Uk := hid hu
    obtain ⟨uak, uck, rfl, _, _⟩ := hu
    have M5 := hid (M4.out.next hb)
    replace Us := hid (Us.out.below hb)
    replace Um := hid (Um.out.below hb)
    clear M4 hb q q0 q1 q2 q3
    obtain ⟨q, q0, q1, q2, q3⟩ := M5.out.box
    go_wp2_with fail
    refine (samePoly_any _ _ (colL p o (prodL p f g)) (colL p o (prodL p f g)) _ (by have := G.out.rm.len; omega) (fun t ht => by rw [G.out.rm.canon.len t ht]; exact G.out.n3.2) Um.out Uk.out).mono ?_
    rintro e w6 ⟨rfl, hb⟩
    rw [show decide ((colL p o (prodL p f g)) = (colL p o (prodL p f g))) = true from decide_eq_true rfl]
    have M6 := hid (M5.out.next hb)
    replace Us := hid (Us.out.below hb)
    replace Um := hid (Um.out.below hb)
    replace Uk := hid (Uk.out.below hb)
    clear M5 hb q q0 q1 q2 q3
    clear Uk
    obtain ⟨q, q0, q1, q2, q3⟩ := M6.out.box
    go_wp2_with fail
    refine (polyMul_any p n o v chk HT.out _ _ (colL p o (f ++ g)) h _ Us.out M6.out.ph).mono ?_
    rintro e w7 ⟨u, rfl, hu, hb⟩
    have Ux := hid hu
    obtain ⟨uax, ucx, rfl, _, _⟩ := hu
    have M7 := hid (M6.out.next hb)
    replace Us := hid (Us.out.below hb)
    replace Um := hid (Um.out.below hb)
    clear M6 hb q q0 q1 q2 q3
    obtain ⟨q, q0, q1, q2, q3⟩ := M7.out.box
    go_wp2_with fail
    refine (polyMul_any p n o v chk HT.out _ _ f h _ M7.out.pf M7.out.ph).mono ?_
    rintro e w8 ⟨u, rfl, hu, hb⟩
    have Uy := hid hu
    obtain ⟨uay, ucy, rfl, _, _⟩ := hu
    have M8 := hid (M7.out.next hb)
    replace Us := hid (Us.out.below hb)
    replace Um := hid (Um.out.below hb)
    replace Ux := hid (Ux.out.below hb)
    clear M7 hb q q0 q1 q2 q3
    obtain ⟨q, q0, q1, q2, q3⟩ := M8.out.box
    go_wp2_with fail
    refine (polyMul_any p n o v chk HT.out _ _ g h _ M8.out.pg M8.out.ph).mono ?_
    rintro e w9 ⟨u, rfl, hu, hb⟩
    have Uz := hid hu
    obtain ⟨uaz, ucz, rfl, _, _⟩ := hu
    have M9 := hid (M8.out.next hb)
    replace Us := hid (Us.out.below hb)
    replace Um := hid (Um.out.below hb)
    replace Ux := hid (Ux.out.below hb)
    replace Uy := hid (Uy.out.below hb)
    clear M8 hb q q0 q1 q2 q3
    obtain ⟨q, q0, q1, q2, q3⟩ := M9.out.box
    go_wp2_with fail
    refine (polyValue_any p n o v chk HT.out _ _ f xs _ M9.out.pf M9.out.sa).mono ?_
    rintro e w10 ⟨rfl, hb⟩
    rw [G.out.kf]
    rw [VV.out.1, VV.out.2.1]
    have M10 := hid (M9.out.next hb)
    replace Us := hid (Us.out.below hb)
    replace Um := hid (Um.out.below hb)
    replace Ux := hid (Ux.out.below hb)
    replace Uy := hid (Uy.out.below hb)
    replace Uz := hid (Uz.out.below hb)
    clear M9 hb q q0 q1 q2 q3
    obtain ⟨q, q0, q1, q2, q3⟩ := M10.out.box
    go_wp2_with fail
    refine (polyValue_any p n o v chk HT.out _ _ g xs _ M10.out.pg M10.out.sa).mono ?_
    rintro e w11 ⟨rfl, hb⟩
    rw [G.out.kg]
    rw [VV.out.1, VV.out.2.2.1]
    have M11 := hid (M10.out.next hb)
    replace Us := hid (Us.out.below hb)
    replace Um := hid (Um.out.below hb)
    replace Ux := hid (Ux.out.below hb)
    replace Uy := hid (Uy.out.below hb)
    replace Uz := hid (Uz.out.below hb)
    clear M10 hb q q0 q1 q2 q3
    obtain ⟨q, q0, q1, q2, q3⟩ := M11.out.box
    go_wp2_with fail
    refine (polyValue_any p n o v chk HT.out _ _ (colL p o (f ++ g)) xs _ Us.out M11.out.sa).mono ?_
    rintro e w12 ⟨rfl, hb⟩
    rw [G.out.ks]
    rw [VV.out.1, VV.out.2.2.2.1]
    have M12 := hid (M11.out.next hb)
    replace Us := hid (Us.out.below hb)
    replace Um := hid (Um.out.below hb)
    replace Ux := hid (Ux.out.below hb)
    replace Uy := hid (Uy.out.below hb)
    replace Uz := hid (Uz.out.below hb)
    clear M11 hb q q0 q1 q2 q3
    obtain ⟨q, q0, q1, q2, q3⟩ := M12.out.box
    go_wp2_with fail
    refine (polyValue_any p n o v chk HT.out _ _ (colL p o (prodL p f g)) xs _ Um.out M12.out.sa).mono ?_
    rintro e w13 ⟨rfl, hb⟩
    rw [G.out.km]
    rw [VV.out.1, VV.out.2.2.2.2]
    have M13 := hid (M12.out.next hb)
    replace Us := hid (Us.out.below hb)
    replace Um := hid (Um.out.below hb)
    replace Ux := hid (Ux.out.below hb)
    replace Uy := hid (Uy.out.below hb)
    replace Uz := hid (Uz.out.below hb)
    clear M12 hb q q0 q1 q2 q3
    obtain ⟨q, q0, q1, q2, q3⟩ := M13.out.box
    go_wp2
    go_ret
    exact ⟨by simp, M13.out.below⟩

set_option maxRecDepth 100000 in
set_option maxHeartbeats 4000000 in
theorem polyRing_someNo (p n o v : Int) (chk chk7 : List (List Tm) → Int) (HC : Tells p n o v chk) (HC7 : Tells 7 2 1 1 chk7) (hJ : JoK) (hI : ∀ w, ItoK (fun i => i < 100) w) (x y z a : Value) (f g h : List Tm) (xs : List Int) (w : World) (pf : Pl w x f) (pg : Pl w y g) (ph : Pl w z h) (sa : Sl w a xs)
    (hz : addE (chk [f, g]) p o f g = 0 ∧ mulE (chk [f, g]) p o f g = 0 ∧ mulE (chk [g, f]) p o g f = 0) (hm : ¬ (mulE (chk [colL p o (f ++ g), h]) p o (colL p o (f ++ g)) h = 0 ∧ mulE (chk [f, h]) p o f h = 0 ∧ mulE (chk [g, h]) p o g h = 0)) (hv : (valE 0 n p xs != 0) = true) :
    Calls Tryd.prog 5 #[ringV p n o v, x, y, z, a] w fun e w' => e = .returned (.bool true) ∧ Below w.heap.size w w' := by
  have HP := hid pf
  have HQ := hid pg
  have HR := hid ph
  have HS := hid sa
  have HT := hid HC
  have HT7 := hid HC7
  have HJ := hid hJ
  have HI := hid hI
  obtain ⟨a1, c1, rfl, _, _⟩ := pf
  obtain ⟨a2, c2, rfl, _, _⟩ := pg
  obtain ⟨a3, c3, rfl, _, _⟩ := ph
  obtain ⟨a4, c4, rfl, _⟩ := sa
  clear HC HC7 hJ hI
  have G := hid (good_of HT.out hz.1 hz.2.1 hz.2.2)
  have Z := hid hz
  clear hz
  have HB : Hid ((mulE (chk [colL p o (f ++ g), h]) p o (colL p o (f ++ g)) h == 0) = false ∨ ((mulE (chk [colL p o (f ++ g), h]) p o (colL p o (f ++ g)) h == 0) = true ∧ (mulE (chk [f, h]) p o f h == 0) = false) ∨ ((mulE (chk [colL p o (f ++ g), h]) p o (colL p o (f ++ g)) h == 0) = true ∧ (mulE (chk [f, h]) p o f h == 0) = true ∧ (mulE (chk [g, h]) p o g h == 0) = false)) := by
    unfold Hid
    by_cases h1 : mulE (chk [colL p o (f ++ g), h]) p o (colL p o (f ++ g)) h = 0
    · by_cases h2 : mulE (chk [f, h]) p o f h = 0
      · by_cases h3 : mulE (chk [g, h]) p o g h = 0
        · exact absurd ⟨h1, h2, h3⟩ hm
        · simp [h1, h2, h3]
      · simp [h1, h2]
    · simp [h1]
  clear hm
  rcases HB.out with h1 | ⟨h1, h2⟩ | ⟨h1, h2, h3⟩
  all_goals
    clear HB
    go_enter Tryd.func5, Tryd.ntmps5
    go_wp2_with fail
    refine (polyBegun_any chk7 HT7.out HJ.out _ (HI.out _)).mono ?_
    rintro e w1 ⟨rfl, hb⟩
    have M1 := hid ((MidR.new (p := p) (n := n) (o := o) (v := v) HP.out HQ.out HR.out HS.out _).next hb)
    clear hb
    go_wp2_with fail
    refine (fieldBegun_any _).mono ?_
    rintro e w2 ⟨rfl, hb⟩
    have M2 := hid (M1.out.next hb)
    clear M1 hb
    obtain ⟨q, q0, q1, q2, q3⟩ := M2.out.box
    go_wp2_with fail
    refine (polyAdd_any p n o v chk HT.out _ _ f g _ M2.out.pf M2.out.pg).mono ?_
    rintro e w3 ⟨u, rfl, hu, hb⟩
    rw [Z.out.1]
    rw [G.out.c1] at hu
    have Us := hid hu
    obtain ⟨uas, ucs, rfl, _, _⟩ := hu
    have M3 := hid (M2.out.next hb)
    clear M2 hb q q0 q1 q2 q3
    obtain ⟨q, q0, q1, q2, q3⟩ := M3.out.box
    go_wp2_with fail
    refine (polyMul_any p n o v chk HT.out _ _ f g _ M3.out.pf M3.out.pg).mono ?_
    rintro e w4 ⟨u, rfl, hu, hb⟩
    rw [Z.out.2.1]
    rw [G.out.c2] at hu
    have Um := hid hu
    obtain ⟨uam, ucm, rfl, _, _⟩ := hu
    have M4 := hid (M3.out.next hb)
    replace Us := hid (Us.out.below hb)
    clear M3 hb q q0 q1 q2 q3
    obtain ⟨q, q0, q1, q2, q3⟩ := M4.out.box
    go_wp2_with fail
    refine (polyMul_any p n o v chk HT.out _ _ g f _ M4.out.pg M4.out.pf).mono ?_
    rintro e w5 ⟨u, rfl, hu, hb⟩
    rw [Z.out.2.2]
    rw [G.out.c3] at hu
    have Uk := hid hu
    obtain ⟨uak, uck, rfl, _, _⟩ := hu
    have M5 := hid (M4.out.next hb)
    replace Us := hid (Us.out.below hb)
    replace Um := hid (Um.out.below hb)
    clear M4 hb q q0 q1 q2 q3
    obtain ⟨q, q0, q1, q2, q3⟩ := M5.out.box
    go_wp2_with fail
    refine (samePoly_any _ _ (colL p o (prodL p f g)) (colL p o (prodL p f g)) _ (by have := G.out.rm.len; omega) (fun t ht => by rw [G.out.rm.canon.len t ht]; exact G.out.n3.2) Um.out Uk.out).mono ?_
    rintro e w6 ⟨rfl, hb⟩
    rw [show decide ((colL p o (prodL p f g)) = (colL p o (prodL p f g))) = true from decide_eq_true rfl]
    have M6 := hid (M5.out.next hb)
    replace Us := hid (Us.out.below hb)
    replace Um := hid (Um.out.below hb)
    replace Uk := hid (Uk.out.below hb)
    clear M5 hb q q0 q1 q2 q3
    clear Uk
    obtain ⟨q, q0, q1, q2, q3⟩ := M6.out.box
    go_wp2_with fail
    refine (polyMul_any p n o v chk HT.out _ _ (colL p o (f ++ g)) h _ Us.out M6.out.ph).mono ?_
    rintro e w7 ⟨u, rfl, hu, hb⟩
    have Ux := hid hu
    obtain ⟨uax, ucx, rfl, _, _⟩ := hu
    have M7 := hid (M6.out.next hb)
    replace Us := hid (Us.out.below hb)
    replace Um := hid (Um.out.below hb)
    clear M6 hb q q0 q1 q2 q3
    obtain ⟨q, q0, q1, q2, q3⟩ := M7.out.box
    go_wp2_with fail
    refine (polyMul_any p n o v chk HT.out _ _ f h _ M7.out.pf M7.out.ph).mono ?_
    rintro e w8 ⟨u, rfl, hu, hb⟩
    have Uy := hid hu
    obtain ⟨uay, ucy, rfl, _, _⟩ := hu
    have M8 := hid (M7.out.next hb)
    replace Us := hid (Us.out.below hb)
    replace Um := hid (Um.out.below hb)
    replace Ux := hid (Ux.out.below hb)
    clear M7 hb q q0 q1 q2 q3
    obtain ⟨q, q0, q1, q2, q3⟩ := M8.out.box
    go_wp2_with fail
    refine (polyMul_any p n o v chk HT.out _ _ g h _ M8.out.pg M8.out.ph).mono ?_
    rintro e w9 ⟨u, rfl, hu, hb⟩
    have Uz := hid hu
    obtain ⟨uaz, ucz, rfl, _, _⟩ := hu
    have M9 := hid (M8.out.next hb)
    replace Us := hid (Us.out.below hb)
    replace Um := hid (Um.out.below hb)
    replace Ux := hid (Ux.out.below hb)
    replace Uy := hid (Uy.out.below hb)
    clear M8 hb q q0 q1 q2 q3
    obtain ⟨q, q0, q1, q2, q3⟩ := M9.out.box
    go_wp2_with fail
    refine (polyValue_any p n o v chk HT.out _ _ f xs _ M9.out.pf M9.out.sa).mono ?_
    rintro e w10 ⟨rfl, hb⟩
    rw [G.out.kf]
    have M10 := hid (M9.out.next hb)
    replace Us := hid (Us.out.below hb)
    replace Um := hid (Um.out.below hb)
    replace Ux := hid (Ux.out.below hb)
    replace Uy := hid (Uy.out.below hb)
    replace Uz := hid (Uz.out.below hb)
    clear M9 hb q q0 q1 q2 q3
    obtain ⟨q, q0, q1, q2, q3⟩ := M10.out.box
    go_wp2_with fail
    refine (polyValue_any p n o v chk HT.out _ _ g xs _ M10.out.pg M10.out.sa).mono ?_
    rintro e w11 ⟨rfl, hb⟩
    rw [G.out.kg]
    have M11 := hid (M10.out.next hb)
    replace Us := hid (Us.out.below hb)
    replace Um := hid (Um.out.below hb)
    replace Ux := hid (Ux.out.below hb)
    replace Uy := hid (Uy.out.below hb)
    replace Uz := hid (Uz.out.below hb)
    clear M10 hb q q0 q1 q2 q3
    obtain ⟨q, q0, q1, q2, q3⟩ := M11.out.box
    go_wp2_with fail
    refine (polyValue_any p n o v chk HT.out _ _ (colL p o (f ++ g)) xs _ Us.out M11.out.sa).mono ?_
    rintro e w12 ⟨rfl, hb⟩
    rw [G.out.ks]
    have M12 := hid (M11.out.next hb)
    replace Us := hid (Us.out.below hb)
    replace Um := hid (Um.out.below hb)
    replace Ux := hid (Ux.out.below hb)
    replace Uy := hid (Uy.out.below hb)
    replace Uz := hid (Uz.out.below hb)
    clear M11 hb q q0 q1 q2 q3
    obtain ⟨q, q0, q1, q2, q3⟩ := M12.out.box
    go_wp2_with fail
    refine (polyValue_any p n o v chk HT.out _ _ (colL p o (prodL p f g)) xs _ Um.out M12.out.sa).mono ?_
    rintro e w13 ⟨rfl, hb⟩
    rw [G.out.km]
    have M13 := hid (M12.out.next hb)
    replace Us := hid (Us.out.below hb)
    replace Um := hid (Um.out.below hb)
    replace Ux := hid (Ux.out.below hb)
    replace Uy := hid (Uy.out.below hb)
    replace Uz := hid (Uz.out.below hb)
    clear M12 hb q q0 q1 q2 q3
    obtain ⟨q, q0, q1, q2, q3⟩ := M13.out.box
    go_wp2
    go_ret
    exact ⟨rfl, M13.out.below⟩

theorem polyRing_any (p n o v : Int) (chk chk7 : List (List Tm) → Int) (HC : Tells p n o v chk) (HC7 : Tells 7 2 1 1 chk7) (hJ : JoK) (hI : ∀ w, ItoK (fun i => i < 100) w) (x y z a : Value) (f g h : List Tm) (xs : List Int) (w : World) (pf : Pl w x f) (pg : Pl w y g) (ph : Pl w z h) (sa : Sl w a xs) :
    Calls Tryd.prog 5 #[ringV p n o v, x, y, z, a] w fun e w' => e = .returned (.bool true) ∧ Below w.heap.size w w' := by
  by_cases hz : addE (chk [f, g]) p o f g = 0 ∧ mulE (chk [f, g]) p o f g = 0 ∧ mulE (chk [g, f]) p o g f = 0
  · by_cases hm : mulE (chk [colL p o (f ++ g), h]) p o (colL p o (f ++ g)) h = 0 ∧ mulE (chk [f, h]) p o f h = 0 ∧ mulE (chk [g, h]) p o g h = 0
    · by_cases hv : valE 0 n p xs = 0
      · exact polyRing_goodVal p n o v chk chk7 HC HC7 hJ hI x y z a f g h xs w pf pg ph sa hz hm hv
      · exact polyRing_goodNo p n o v chk chk7 HC HC7 hJ hI x y z a f g h xs w pf pg ph sa hz hm (by simpa using hv)
    · by_cases hv : valE 0 n p xs = 0
      · exact polyRing_someVal p n o v chk chk7 HC HC7 hJ hI x y z a f g h xs w pf pg ph sa hz hm hv
      · exact polyRing_someNo p n o v chk chk7 HC HC7 hJ hI x y z a f g h xs w pf pg ph sa hz hm (by simpa using hv)
  · exact polyRing_bad p n o v chk chk7 HC HC7 hJ hI x y z a f g h xs w pf pg ph sa hz
end Go.Proofs.YtilogbggilchaaaDoor
