/- MonoOrders, walked. -/
import Derived.Test.YtglijodcbdcngaaGreatH
import Derived.Deep.DeepCutAuto
import Derived.Deep.RegionHeld
set_option maxHeartbeats 1000000
namespace Go.Proofs.YtglijodcbdcngaaGreat
set_option linter.unusedSimpArgs false
set_option linter.unusedVariables false
open Go.Proofs.Tryz Go.RowKit
def aX(w:World)(b:Nat)(p n o v:Int):Prop:=
 b<w.heap.size/\w.cell? ⟨b,0,none⟩=some (.int .i64 p)/\w.cell? ⟨b,1,none⟩=some (.int .i64 n)/\w.cell? ⟨b,2,none⟩=some (.int .i64 o)/\w.cell? ⟨b,3,none⟩=some (.int .i64 v)
theorem aX.below{w w':World}{b:Nat}{p n o v:Int}(h:aX w b p n o v)(hb:Below w.heap.size w w'):aX w' b p n o v:=by obtain⟨h0,h1,h2,h3,h4⟩:=h;exact⟨Hj h0 hb.size,by rw[hb.cell (p:=⟨b,0,none⟩) h0];exact h1,by rw[hb.cell (p:=⟨b,1,none⟩) h0];exact h2,by rw[hb.cell (p:=⟨b,2,none⟩) h0];exact h3,by rw[hb.cell (p:=⟨b,3,none⟩) h0];exact h4⟩
theorem aX.new(w:World)(p n o v:Int)(T:TypeId):aX (w.alloc (.cells #[.int .i64 p,.int .i64 n,.int .i64 o,.int .i64 v] T)) w.heap.size p n o v:=
 ⟨by simp,by simp,by simp,by simp,by simp⟩
structure rh(w w':World)(x y z:Value)(xs ys zs:List Int)(p n o v:Int):Prop where
 below:Below w.heap.size w w'
 box:aX w' w.heap.size p n o v
 sx:Sl w' x xs
 sy:Sl w' y ys
 sz:Sl w' z zs
theorem rh.next{w w' w2:World}{x y z:Value}{xs ys zs:List Int}{p n o v:Int}(h:rh w w' x y z xs ys zs p n o v)(hb:Below w'.heap.size w' w2):rh w w2 x y z xs ys zs p n o v:=
 ⟨h.below.trans (hb.mono h.below.size),h.box.below hb,h.sx.below hb,h.sy.below hb,h.sz.below hb⟩
theorem Sl.made(w:World)(n:Nat)(T:TypeId):Sl (w.alloc (.cells (madeCells #[.int .i64 0] n) T)) (.slice (some ⟨w.heap.size,0,none⟩) n n) (List.replicate n 0):=by refine⟨some ⟨w.heap.size,0,none⟩,n,by simp,λ_=>⟨_,_,rfl,by simp,λi hi=>?_⟩⟩;simp at hi;simp[madeCells,hi,Nat.mod_one]
theorem D7(x:Int):ep x=!bW x 0 200:=by unfold ep bW;by_cases h1:0<=x<;>by_cases h2:x<=200<;>simp[h1,h2]<;>omega
theorem oJ(p n o v:Int)(x:Value)(xs:List Int)(w:World)(hn:1<=n/\n<=3)(hs:Sl w x xs):Calls prog 120 #[az p n o v,x] w λe w'=>e=.returned (.int .i64 (bL n xs))/\Below w.heap.size w w':=by
 obtain⟨a,cap,rfl,hs⟩:=hs;obtain⟨hn1,hn2⟩:=hn;by_cases hl:(xs.length:Int)=n
 ·subst hl;obtain⟨b,off,rfl,hlt,hc⟩:=hs (by omega);clear hs;have HC:=aa hc;clear hc;have hm:xs.length<=3:=by omega
  go_enter func120,ntmps120;go_wp2;go_loop [5] (λi=>∃k:Nat,k<=xs.length/\i=.int .i64 k/\(xs.take k).any ep=false) (λi=>xs.length-(intOf i).toNat);case atStart=>exact⟨0,Hl _,rfl,by simp⟩
  case round=>
   obtain⟨k,hk,rfl,hn⟩:=hrel;have HN:=aa hn;clear hn;by_cases hk2:k<xs.length
   ·have hcell:=HC.o k hk2;have H1:=aa (pG ep xs k hk2 HN.o);have H2:=aa (nK ep xs k hk2);rw[<-World.cell?_alloc_lt (w:=w) (o:=.cells #[.int .i64 p,.int .i64 xs.length,.int .i64 o,.int .i64 v] 23) (a:=⟨b,off+k,none⟩) hlt] at hcell;generalize xs.getD k 0=y at hcell H1 H2;rw[D7] at H1 H2;cases hy:bW y 0 200
    ·go_wp2_with (go_at_call 41;refine(fd _ _ _ _).mono ?_;rintro e w' ⟨rfl,rfl⟩);go_ret;refine⟨cm ?_,gp⟩;unfold bL;rw[if_neg (by simp),if_pos (H2.o (by rw[hy];rfl))]
    ·go_wp2_with (go_at_call 41;refine(fd _ _ _ _).mono ?_;rintro e w' ⟨rfl,rfl⟩);go_round;case rel=>exact⟨k+1,by omega,by go_num,H1.o (by rw[hy];rfl)⟩
     case measure=>simp[intOf];omega
   ·have hy:=HN.o;rw[Hz (by omega)] at hy;have hb:=pI hy;have hb2:=aa (show∀x∈xs,0<=x/\x<=40000 from λx hx=>by have:=hb x hx;omega);have HE:Ic (bL xs.length xs=if 200<ag xs then 3 else 0):=by show bL xs.length xs=_;unfold bL;rw[if_neg (by simp),if_neg (by simp[hy])]
    clear hb hy;go_wp2_with fail;refine(lj xs _ _ _ _ hb2.o hm ?_).mono ?_
    ·intro i hi;rw[World.cell?_alloc_lt (w:=w) (o:=_) (a:=⟨b,off+i,none⟩) hlt];exact HC.o i hi
    rintro e w' ⟨rfl,rfl⟩;by_cases hd:200<ag xs
    ·go_wp2;go_ret;exact⟨cm (by rw[HE.o,if_pos hd]),gp⟩
    ·go_wp2;go_ret;exact⟨cm (by rw[HE.o,if_neg (by omega)]),gp⟩
 ·have he:bL n xs=1:=by simp[bL,hl]
  rw[he];clear he hs;have hl2:((xs.length:Int) !=n)=true:=by simpa using hl
  clear hl;go_enter func120,ntmps120;go_wp2;go_ret;exact⟨rfl,gp⟩
theorem jc{w:World}{B:Nat}{v:Value}{zs:List Int}{T:TypeId}(h:w.ownsRow B T 1 v zs.length (zs.map (Value.int .i64))):Sl w v zs:=by
 obtain⟨_,h|⟨g,cap,ai,rfl,hg,hh,hn,hm,hcs,ht⟩⟩:=h
 ·obtain⟨rfl,h0⟩:=h;refine⟨none,0,by rw[h0],λhp=>absurd hp (by omega)⟩
 ·refine⟨_,cap,rfl,λ_=>⟨g,0,rfl,?_,λi hi=>?_⟩⟩
  ·apply Ib;intro hle;rw[Array.getElem?_eq_none hle] at hh;simp at hh
  ·have e:ai.toList[i]?=some (.int .i64 (zs.getD i 0)):=by
    have h1:(ai.toList.take (zs.length*1))[i]?=(zs.map (Value.int .i64))[i]?:=by rw[ht]
    rw[List.getElem?_take,if_pos (by omega),List.getElem?_map] at h1;rw[h1,Hs,Ht hi];rfl
   unfold World.cell?;simp only[hh,Hy];simpa using e
theorem D8{zs:List Int}{k:Nat}(h:k<zs.length){z:Int}(hz:zs.getD k 0=z):(zs.take (k+1)).map (Value.int .i64)=(zs.take k).map (Value.int .i64)++[.int .i64 z]:=by rw[List.take_succ_eq_append_getElem h,List.map_append];rw[Hs,Ht h] at hz;simp at hz;simp[hz]
theorem iU(z:Int):∀u∈[Value.int .i64 z],u.oneCell'=true:=by intro u hu;simp at hu;subst hu;rfl
theorem oK{w wr w1:World}{v v':Value}{zs:List Int}{k:Nat}{T:TypeId}{z:Int}{O:Obj}(hk:k<zs.length)(hz:zs.getD k 0=z)(hb:Below w.heap.size w wr)(hown:wr.ownsRow w.heap.size T 1 v k ((zs.take k).map (Value.int .i64)))(hown':w1.ownsRow w.heap.size T 1 v' (k+1) ((zs.take k).map (Value.int .i64)++[.int .i64 z]))(hg:(wr.alloc O).grownBy w1 v.ownBlock):w1.ownsRow w.heap.size T 1 v' (k+1) ((zs.take (k+1)).map (Value.int .i64))/\Below w.heap.size w w1:=by
 refine⟨by rw[D8 hk hz];exact hown',?_⟩;refine(hb.alloc hb.size O).grown hg (Hk hb.size (by simp)) (λk' hk'=>?_);obtain⟨_,h|⟨g,cap,ai,rfl,hgb,_⟩⟩:=hown
 ·obtain⟨rfl,_⟩:=h;simp[Value.ownBlock] at hk'
 ·simp[Value.ownBlock] at hk';omega
theorem zW(xs ys:List Int)(b off cap b2 off2 cap2:Nat)(w:World)(hm:xs.length<=3)(hxy:xs.length=ys.length)(hbx:∀x∈xs,0<=x/\x<=20000)(hby:∀x∈ys,0<=x/\x<=20000)(hlt:b<w.heap.size)(hlt2:b2<w.heap.size)(hc:cM w b off xs)(hc2:cM w b2 off2 ys):Calls prog 72 #[.slice (some ⟨b,off,none⟩) xs.length cap,.slice (some ⟨b2,off2,none⟩) ys.length cap2,.int .i64 3] w λe w'=>∃u,e=.returned u/\Sl w' u (ah aS xs ys)/\Below w.heap.size w w':=by
 have HC:=aa hc;have HC2:=aa hc2;have HBX:=aa hbx;have HBY:=aa hby;have HLZ:=aa (eP aS xs ys hxy);rw[<-hxy];have HXY:=aa hxy;clear hc hc2 hbx hby hxy;obtain⟨i0,hi,hz0,hz1,hz2⟩:=info_parts Tryz.info_int;go_enter func72,ntmps72;go_wp2;go_loopw [7,8] (λv i wr=>∃k:Nat,k<=xs.length/\i=.int .i64 k/\wr.ownsRow w.heap.size 3 1 v k (((ah aS xs ys).take k).map (Value.int .i64))/\Below w.heap.size w wr) (λ_ i _=>xs.length-(intOf i).toNat);case atStart=>exact⟨0,Hl _,rfl,World.ownsRow_nil _ _ _ _,Hf _ _⟩
 case round=>
  obtain⟨k,hk,rfl,hown,hbr⟩:=hrel;have HOWN:=aa hown;have HBR:=aa hbr;by_cases hk2:k<xs.length
  ·have hcell:=HC.o k hk2;have hcell2:=HC2.o k (by rw[<-HXY.o];exact hk2);have HZ:=aa (ky aS xs ys HXY.o k hk2);have hx:=HBX.o _ (gl xs k hk2);have hy:=HBY.o _ (gl ys k (by rw[<-HXY.o];exact hk2));generalize xs.getD k 0=x at hcell HZ hx;generalize ys.getD k 0=y at hcell2 HZ hy;rw[<-hbr.cell (p:=⟨b,off+k,none⟩) hlt] at hcell;rw[<-hbr.cell (p:=⟨b2,off2+k,none⟩) hlt2] at hcell2;have hsz:=hbr.size;obtain⟨hx1,hx2⟩:=hx;obtain⟨hy1,hy2⟩:=hy;clear hown hbr;by_cases hxy:x<y
   ·go_wp2_with (at_builtin;refine wpList_append_own _ rfl _ _ 37 rfl w.heap.size 3 i0 (.int .i64 0) 1 8 underlying37 hi hz0 hz1 hz2 rfl (by decide) _ _ _ rfl (HOWN.o.alloc _) ⟨wr.heap.size,0,none⟩ 1 1 [.int .i64 y] rfl rfl (cell_one_new _ _ _) (iU _) (by unfold maxLen;omega) (by omega) (by simp;omega) ?_);intro v' w1 hown' hgrow _;rw[<-List.map_take] at hown';have R:=oK (zs:=ah aS xs ys) (by rw[HLZ.o];exact hk2) (HZ.o.trans (if_pos hxy)) HBR.o HOWN.o hown' hgrow;have R2:=aa R;clear hown' hgrow R;go_wp2;go_roundw;case rel=>exact⟨k+1,by omega,by go_num,R2.o.1,R2.o.2⟩
    case measure=>simp[intOf];omega
   ·go_wp2_with (at_builtin;refine wpList_append_own _ rfl _ _ 37 rfl w.heap.size 3 i0 (.int .i64 0) 1 8 underlying37 hi hz0 hz1 hz2 rfl (by decide) _ _ _ rfl (HOWN.o.alloc _) ⟨wr.heap.size,0,none⟩ 1 1 [.int .i64 x] rfl rfl (cell_one_new _ _ _) (iU _) (by unfold maxLen;omega) (by omega) (by simp;omega) ?_);intro v' w1 hown' hgrow _;rw[<-List.map_take] at hown';have R:=oK (zs:=ah aS xs ys) (by rw[HLZ.o];exact hk2) (HZ.o.trans (if_neg (Int.not_lt.2 hxy))) HBR.o HOWN.o hown' hgrow;have R2:=aa R;clear hown' hgrow R;go_wp2;go_roundw;case rel=>exact⟨k+1,by omega,by go_num,R2.o.1,R2.o.2⟩
    case measure=>simp[intOf];omega
  ·go_wp2;go_ret;have e1:k=(ah aS xs ys).length:=by rw[HLZ.o];omega
   subst e1;have h2:=HOWN.o;rw[Hz (He _)] at h2;exact⟨_,rfl,jc h2,HBR.o⟩
def cL(o:Int)(xs ys:List Int):Bool:=decide (0<aF o xs ys)
theorem oL(a b:Int):decide (0<aR a b)=decide (b<a):=by have:=dL a b;exact decide_eq_decide.2 (by omega)
theorem wO{x y:Int}(h:(x !=y)=false):aR x y=0/\aR y x=0:=by
 have h1:x=y:=by simpa using h
 have h2:=dL x y;have h3:=dL y x;omega
theorem wQ{x y:Int}(h:(x !=y)=true):¬aR x y=0/\¬aR y x=0:=by
 have h1:x≠y:=by simpa using h
 have h2:=dL x y;have h3:=dL y x;omega
theorem j9{a b:Bool}(h:a=b):Ending.returned (.bool a)=.returned (.bool b):=by rw[h]
theorem D9(p n v:Int)(xs ys:List Int)(b off cap b2 off2 cap2:Nat)(w:World)(hm:xs.length<=3)(hxy:xs.length=ys.length)(hbx:∀x∈xs,0<=x/\x<=40000)(hby:∀x∈ys,0<=x/\x<=40000)(hlt:b<w.heap.size)(hlt2:b2<w.heap.size)(hc:cM w b off xs)(hc2:cM w b2 off2 ys):Calls prog 121 #[az p n 2 v,.slice (some ⟨b,off,none⟩) xs.length cap,.slice (some ⟨b2,off2,none⟩) ys.length cap2] w λe w'=>e=.returned (.bool (cL 2 xs ys))/\Below w.heap.size w w':=by
 have HC:=aa hc;have HC2:=aa hc2;have HBX:=aa hbx;have HBY:=aa hby;have HXY:=aa hxy;have hmy:ys.length<=3:=by omega
 clear hc hc2 hbx hby hxy;go_enter func121,ntmps121;go_wp2_with fail;refine(lj xs _ _ _ _ HBX.o hm ?_).mono ?_
 ·intro i hi;rw[World.cell?_alloc_lt (w:=w) (o:=_) (a:=⟨b,off+i,none⟩) hlt];exact HC.o i hi
 rintro e w' ⟨rfl,rfl⟩;go_wp2_with fail;refine(lj ys _ _ _ _ HBY.o hmy ?_).mono ?_
 ·intro i hi;rw[World.cell?_alloc_lt (w:=w) (o:=_) (a:=⟨b2,off2+i,none⟩) hlt2];exact HC2.o i hi
 rintro e w' ⟨rfl,rfl⟩;cases hd:(ag xs !=ag ys)
 ·have hz:aR (ag xs) (ag ys)=0:=by
   have h1:ag xs=ag ys:=by simpa using hd
   have:=dL (ag xs) (ag ys);omega
  have HO:Ic (cL 2 xs ys=decide (0<bF xs ys)):=by unfold Ic cL aF;rw[if_pos hz,if_neg (by omega)]
  clear hz;go_wp2;go_loopw [9] (λi wr=>∃k:Nat,k<=xs.length/\i=.int .i64 k/\bF xs ys=bF (xs.drop k) (ys.drop k)/\Below w.heap.size w wr) (λi _=>xs.length-(intOf i).toNat);case atStart=>exact⟨0,Hl _,rfl,rfl,gp⟩
  case round=>
   obtain⟨k,hk,rfl,hn,hbr⟩:=hrel;have HN:=aa hn;have HBR:=aa hbr;by_cases hk2:k<xs.length
   ·have hcell:=HC.o k hk2;have hcell2:=HC2.o k (by rw[<-HXY.o];exact hk2);rw[<-hbr.cell (p:=⟨b,off+k,none⟩) hlt] at hcell;rw[<-hbr.cell (p:=⟨b2,off2+k,none⟩) hlt2] at hcell2;have HD:=aa (tn xs ys k hk2 (by rw[<-HXY.o];exact hk2));have hxl:(k:Int)<(xs.length:Int):=by omega
    have hyl:(k:Int)<(ys.length:Int):=by have:=HXY.o;omega
    clear hn hbr;generalize xs.getD k 0=x at hcell HD;generalize ys.getD k 0=y at hcell2 HD;cases hne:(x !=y)
    ·go_wp2;go_quiet (fail);go_wp2;go_roundw;case rel=>exact⟨k+1,by omega,by go_num,by rw[HN.o,HD.o,if_pos (wO hne).1],below_drewN HBR.o _⟩
     case measure=>simp[intOf];omega
    ·go_wp2;go_quiet (fail);go_wp2;go_quiet (fail);go_wp2;go_ret;refine⟨j9 ?_,below_drewN (below_drewN HBR.o _) _⟩;rw[HO.o,HN.o,HD.o,if_neg (wQ hne).1,oL]
   ·clear hn hbr;go_wp2;go_ret;refine⟨j9 ?_,HBR.o⟩;rw[HO.o,HN.o,List.drop_eq_nil_of_le (by omega)];rfl
 ·have HO:Ic (cL 2 xs ys=decide (ag ys<ag xs)):=by
   have h1:ag xs≠ag ys:=by simpa using hd
   have h2:=dL (ag xs) (ag ys);unfold Ic cL aF;rw[if_neg (by omega),oL]
  go_wp2;go_ret;exact⟨j9 HO.o.symm,gp⟩
theorem Ea(p n v:Int)(xs ys:List Int)(b off cap b2 off2 cap2:Nat)(w:World)(hm:xs.length<=3)(hxy:xs.length=ys.length)(hbx:∀x∈xs,0<=x/\x<=40000)(hby:∀x∈ys,0<=x/\x<=40000)(hlt:b<w.heap.size)(hlt2:b2<w.heap.size)(hc:cM w b off xs)(hc2:cM w b2 off2 ys):Calls prog 121 #[az p n 1 v,.slice (some ⟨b,off,none⟩) xs.length cap,.slice (some ⟨b2,off2,none⟩) ys.length cap2] w λe w'=>e=.returned (.bool (cL 1 xs ys))/\Below w.heap.size w w':=by
 have HC:=aa hc;have HC2:=aa hc2;have HBX:=aa hbx;have HBY:=aa hby;have HXY:=aa hxy;have hmy:ys.length<=3:=by omega
 clear hc hc2 hbx hby hxy;go_enter func121,ntmps121;go_wp2_with fail;refine(lj xs _ _ _ _ HBX.o hm ?_).mono ?_
 ·intro i hi;rw[World.cell?_alloc_lt (w:=w) (o:=_) (a:=⟨b,off+i,none⟩) hlt];exact HC.o i hi
 rintro e w' ⟨rfl,rfl⟩;go_wp2_with fail;refine(lj ys _ _ _ _ HBY.o hmy ?_).mono ?_
 ·intro i hi;rw[World.cell?_alloc_lt (w:=w) (o:=_) (a:=⟨b2,off2+i,none⟩) hlt2];exact HC2.o i hi
 rintro e w' ⟨rfl,rfl⟩;cases hd:(ag xs !=ag ys)
 ·have hz:aR (ag xs) (ag ys)=0:=by
   have h1:ag xs=ag ys:=by simpa using hd
   have:=dL (ag xs) (ag ys);omega
  have HO:Ic (cL 1 xs ys=decide (0<fT xs ys)):=by unfold Ic cL aF;rw[if_pos hz,if_pos rfl]
  clear hz;go_wp2;go_loopw [10] (λi wr=>∃k:Nat,k<=xs.length/\i=.int .i64 ((k:Int)-1)/\fT xs ys=bF (ys.take k).reverse (xs.take k).reverse/\Below w.heap.size w wr) (λi _=>(intOf i+1).toNat);case atStart=>exact⟨xs.length,He _,rfl,by rw[Hz (by have:=HXY.o;omega),Hz (by omega)];rfl,gp⟩
  case round=>
   obtain⟨k,hk,rfl,hn,hbr⟩:=hrel;have HN:=aa hn;have HBR:=aa hbr;cases k with
   |succ k=>
    have hk2:k<xs.length:=by omega
    have hcell:=HC.o k hk2;have hcell2:=HC2.o k (by rw[<-HXY.o];exact hk2);rw[<-hbr.cell (p:=⟨b,off+k,none⟩) hlt] at hcell;rw[<-hbr.cell (p:=⟨b2,off2+k,none⟩) hlt2] at hcell2;have HD:=aa (tt xs ys k hk2 (by rw[<-HXY.o];exact hk2));have hxl:(k:Int)<(xs.length:Int):=by omega
    have hyl:(k:Int)<(ys.length:Int):=by have:=HXY.o;omega
    have ek:(((k+1:Nat):Int)-1)=(k:Int):=by omega
    rw[ek];clear hn hbr ek;generalize xs.getD k 0=x at hcell HD;generalize ys.getD k 0=y at hcell2 HD;cases hne:(x !=y)
    ·go_wp2;go_quiet (fail);go_wp2;go_roundw;case rel=>exact⟨k,by omega,rfl,by rw[HN.o,HD.o,if_pos (wO hne).2],below_drewN HBR.o _⟩
     case measure=>simp[intOf]
    ·go_wp2;go_quiet (fail);go_wp2;go_quiet (fail);go_wp2;go_ret;refine⟨j9 ?_,below_drewN (below_drewN HBR.o _) _⟩;rw[HO.o,HN.o,HD.o,if_neg (wQ hne).2,oL]
   |zero=>clear hn hbr;go_wp2;go_ret;refine⟨j9 ?_,HBR.o⟩;rw[HO.o,HN.o];rfl
 ·have HO:Ic (cL 1 xs ys=decide (ag ys<ag xs)):=by
   have h1:ag xs≠ag ys:=by simpa using hd
   have h2:=dL (ag xs) (ag ys);unfold Ic cL aF;rw[if_neg (by omega),oL]
  go_wp2;go_ret;exact⟨j9 HO.o.symm,gp⟩
theorem mY(p n o v:Int)(x y:Value)(xs ys:List Int)(w:World)(ho:o=1\/o=2)(h0:0<xs.length)(hm:xs.length<=3)(hxy:xs.length=ys.length)(hbx:∀x∈xs,0<=x/\x<=40000)(hby:∀x∈ys,0<=x/\x<=40000)(hs:Sl w x xs)(hs2:Sl w y ys):Calls prog 121 #[az p n o v,x,y] w λe w'=>e=.returned (.bool (cL o xs ys))/\Below w.heap.size w w':=by
 obtain⟨a,cap,rfl,h1⟩:=hs;obtain⟨a2,cap2,rfl,h2⟩:=hs2;obtain⟨b,off,rfl,hlt,hc⟩:=h1 h0;obtain⟨b2,off2,rfl,hlt2,hc2⟩:=h2 (by omega);rcases ho with rfl|rfl
 ·exact Ea p n v xs ys b off cap b2 off2 cap2 w hm hxy hbx hby hlt hlt2 hc hc2
 ·exact D9 p n v xs ys b off cap b2 off2 cap2 w hm hxy hbx hby hlt hlt2 hc hc2
end Go.Proofs.YtglijodcbdcngaaGreat
