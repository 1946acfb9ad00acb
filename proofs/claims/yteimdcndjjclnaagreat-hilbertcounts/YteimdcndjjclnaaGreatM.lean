/- MonoOrders, walked. -/
import Derived.Test.YteimdcndjjclnaaGreatH
import Derived.Deep.DeepCutAuto
import Derived.Deep.RegionHeld
set_option maxHeartbeats 1000000
namespace Go.Proofs.YteimdcndjjclnaaGreat
set_option linter.all false
open Go.Proofs.Tryz Go.RowKit
def bE(w:World)(b:Nat)(p n o v:Int):Prop:=
 b<w.heap.size/\w.cell? ⟨b,0,none⟩=some (.int .i64 p)/\w.cell? ⟨b,1,none⟩=some (.int .i64 n)/\w.cell? ⟨b,2,none⟩=some (.int .i64 o)/\w.cell? ⟨b,3,none⟩=some (.int .i64 v)
theorem bE.below{w w':World}{b:Nat}{p n o v:Int}(h:bE w b p n o v)(hb:Below w.heap.size w w'):bE w' b p n o v:=by obtain⟨h0,h1,h2,h3,h4⟩:=h;exact⟨MN h0 hb.size,by rw[hb.cell (p:=⟨b,0,none⟩) h0];exact h1,by rw[hb.cell (p:=⟨b,1,none⟩) h0];exact h2,by rw[hb.cell (p:=⟨b,2,none⟩) h0];exact h3,by rw[hb.cell (p:=⟨b,3,none⟩) h0];exact h4⟩
theorem bE.new(w:World)(p n o v:Int)(T:TypeId):bE (w.alloc (.cells #[.int .i64 p,.int .i64 n,.int .i64 o,.int .i64 v] T)) w.heap.size p n o v:=
 ⟨by simp,by simp,by simp,by simp,by simp⟩
structure ve(w w':World)(x y z:Value)(xs ys zs:List Int)(p n o v:Int):Prop where
 below:Below w.heap.size w w'
 box:bE w' w.heap.size p n o v
 sx:Sl w' x xs
 sy:Sl w' y ys
 sz:Sl w' z zs
theorem ve.next{w w' w2:World}{x y z:Value}{xs ys zs:List Int}{p n o v:Int}(h:ve w w' x y z xs ys zs p n o v)(hb:Below w'.heap.size w' w2):ve w w2 x y z xs ys zs p n o v:=
 ⟨h.below.trans (hb.mono h.below.size),h.box.below hb,h.sx.below hb,h.sy.below hb,h.sz.below hb⟩
theorem Sl.made(w:World)(n:Nat)(T:TypeId):Sl (w.alloc (.cells (madeCells #[.int .i64 0] n) T)) (.slice (some ⟨w.heap.size,0,none⟩) n n) (List.replicate n 0):=by refine⟨some ⟨w.heap.size,0,none⟩,n,by simp,λ_=>⟨_,_,rfl,by simp,λi hi=>?_⟩⟩;simp at hi;simp[madeCells,hi,Nat.mod_one]
theorem It(x:Int):cI x=!bO x 0 200:=by unfold cI bO;by_cases h1:0<=x<;>by_cases h2:x<=200<;>simp[h1,h2]<;>omega
theorem rK(p n o v:Int)(x:Value)(xs:List Int)(w:World)(hn:1<=n/\n<=3)(hs:Sl w x xs):Calls prog 122 #[aS p n o v,x] w λe w'=>e=.returned (.int .i64 (bW n xs))/\Below w.heap.size w w':=by
 obtain⟨a,cap,rfl,hs⟩:=hs;obtain⟨hn1,hn2⟩:=hn;by_cases hl:(xs.length:Int)=n
 .subst hl;obtain⟨b,off,rfl,hlt,hc⟩:=hs (by omega);clear hs;have HC:=ae hc;clear hc;have hm:xs.length<=3:=by omega
  go_enter func122,ntmps122;go_wp2;go_loop [5] (λi=>∃k:Nat,k<=xs.length/\i=.int .i64 k/\(xs.take k).any cI=false) (λi=>xs.length-(intOf i).toNat);case atStart=>exact⟨0,MP _,rfl,by simp⟩
  case round=>
   obtain⟨k,hk,rfl,hn⟩:=hrel;have HN:=ae hn;clear hn;by_cases hk2:k<xs.length
   .have hcell:=HC.o k hk2;have H1:=ae (oE cI xs k hk2 HN.o);have H2:=ae (oF cI xs k hk2);rw[<-World.cell?_alloc_lt (w:=w) (o:=.cells #[.int .i64 p,.int .i64 xs.length,.int .i64 o,.int .i64 v] 23) (a:=⟨b,off+k,none⟩) hlt] at hcell;generalize xs.getD k 0=y at hcell H1 H2;rw[It] at H1 H2;cases hy:bO y 0 200
    .go_wp2_with (go_at_call 18;refine(fN _ _ _ _).mono ?_;rintro e w' ⟨rfl,rfl⟩);go_ret;refine⟨bL ?_,fi⟩;unfold bW;rw[M8 (by simp),M9 (H2.o (by rw[hy];rfl))]
    .go_wp2_with (go_at_call 18;refine(fN _ _ _ _).mono ?_;rintro e w' ⟨rfl,rfl⟩);go_round;case rel=>exact⟨k+1,by omega,by go_num,H1.o (by rw[hy];rfl)⟩
     case measure=>simp[intOf];omega
   .have hy:=HN.o;rw[M2 (by omega)] at hy;have hb:=sM hy;have hb2:=ae (show∀x∈xs,0<=x/\x<=40000 from λx hx=>by have:=hb x hx;omega);have HE:Nw (bW xs.length xs=if 200<aj xs then 3 else 0):=by show bW xs.length xs=_;unfold bW;rw[M8 (by simp),M8 (by simp[hy])]
    clear hb hy;go_wp2_with fail;refine(mC xs _ _ _ _ hb2.o hm ?_).mono ?_
    .intro i hi;rw[World.cell?_alloc_lt (w:=w) (o:=_) (a:=⟨b,off+i,none⟩) hlt];exact HC.o i hi
    rintro e w' ⟨rfl,rfl⟩;by_cases hd:200<aj xs
    .go_wp2;go_ret;exact⟨bL (by rw[HE.o,M9 hd]),fi⟩
    .go_wp2;go_ret;exact⟨bL (by rw[HE.o,M8 (by omega)]),fi⟩
 .have he:bW n xs=1:=by simp[bW,hl]
  rw[he];clear he hs;have hl2:((xs.length:Int) !=n)=true:=by simpa using hl
  clear hl;go_enter func122,ntmps122;go_wp2;go_ret;exact⟨rfl,fi⟩
theorem uq{w:World}{B:Nat}{v:Value}{zs:List Int}{T:TypeId}(h:w.ownsRow B T 1 v zs.length (zs.map (Value.int .i64))):Sl w v zs:=by
 obtain⟨_,h|⟨g,cap,ag,rfl,hg,hh,hn,hm,hcs,ht⟩⟩:=h
 .obtain⟨rfl,h0⟩:=h;refine⟨none,0,by rw[h0],λhp=>absurd hp (by omega)⟩
 .refine⟨_,cap,rfl,λ_=>⟨g,0,rfl,?_,λi hi=>?_⟩⟩
  .apply M7;intro hle;rw[Array.getElem?_eq_none hle] at hh;simp at hh
  .have e:ag.toList[i]?=some (.int .i64 (zs.getD i 0)):=by
    have h1:(ag.toList.take (zs.length*1))[i]?=(zs.map (Value.int .i64))[i]?:=by rw[ht]
    rw[List.getElem?_take,M9 (by omega),List.getElem?_map] at h1;rw[h1,MV,MW hi];rfl
   unfold World.cell?;simp only[hh,M1];simpa using e
theorem Iu{zs:List Int}{k:Nat}(h:k<zs.length){z:Int}(hz:zs.getD k 0=z):(zs.take (k+1)).map (Value.int .i64)=(zs.take k).map (Value.int .i64)++[.int .i64 z]:=by rw[Na h,Nd];rw[MV,MW h] at hz;simp at hz;simp[hz]
theorem um(z:Int):∀u∈[Value.int .i64 z],u.oneCell'=true:=by intro u hu;simp at hu;subst hu;rfl
theorem Iv{w wr w1:World}{v v':Value}{zs:List Int}{k:Nat}{T:TypeId}{z:Int}{O:Obj}(hk:k<zs.length)(hz:zs.getD k 0=z)(hb:Below w.heap.size w wr)(hown:wr.ownsRow w.heap.size T 1 v k ((zs.take k).map (Value.int .i64)))(hown':w1.ownsRow w.heap.size T 1 v' (k+1) ((zs.take k).map (Value.int .i64)++[.int .i64 z]))(hg:(wr.alloc O).grownBy w1 v.ownBlock):w1.ownsRow w.heap.size T 1 v' (k+1) ((zs.take (k+1)).map (Value.int .i64))/\Below w.heap.size w w1:=by
 refine⟨by rw[Iu hk hz];exact hown',?_⟩;refine(hb.alloc hb.size O).grown hg (MO hb.size (by simp)) (λk' hk'=>?_);obtain⟨_,h|⟨g,cap,ag,rfl,hgb,_⟩⟩:=hown
 .obtain⟨rfl,_⟩:=h;simp[Value.ownBlock] at hk'
 .simp[Value.ownBlock] at hk';omega
def eW(o:Int)(xs ys:List Int):Bool:=decide (0<aX o xs ys)
theorem rL(a b:Int):decide (0<aQ a b)=decide (b<a):=by have:=fS a b;exact decide_eq_decide.2 (by omega)
theorem AK{x y:Int}(h:(x !=y)=false):aQ x y=0/\aQ y x=0:=by
 have h1:x=y:=by simpa using h
 have h2:=fS x y;have h3:=fS y x;omega
theorem AL{x y:Int}(h:(x !=y)=true):¬aQ x y=0/\¬aQ y x=0:=by
 have h1:x≠y:=by simpa using h
 have h2:=fS x y;have h3:=fS y x;omega
theorem kh{a b:Bool}(h:a=b):Ending.returned (.bool a)=.returned (.bool b):=by rw[h]
theorem Iw(p n v:Int)(xs ys:List Int)(b off cap b2 off2 cap2:Nat)(w:World)(hm:xs.length<=3)(hxy:xs.length=ys.length)(hbx:∀x∈xs,0<=x/\x<=40000)(hby:∀x∈ys,0<=x/\x<=40000)(hlt:b<w.heap.size)(hlt2:b2<w.heap.size)(hc:ef w b off xs)(hc2:ef w b2 off2 ys):Calls prog 96 #[aS p n 2 v,.slice (some ⟨b,off,none⟩) xs.length cap,.slice (some ⟨b2,off2,none⟩) ys.length cap2] w λe w'=>e=.returned (.bool (eW 2 xs ys))/\Below w.heap.size w w':=by
 have HC:=ae hc;have HC2:=ae hc2;have HBX:=ae hbx;have HBY:=ae hby;have HXY:=ae hxy;have hmy:ys.length<=3:=by omega
 clear hc hc2 hbx hby hxy;go_enter func96,ntmps96;go_wp2_with fail;refine(mC xs _ _ _ _ HBX.o hm ?_).mono ?_
 .intro i hi;rw[World.cell?_alloc_lt (w:=w) (o:=_) (a:=⟨b,off+i,none⟩) hlt];exact HC.o i hi
 rintro e w' ⟨rfl,rfl⟩;go_wp2_with fail;refine(mC ys _ _ _ _ HBY.o hmy ?_).mono ?_
 .intro i hi;rw[World.cell?_alloc_lt (w:=w) (o:=_) (a:=⟨b2,off2+i,none⟩) hlt2];exact HC2.o i hi
 rintro e w' ⟨rfl,rfl⟩;cases hd:(aj xs !=aj ys)
 .have hz:aQ (aj xs) (aj ys)=0:=by
   have h1:aj xs=aj ys:=by simpa using hd
   have:=fS (aj xs) (aj ys);omega
  have HO:Nw (eW 2 xs ys=decide (0<cY xs ys)):=by unfold Nw eW aX;rw[M9 hz,M8 (by omega)]
  clear hz;go_wp2;go_loopw [9] (λi wr=>∃k:Nat,k<=xs.length/\i=.int .i64 k/\cY xs ys=cY (xs.drop k) (ys.drop k)/\Below w.heap.size w wr) (λi _=>xs.length-(intOf i).toNat);case atStart=>exact⟨0,MP _,rfl,rfl,fi⟩
  case round=>
   obtain⟨k,hk,rfl,hn,hbr⟩:=hrel;have HN:=ae hn;have HBR:=ae hbr;by_cases hk2:k<xs.length
   .have hcell:=HC.o k hk2;have hcell2:=HC2.o k (by rw[<-HXY.o];exact hk2);rw[<-hbr.cell (p:=⟨b,off+k,none⟩) hlt] at hcell;rw[<-hbr.cell (p:=⟨b2,off2+k,none⟩) hlt2] at hcell2;have HD:=ae (xh xs ys k hk2 (by rw[<-HXY.o];exact hk2));have hxl:(k:Int)<(xs.length:Int):=by omega
    have hyl:(k:Int)<(ys.length:Int):=by have:=HXY.o;omega
    clear hn hbr;generalize xs.getD k 0=x at hcell HD;generalize ys.getD k 0=y at hcell2 HD;cases hne:(x !=y)
    .go_wp2;go_quiet (fail);go_wp2;go_roundw;case rel=>exact⟨k+1,by omega,by go_num,by rw[HN.o,HD.o,M9 (AK hne).1],below_drewN HBR.o _⟩
     case measure=>simp[intOf];omega
    .go_wp2;go_quiet (fail);go_wp2;go_quiet (fail);go_wp2;go_ret;refine⟨kh ?_,below_drewN (below_drewN HBR.o _) _⟩;rw[HO.o,HN.o,HD.o,M8 (AL hne).1,rL]
   .clear hn hbr;go_wp2;go_ret;refine⟨kh ?_,HBR.o⟩;rw[HO.o,HN.o,No (by omega)];rfl
 .have HO:Nw (eW 2 xs ys=decide (aj ys<aj xs)):=by
   have h1:aj xs≠aj ys:=by simpa using hd
   have h2:=fS (aj xs) (aj ys);unfold Nw eW aX;rw[M8 (by omega),rL]
  go_wp2;go_ret;exact⟨kh HO.o.symm,fi⟩
theorem Ix(p n v:Int)(xs ys:List Int)(b off cap b2 off2 cap2:Nat)(w:World)(hm:xs.length<=3)(hxy:xs.length=ys.length)(hbx:∀x∈xs,0<=x/\x<=40000)(hby:∀x∈ys,0<=x/\x<=40000)(hlt:b<w.heap.size)(hlt2:b2<w.heap.size)(hc:ef w b off xs)(hc2:ef w b2 off2 ys):Calls prog 96 #[aS p n 1 v,.slice (some ⟨b,off,none⟩) xs.length cap,.slice (some ⟨b2,off2,none⟩) ys.length cap2] w λe w'=>e=.returned (.bool (eW 1 xs ys))/\Below w.heap.size w w':=by
 have HC:=ae hc;have HC2:=ae hc2;have HBX:=ae hbx;have HBY:=ae hby;have HXY:=ae hxy;have hmy:ys.length<=3:=by omega
 clear hc hc2 hbx hby hxy;go_enter func96,ntmps96;go_wp2_with fail;refine(mC xs _ _ _ _ HBX.o hm ?_).mono ?_
 .intro i hi;rw[World.cell?_alloc_lt (w:=w) (o:=_) (a:=⟨b,off+i,none⟩) hlt];exact HC.o i hi
 rintro e w' ⟨rfl,rfl⟩;go_wp2_with fail;refine(mC ys _ _ _ _ HBY.o hmy ?_).mono ?_
 .intro i hi;rw[World.cell?_alloc_lt (w:=w) (o:=_) (a:=⟨b2,off2+i,none⟩) hlt2];exact HC2.o i hi
 rintro e w' ⟨rfl,rfl⟩;cases hd:(aj xs !=aj ys)
 .have hz:aQ (aj xs) (aj ys)=0:=by
   have h1:aj xs=aj ys:=by simpa using hd
   have:=fS (aj xs) (aj ys);omega
  have HO:Nw (eW 1 xs ys=decide (0<kt xs ys)):=by unfold Nw eW aX;rw[M9 hz,M9 rfl]
  clear hz;go_wp2;go_loopw [10] (λi wr=>∃k:Nat,k<=xs.length/\i=.int .i64 ((k:Int)-1)/\kt xs ys=cY (ys.take k).reverse (xs.take k).reverse/\Below w.heap.size w wr) (λi _=>(intOf i+1).toNat);case atStart=>exact⟨xs.length,MI _,rfl,by rw[M2 (by have:=HXY.o;omega),M2 (by omega)];rfl,fi⟩
  case round=>
   obtain⟨k,hk,rfl,hn,hbr⟩:=hrel;have HN:=ae hn;have HBR:=ae hbr;cases k with
   |succ k=>
    have hk2:k<xs.length:=by omega
    have hcell:=HC.o k hk2;have hcell2:=HC2.o k (by rw[<-HXY.o];exact hk2);rw[<-hbr.cell (p:=⟨b,off+k,none⟩) hlt] at hcell;rw[<-hbr.cell (p:=⟨b2,off2+k,none⟩) hlt2] at hcell2;have HD:=ae (xj xs ys k hk2 (by rw[<-HXY.o];exact hk2));have hxl:(k:Int)<(xs.length:Int):=by omega
    have hyl:(k:Int)<(ys.length:Int):=by have:=HXY.o;omega
    have ek:(((k+1:Nat):Int)-1)=(k:Int):=by omega
    rw[ek];clear hn hbr ek;generalize xs.getD k 0=x at hcell HD;generalize ys.getD k 0=y at hcell2 HD;cases hne:(x !=y)
    .go_wp2;go_quiet (fail);go_wp2;go_roundw;case rel=>exact⟨k,by omega,rfl,by rw[HN.o,HD.o,M9 (AK hne).2],below_drewN HBR.o _⟩
     case measure=>simp[intOf]
    .go_wp2;go_quiet (fail);go_wp2;go_quiet (fail);go_wp2;go_ret;refine⟨kh ?_,below_drewN (below_drewN HBR.o _) _⟩;rw[HO.o,HN.o,HD.o,M8 (AL hne).2,rL]
   |zero=>clear hn hbr;go_wp2;go_ret;refine⟨kh ?_,HBR.o⟩;rw[HO.o,HN.o];rfl
 .have HO:Nw (eW 1 xs ys=decide (aj ys<aj xs)):=by
   have h1:aj xs≠aj ys:=by simpa using hd
   have h2:=fS (aj xs) (aj ys);unfold Nw eW aX;rw[M8 (by omega),rL]
  go_wp2;go_ret;exact⟨kh HO.o.symm,fi⟩
theorem vf(p n o v:Int)(x y:Value)(xs ys:List Int)(w:World)(ho:o=1\/o=2)(h0:0<xs.length)(hm:xs.length<=3)(hxy:xs.length=ys.length)(hbx:∀x∈xs,0<=x/\x<=40000)(hby:∀x∈ys,0<=x/\x<=40000)(hs:Sl w x xs)(hs2:Sl w y ys):Calls prog 96 #[aS p n o v,x,y] w λe w'=>e=.returned (.bool (eW o xs ys))/\Below w.heap.size w w':=by
 obtain⟨a,cap,rfl,h1⟩:=hs;obtain⟨a2,cap2,rfl,h2⟩:=hs2;obtain⟨b,off,rfl,hlt,hc⟩:=h1 h0;obtain⟨b2,off2,rfl,hlt2,hc2⟩:=h2 (by omega);rcases ho with rfl|rfl
 .exact Ix p n v xs ys b off cap b2 off2 cap2 w hm hxy hbx hby hlt hlt2 hc hc2
 .exact Iw p n v xs ys b off cap b2 off2 cap2 w hm hxy hbx hby hlt hlt2 hc hc2
end Go.Proofs.YteimdcndjjclnaaGreat
