/- The program's small functions of flat terms. -/
import Derived.Test.YtglijodcbdcngaaGreatH
import Derived.Test.YtglijodcbdcngaaGreatPI
import Derived.Test.YtglijodcbdcngaaGreatFA
set_option maxHeartbeats 2000000
set_option maxRecDepth 100000
namespace Go.Proofs.YtglijodcbdcngaaGreat
set_option linter.unusedSimpArgs false
set_option linter.unusedVariables false
open Go.Proofs.Tryz Go.RowKit
def iY(o:Int)(i:Nat):Int:=if i=0 then W0 o else if i=1 then W1 o else W2 o
theorem yR(o:Int)(i:Nat)(w:World)(ho:o=1\/o=2)(hi:i<3):Calls prog 96 #[.int .i64 o,.int .i64 i] w λe w'=>e=.returned (.int .i64 (iY o i))/\w'=w:=by
 have h:i=0\/i=1\/i=2:=by omega
 rcases ho with rfl|rfl<;>rcases h with rfl|rfl|rfl<;>
 ·go_enter func96,ntmps96;go_wp2;go_ret;exact⟨rfl,rfl⟩
theorem sr(ov:Int)(i:Nat)(w:World)(ho:ov=1\/ov=2)(hi:i<255):Calls prog 97 #[.int .i64 ov,.int .i64 i] w λe w'=>e=.returned (.int .i64 (bG ov i))/\w'=w:=by
 rcases ho with rfl|rfl
 ·go_enter func97,ntmps97;go_wp2;go_ret;exact⟨rfl,rfl⟩
 ·go_enter func97,ntmps97;go_wp2;go_ret;exact⟨rfl,rfl⟩
structure aQ(w:World)(ob:Nat)(p k0 k1 k2:Int)(sv:Value):Prop where
 lt:ob<w.heap.size
 c0:w.cell? ⟨ob,0,none⟩=some (.int .u32 p)
 c1:w.cell? ⟨ob,1,none⟩=some (.int .i64 k0)
 c2:w.cell? ⟨ob,2,none⟩=some (.int .i64 k1)
 c3:w.cell? ⟨ob,3,none⟩=some (.int .i64 k2)
 c4:w.cell? ⟨ob,4,none⟩=some sv
theorem aQ.below{w w':World}{ob:Nat}{p k0 k1 k2:Int}{sv:Value}(h:aQ w ob p k0 k1 k2 sv)(hb:Below w.heap.size w w'):aQ w' ob p k0 k1 k2 sv:=
 ⟨Hj h.lt hb.size,ae h.c0 hb,ae h.c1 hb,ae h.c2 hb,ae h.c3 hb,ae h.c4 hb⟩
def bR(a b d z:Int):Value:=.agg #[.int .u16 a,.int .u16 b,.int .u16 d,.int .u16 z]
def kr(a b d k0 k1 k2:Int)(k:Nat):Int:=if k=0 then 0 else if k=1 then a*k0 else if k=2 then a*k0+b*k1 else a*k0+b*k1+d*k2
theorem gT{a k:Int}(ha:0<=a/\a<=65535)(hk:0<=k/\k<=137438953472):0<=a*k/\a*k<=9007061815787520:=by obtain⟨h1,h2⟩:=ha;obtain⟨h3,h4⟩:=hk;refine⟨Int.mul_nonneg h1 h3,?_⟩;have:a*k<=65535*137438953472:=Int.mul_le_mul h2 h4 h3 (by omega);omega
theorem qP(ob:Nat)(p k0 k1 k2:Int)(sv:Value)(a b d z:Int)(w:World)(ho:aQ w ob p k0 k1 k2 sv)(ha:0<=a/\a<=65535)(hb:0<=b/\b<=65535)(hd:0<=d/\d<=65535)(h0:0<=k0/\k0<=137438953472)(h1:0<=k1/\k1<=137438953472)(h2:0<=k2/\k2<=137438953472):Calls prog 141 #[.pointer (some ⟨ob,0,none⟩),bR a b d z] w λe w'=>e=.returned (.int .i64 (a*k0+b*k1+d*k2))/\Below w.heap.size w w':=by
 obtain⟨m0,n0⟩:=gT ha h0;obtain⟨m1,n1⟩:=gT hb h1;obtain⟨m2,n2⟩:=gT hd h2;obtain⟨hlt,c0,c1,c2,c3,c4⟩:=ho;obtain⟨w1,hw1⟩:∃w1,w1=w.alloc (.cells #[.int .u16 a,.int .u16 b,.int .u16 d,.int .u16 z] 73):=⟨_,rfl⟩;have HB:Ic (Below w.heap.size w w1):=by rw[hw1];exact bp
 have x0:w1.cell? ⟨w.heap.size,0,none⟩=some (.int .u16 a):=by rw[hw1];simp[go_sem]
 have x1:w1.cell? ⟨w.heap.size,1,none⟩=some (.int .u16 b):=by rw[hw1];simp[go_sem]
 have x2:w1.cell? ⟨w.heap.size,2,none⟩=some (.int .u16 d):=by rw[hw1];simp[go_sem]
 have i0:∀w,(Instr.index 138 (.agg #[.int .i64 k0,.int .i64 k1,.int .i64 k2]) (.int .i64 0)).run prog w=.ok (.int .i64 k0) w:=λ_=>by kernel_rfl
 have i1:∀w,(Instr.index 138 (.agg #[.int .i64 k0,.int .i64 k1,.int .i64 k2]) (.int .i64 1)).run prog w=.ok (.int .i64 k1) w:=λ_=>by kernel_rfl
 have i2:∀w,(Instr.index 138 (.agg #[.int .i64 k0,.int .i64 k1,.int .i64 k2]) (.int .i64 2)).run prog w=.ok (.int .i64 k2) w:=λ_=>by kernel_rfl
 unfold bR;go_enter func141,ntmps141;go_wp2_with fail;rw[<-hw1];clear hw1;go_loopw [5,12] (λs i wr=>∃k:Nat,k<=3/\i=.int .i64 k/\s=.int .i64 (kr a b d k0 k1 k2 k)/\wr=w1) (λ_ i _=>3-(intOf i).toNat);case atStart=>exact⟨0,by omega,rfl,rfl,rfl⟩
 case round=>
  obtain⟨k,hk,rfl,rfl,rfl⟩:=hrel;have h:k=0\/k=1\/k=2\/k=3:=by omega
  rcases h with rfl|rfl|rfl|rfl
  ·simp only[kr,if_true];rw[show ((0:Nat):Int)=0 from rfl];go_wp2;go_roundw;case rel=>exact⟨1,by omega,rfl,by simp[kr],by first|rfl|trivial⟩
   case measure=>simp[intOf]
  ·simp only[kr,if_true,show¬(1=0) from by decide,if_false];rw[show ((1:Nat):Int)=1 from rfl];go_wp2;go_roundw;case rel=>exact⟨2,by omega,rfl,by simp[kr],by first|rfl|trivial⟩
   case measure=>simp[intOf]
  ·simp only[kr,if_true,show¬(2=0) from by decide,show¬(2=1) from by decide,if_false];rw[show ((2:Nat):Int)=2 from rfl];go_wp2;go_roundw;case rel=>exact⟨3,by omega,rfl,by simp[kr],by first|rfl|trivial⟩
   case measure=>simp[intOf]
  ·simp only[kr,if_true,show¬(3=0) from by decide,show¬(3=1) from by decide,show¬(3=2) from by decide,if_false];rw[show ((3:Nat):Int)=3 from rfl];go_wp2;go_ret;exact⟨rfl,HB.o⟩
structure Ft where
 k:Int
 a:Int
 b:Int
 d:Int
 z:Int
 pl:Int
 c:Int
def aA(t:Ft):List Value:=[.int .i64 t.k,.int .u16 t.a,.int .u16 t.b,.int .u16 t.d,.int .u16 t.z,.int .u8 t.pl,.int .u8 t.c]
def aY(t:Ft):Value:=.agg #[.int .i64 t.k,.int .u16 t.a,.int .u16 t.b,.int .u16 t.d,.int .u16 t.z,.int .u8 t.pl,.int .u8 t.c]
theorem yS{a p:Int}(hp:2<=p/\p<=101):0<=a%p/\a%p<p:=⟨Int.emod_nonneg _ (by omega),Int.emod_lt_of_pos _ (by omega)⟩
theorem Gk{a b:Int}(ha:0<=a/\a<=255)(hb:0<=b/\b<=255):0<=a*b/\a*b<=65025:=by obtain⟨h1,h2⟩:=ha;obtain⟨h3,h4⟩:=hb;refine⟨Int.mul_nonneg h1 h3,?_⟩;have:a*b<=255*255:=Int.mul_le_mul h2 h4 h3 (by omega);omega
theorem vZ(ob:Nat)(p k0 k1 k2:Int)(sv:Value)(a b:Int)(w:World)(ho:aQ w ob p k0 k1 k2 sv)(hp:2<=p/\p<=101)(ha:0<=a/\a<=255)(hb:0<=b/\b<=255):Calls prog 165 #[.pointer (some ⟨ob,0,none⟩),.int .u8 a,.int .u8 b] w λe w'=>e=.returned (.int .u8 (a*b%p))/\w'=w:=by
 obtain⟨m0,n0⟩:=Gk ha hb;obtain⟨q0,q1⟩:=yS (a:=a*b) hp;obtain⟨hp0,hp1⟩:=hp;have hpz:¬p=0:=by omega
 obtain⟨hlt,c0,c1,c2,c3,c4⟩:=ho;go_enter func165,ntmps165;go_wp2;go_ret;exact⟨rfl,rfl⟩
theorem wd(ob:Nat)(p k0 k1 k2:Int)(sv:Value)(a:Int)(w:World)(ho:aQ w ob p k0 k1 k2 sv)(hp:2<=p/\p<=101)(ha:0<a/\a<p):Calls prog 119 #[.pointer (some ⟨ob,0,none⟩),.int .u8 a] w λe w'=>e=.returned (.int .u8 (p-a))/\w'=w:=by obtain⟨hp0,hp1⟩:=hp;obtain⟨ha0,ha1⟩:=ha;obtain⟨hlt,c0,c1,c2,c3,c4⟩:=ho;go_enter func119,ntmps119;go_wp2;go_ret;exact⟨rfl,rfl⟩
theorem jX{w:World}{A B C:Obj}:Below w.heap.size w (((w.alloc A).alloc B).alloc C):=((af (w:=w) (A:=A)).alloc (by simp) _).alloc (by simp;omega) _
theorem oz(a b d z a2 b2 d2 z2:Int)(w:World)(ha:0<=a2/\a2<=a/\a<=65535)(hb:0<=b2/\b2<=b/\b<=65535)(hd:0<=d2/\d2<=d/\d<=65535)(hz:0<=z2/\z2<=z/\z<=65535):Calls prog 118 #[bR a b d z,bR a2 b2 d2 z2] w λe w'=>e=.returned (bR (a-a2) (b-b2) (d-d2) (z-z2))/\Below w.heap.size w w':=by obtain⟨ha0,ha1,ha2⟩:=ha;obtain⟨hb0,hb1,hb2⟩:=hb;obtain⟨hd0,hd1,hd2⟩:=hd;obtain⟨hz0,hz1,hz2⟩:=hz;unfold bR;go_enter func118,ntmps118;go_wp2;refine Hn (v:=.agg #[.int .u16 (a-a2),.int .u16 (b-b2),.int .u16 (d-d2),.int .u16 (z-z2)]) (by simp[results,Tryz.results118,go_sem]) rfl ⟨rfl,jX⟩
theorem Gl(a b d z a2 b2 d2 z2:Int)(w:World)(ha:0<=a/\0<=a2/\a+a2<=65535)(hb:0<=b/\0<=b2/\b+b2<=65535)(hd:0<=d/\0<=d2/\d+d2<=65535)(hz:0<=z/\0<=z2/\z+z2<=65535):Calls prog 169 #[bR a b d z,bR a2 b2 d2 z2] w λe w'=>e=.returned (bR (a+a2) (b+b2) (d+d2) (z+z2))/\Below w.heap.size w w':=by obtain⟨ha0,ha1,ha2⟩:=ha;obtain⟨hb0,hb1,hb2⟩:=hb;obtain⟨hd0,hd1,hd2⟩:=hd;obtain⟨hz0,hz1,hz2⟩:=hz;unfold bR;go_enter func169,ntmps169;go_wp2;refine Hn (v:=.agg #[.int .u16 (a+a2),.int .u16 (b+b2),.int .u16 (d+d2),.int .u16 (z+z2)]) (by simp[results,Tryz.results169,go_sem]) rfl ⟨rfl,jX⟩
def fX(a b d z a2 b2 d2 z2:Int):Bool:=decide (a<=a2)&&decide (b<=b2)&&decide (d<=d2)&&decide (z<=z2)
theorem qR(a b d z a2 b2 d2 z2:Int)(w:World):Calls prog 81 #[bR a b d z,bR a2 b2 d2 z2] w λe w'=>e=.returned (.bool (fX a b d z a2 b2 d2 z2))/\Below w.heap.size w w':=by
 unfold bR fX;by_cases h1:a<=a2
 rotate_left
 ·have d1:=Hh h1;rw[d1];go_enter func81,ntmps81;go_wp2;go_ret;exact⟨rfl,cW⟩
 by_cases h2:b<=b2
 rotate_left
 ·have d1:=Hi h1;have d2:=Hh h2;rw[d1,d2];go_enter func81,ntmps81;go_wp2;go_ret;exact⟨rfl,cW⟩
 by_cases h3:d<=d2
 rotate_left
 ·have d1:=Hi h1;have d3:=Hi h2;have d4:=Hh h3;rw[d1,d3,d4];go_enter func81,ntmps81;go_wp2;go_ret;exact⟨rfl,cW⟩
 have d1:=Hi h1;have d3:=Hi h2;have d4:=Hi h3;rw[d1,d3,d4];go_enter func81,ntmps81;go_wp2;go_ret;exact⟨by simp,cW⟩
theorem gJ{p a:Int}(hpr:aZ p=0)(ha:0<a/\a<p):1<=aC p a/\aC p a<p/\a*aC p a%p=1:=by obtain⟨hp1,hp2,hd⟩:=nO hpr;obtain⟨pn,rfl⟩:∃n:Nat,p=n:=⟨p.toNat,by omega⟩;obtain⟨an,rfl⟩:∃n:Nat,a=n:=⟨a.toNat,by omega⟩;have h:=tM (p:=pn) (a:=an) (by omega) (by omega) (by simpa [jH] using hd) (by omega) (by omega);simp only[k6,Bool.and_eq_true,decide_eq_true_eq,beq_iff_eq] at h;obtain⟨⟨⟨h1,h2⟩,h3⟩,_⟩:=h;have e:aC (pn:Int) (an:Int)=((fh pn an:Nat):Int):=rfl;rw[e];refine⟨by omega,by omega,?_⟩;have h4:((an*fh pn an%pn:Nat):Int)=((1%pn:Nat):Int):=congrArg _ h3;rw[Nat.mod_eq_of_lt (show 1<pn by omega)] at h4;simpa [Int.natCast_emod,Int.natCast_mul] using h4
theorem we(ob:Nat)(p k0 k1 k2:Int)(sv:Value)(a:Int)(w:World)(ho:aQ w ob p k0 k1 k2 sv)(hpr:aZ p=0)(ha:0<a/\a<p):Calls prog 145 #[.pointer (some ⟨ob,0,none⟩),.int .u8 a] w λe w'=>e=.returned (.int .u8 (aC p a))/\Below w.heap.size w w':=by
 obtain⟨hp1,hp2,_⟩:=nO hpr;obtain⟨i0,i1,_⟩:=gJ hpr ha;obtain⟨ha0,ha1⟩:=ha;have hn:fe p [a]=0:=by unfold fe;rw[if_pos hpr,if_neg];simp[fG];omega
 have e1:iF p a=0:=by unfold iF;rw[if_pos hn,if_neg (by omega)]
 have e2:je p a=aC p a:=by unfold je;rw[if_pos e1]
 have HI:=aa (AD p a w);rw[e1,e2] at HI;clear e1 e2 hn hpr;obtain⟨hlt,c0,c1,c2,c3,c4⟩:=ho;generalize aC p a=q at*;go_enter func145,ntmps145;go_wp2_with (go_at_call 194;refine HI.o.mono ?_;rintro e w1 ⟨rfl,hb1⟩;have HB1:=aa hb1;clear hb1);go_ret;exact⟨rfl,HB1.o⟩
structure jo(w:World)(b off:Nat)(t:Ft)(rv:Value)(num inv:Int):Prop where
 lt:b<w.heap.size
 cs:∀j u,(aA t)[j]?=some u->w.cell? ⟨b,off+j,none⟩=some u
 c7:w.cell? ⟨b,off+7,none⟩=some rv
 c8:w.cell? ⟨b,off+8,none⟩=some (.int .i64 num)
 c9:w.cell? ⟨b,off+9,none⟩=some (.int .u8 inv)
theorem jo.below{w w':World}{b off:Nat}{t:Ft}{rv:Value}{num inv:Int}(h:jo w b off t rv num inv)(hb:Below w.heap.size w w'):jo w' b off t rv num inv:=
 ⟨Hj h.lt hb.size,λj u hj=>ae (h.cs j u hj) hb,ae h.c7 hb,ae h.c8 hb,ae h.c9 hb⟩
theorem jo.cells{w:World}{b off:Nat}{t:Ft}{rv:Value}{num inv:Int}(h:jo w b off t rv num inv):w.cell? ⟨b,off,none⟩=some (.int .i64 t.k)/\w.cell? ⟨b,off+1,none⟩=some (.int .u16 t.a)/\w.cell? ⟨b,off+2,none⟩=some (.int .u16 t.b)/\w.cell? ⟨b,off+3,none⟩=some (.int .u16 t.d)/\w.cell? ⟨b,off+4,none⟩=some (.int .u16 t.z)/\w.cell? ⟨b,off+5,none⟩=some (.int .u8 t.pl)/\w.cell? ⟨b,off+6,none⟩=some (.int .u8 t.c):=
 ⟨h.cs 0 _ rfl,h.cs 1 _ rfl,h.cs 2 _ rfl,h.cs 3 _ rfl,h.cs 4 _ rfl,h.cs 5 _ rfl,h.cs 6 _ rfl⟩
def dE(l t:Ft):Bool:=decide (l.pl=t.pl)&&fX l.a l.b l.d l.z t.a t.b t.d t.z
theorem vS(b off:Nat)(l t:Ft)(rv:Value)(num inv:Int)(w:World)(hd:jo w b off l rv num inv):Calls prog 104 #[.pointer (some ⟨b,off,none⟩),aY t] w λe w'=>e=.returned (.bool (dE l t))/\Below w.heap.size w w':=by
 obtain⟨c0,c1,c2,c3,c4,c5,c6⟩:=hd.cells;obtain⟨w1,hw1⟩:∃w1,w1=w.alloc (.cells #[.int .i64 t.k,.int .u16 t.a,.int .u16 t.b,.int .u16 t.d,.int .u16 t.z,.int .u8 t.pl,.int .u8 t.c] 144):=⟨_,rfl⟩;have HB:Ic (Below w.heap.size w w1):=by rw[hw1];exact bp
 have HX:Ic (w1.cell? ⟨w.heap.size,1,none⟩=some (.int .u16 t.a)/\w1.cell? ⟨w.heap.size,2,none⟩=some (.int .u16 t.b)/\w1.cell? ⟨w.heap.size,3,none⟩=some (.int .u16 t.d)/\w1.cell? ⟨w.heap.size,4,none⟩=some (.int .u16 t.z)/\w1.cell? ⟨w.heap.size,5,none⟩=some (.int .u8 t.pl)):=by rw[hw1];exact aa ⟨by simp[go_sem],by simp[go_sem],by simp[go_sem],by simp[go_sem],by simp[go_sem]⟩
 have y1:=ae c1 HB.o;have y2:=ae c2 HB.o;have y3:=ae c3 HB.o;have y4:=ae c4 HB.o;have y5:=ae c5 HB.o;obtain⟨x1,x2,x3,x4,x5⟩:=HX.o;have KEEP:Ic (∀W,Below w1.heap.size w1 W->(Ic (Below w1.heap.size w1 W)/\W.cell? ⟨b,off+1,none⟩=some (.int .u16 l.a)/\W.cell? ⟨b,off+2,none⟩=some (.int .u16 l.b)/\W.cell? ⟨b,off+3,none⟩=some (.int .u16 l.d)/\W.cell? ⟨b,off+4,none⟩=some (.int .u16 l.z)/\W.cell? ⟨b,off+5,none⟩=some (.int .u8 l.pl)/\W.cell? ⟨w.heap.size,1,none⟩=some (.int .u16 t.a)/\W.cell? ⟨w.heap.size,2,none⟩=some (.int .u16 t.b)/\W.cell? ⟨w.heap.size,3,none⟩=some (.int .u16 t.d)/\W.cell? ⟨w.heap.size,4,none⟩=some (.int .u16 t.z)/\W.cell? ⟨w.heap.size,5,none⟩=some (.int .u8 t.pl))):=
  λW h=>⟨h,ae y1 h,ae y2 h,ae y3 h,ae y4 h,ae y5 h,ae x1 h,ae x2 h,ae x3 h,ae x4 h,ae x5 h⟩
 have HB0:Ic (Below w1.heap.size w1 w1.drew):=(Hf _ _).drew;unfold aY dE;clear c0 c1 c2 c3 c4 c5 c6 HX hd;by_cases h:l.pl=t.pl
 ·have hb:(l.pl==t.pl)=true:=by simpa using h
  have HE:=aa (qR l.a l.b l.d l.z t.a t.b t.d t.z);rw[Hi h,Bool.true_and];clear h y1 y2 y3 y4 y5 x1 x2 x3 x4 x5;unfold bR at HE;go_enter func104,ntmps104;go_wp2_with fail;rw[<-hw1];clear hw1;go_region_held (λW=>Ic (Below w1.heap.size w1 W)/\W.cell? ⟨b,off+1,none⟩=some (.int .u16 l.a)/\W.cell? ⟨b,off+2,none⟩=some (.int .u16 l.b)/\W.cell? ⟨b,off+3,none⟩=some (.int .u16 l.d)/\W.cell? ⟨b,off+4,none⟩=some (.int .u16 l.z)/\W.cell? ⟨b,off+5,none⟩=some (.int .u8 l.pl)/\W.cell? ⟨w.heap.size,1,none⟩=some (.int .u16 t.a)/\W.cell? ⟨w.heap.size,2,none⟩=some (.int .u16 t.b)/\W.cell? ⟨w.heap.size,3,none⟩=some (.int .u16 t.d)/\W.cell? ⟨w.heap.size,4,none⟩=some (.int .u16 t.z)/\W.cell? ⟨w.heap.size,5,none⟩=some (.int .u8 t.pl))
   (first|exact KEEP.o _ HB0.o|exact KEEP.o _ HB2.o)
   (first|(go_at_call 81;refine(HE.o _).mono ?_;rintro e w2 ⟨rfl,hb2⟩;have HB2:=aa (HB0.o.trans (hb2.mono HB0.o.size));clear hb2))
  go_wp2;go_ret;exact⟨rfl,HB.o.trans (HB2.o.mono HB.o.size)⟩
 ·have hb:(l.pl==t.pl)=false:=by simpa using h
  rw[Hh h,Bool.false_and];clear h;go_enter func104,ntmps104;go_wp2_with fail;rw[<-hw1];clear hw1;go_quiet (fail);go_wp2;go_ret;exact⟨rfl,below_drewN HB.o _⟩
theorem Tryz.infoFt:(prog.info? 144).map (λi=>(i.zero,i.size,i.bytes))=some (some (.agg #[.int .i64 0,.int .u16 0,.int .u16 0,.int .u16 0,.int .u16 0,.int .u8 0,.int .u8 0]),7,24):=by kernel_rfl
def aD(fs:List Ft):List Value:=fs.flatMap aA
theorem eG(fs:List Ft):(aD fs).length=fs.length*7:=by
 induction fs with
 |nil=>rfl
 |cons t fs ih=>simp only[aD,List.flatMap_cons,Hx,List.length_cons] at ih⊢;rw[ih];simp[aA];omega
theorem j8(t:Ft)(fs:List Ft):aD (t::fs)=aA t++aD fs:=rfl
theorem sA(fs gs:List Ft):aD (fs++gs)=aD fs++aD gs:=by unfold aD;rw[List.flatMap_append]
theorem nw(fs:List Ft)(t:Ft):aD (fs++[t])=aD fs++aA t:=by rw[sA,j8];simp[aD]
theorem jU(t:Ft):∀u∈aA t,u.oneCell'=true:=by intro u hu;simp only[aA,List.mem_cons,List.not_mem_nil,or_false] at hu;rcases hu with rfl|rfl|rfl|rfl|rfl|rfl|rfl<;>rfl
theorem nW(fs:List Ft):∀u∈aD fs,u.oneCell'=true:=by intro u hu;simp only[aD,List.mem_flatMap] at hu;obtain⟨t,_,hu⟩:=hu;exact jU t u hu
def Fv(w:World)(v:Value)(fs:List Ft):Prop:=
 ∃a cap,v=.slice a fs.length cap/\fs.length<=cap/\(0<fs.length->∃b off,a=some ⟨b,off,none⟩/\b<w.heap.size/\∀j u,(aD fs)[j]?=some u->w.cell? ⟨b,off+j,none⟩=some u)
theorem Fv.below{w w':World}{v:Value}{fs:List Ft}(h:Fv w v fs)(hb:Below w.heap.size w w'):Fv w' v fs:=by obtain⟨a,cap,rfl,hc,h1⟩:=h;refine⟨a,cap,rfl,hc,λhp=>?_⟩;obtain⟨b,off,rfl,hlt,hcs⟩:=h1 hp;exact⟨b,off,rfl,Hj hlt hb.size,λj u hj=>ae (hcs j u hj) hb⟩
theorem kD{w:World}(a:Option Addr)(c:Nat):Fv w (.slice a 0 c) []:=⟨a,c,rfl,Hl _,λh=>absurd h (by simp)⟩
theorem fH{w:World}{B:Nat}{v:Value}{ts:List Ft}(h:w.ownsRow B 144 7 v ts.length (aD ts)):Fv w v ts:=by
 rcases h.2 with ⟨h1,h2⟩|⟨b,cap,ai,rfl,hb,hh,hn,hm,hcs,ht⟩
 ·exact⟨none,0,by rw[h1,h2],by omega,λhp=>by omega⟩
 ·have hlt:=Hd h b rfl;refine⟨_,cap,rfl,hn,λhp=>⟨b,0,rfl,hlt.2,λj u hj=>?_⟩⟩;have hjl:j<ts.length*7:=by rw[<-eG];apply Ib;intro hle;rw[Hu hle] at hj;simp at hj
  rw[Hy,h.cellAt j hjl];exact hj
def cC(w:World)(b off:Nat)(t:Ft):Prop:=w.cell? ⟨b,off,none⟩=some (.int .i64 t.k)/\w.cell? ⟨b,off+1,none⟩=some (.int .u16 t.a)/\w.cell? ⟨b,off+2,none⟩=some (.int .u16 t.b)/\w.cell? ⟨b,off+3,none⟩=some (.int .u16 t.d)/\w.cell? ⟨b,off+4,none⟩=some (.int .u16 t.z)/\w.cell? ⟨b,off+5,none⟩=some (.int .u8 t.pl)/\w.cell? ⟨b,off+6,none⟩=some (.int .u8 t.c)
theorem cC.keep{w w':World}{b off:Nat}{t:Ft}(h:cC w b off t)(hb:Below w.heap.size w w'):cC w' b off t:=
 ⟨ae h.1 hb,ae h.2.1 hb,ae h.2.2.1 hb,ae h.2.2.2.1 hb,ae h.2.2.2.2.1 hb,ae h.2.2.2.2.2.1 hb,ae h.2.2.2.2.2.2 hb⟩
theorem lR{w:World}{b off:Nat}{t:Ft}(h:∀j u,(aA t)[j]?=some u->w.cell? ⟨b,off+j,none⟩=some u):cC w b off t:=
 ⟨h 0 _ rfl,h 1 _ rfl,h 2 _ rfl,h 3 _ rfl,h 4 _ rfl,h 5 _ rfl,h 6 _ rfl⟩
theorem yT:∀(fs:List Ft)(k:Nat),aD (fs.drop k)=(aD fs).drop (k*7)
 |fs,0=>by simp
 |[],k+1=>by simp[aD]
 |t::fs,k+1=>by rw[List.drop_succ_cons,yT fs k,j8,show (k+1)*7=7+k*7 by omega,<-List.drop_drop];simp[aA]
def dC:Ft:=⟨0,0,0,0,0,0,0⟩
theorem Fv.at{w:World}{a:Option Addr}{n cap:Nat}{fs:List Ft}(h:Fv w (.slice a n cap) fs)(k:Nat)(hk:k<fs.length):∃b off,a=some ⟨b,off,none⟩/\b<w.heap.size/\n=fs.length/\cC w b (off+k*7) (fs.getD k dC):=by
 obtain⟨a2,c2,e,_,h1⟩:=h;obtain⟨b,off,rfl,hlt,hcs⟩:=h1 (by omega);simp only[H7] at e;obtain⟨rfl,rfl,rfl⟩:=e;refine⟨b,off,rfl,hlt,rfl,lR λj u hj=>?_⟩;have hd:(aD (fs.drop k))[j]?=some u:=by
  rw[List.drop_eq_getElem_cons hk,j8,List.getElem?_append_left]
  ·have e:fs.getD k dC=fs[k]:=by simp[Hs,hk]
   rw[e] at hj;exact hj
  ·apply Ib;intro hle;rw[Hu (by simpa [aA] using hle)] at hj;simp at hj
 rw[yT,List.getElem?_drop] at hd;rw[Nat.add_assoc];exact hcs _ _ hd
theorem Fv.head{w:World}{v:Value}{t:Ft}{ts:List Ft}(h:Fv w v (t::ts)):∃b off cap,v=.slice (some ⟨b,off,none⟩) (ts.length+1) cap/\ts.length+1<=cap/\b<w.heap.size/\cC w b off t/\(cap=1->ts=[])/\Fv w (.slice (some ⟨b,off+7,none⟩) ts.length (cap-1)) ts:=by
 obtain⟨a,cap,rfl,hcap,h⟩:=h;obtain⟨b,off,rfl,hlt,hc⟩:=h (by simp);simp only[List.length_cons] at hcap;refine⟨b,off,cap,rfl,hcap,hlt,lR λj u hj=>hc j u ?_,λe=>List.length_eq_zero_iff.1 (by omega),_,_,rfl,by omega,λhp=>⟨b,off+7,rfl,hlt,λj u hj=>?_⟩⟩
 ·rw[j8,List.getElem?_append_left]
  ·exact hj
  ·apply Ib;intro hle;rw[Hu hle] at hj;simp at hj
 ·rw[Nat.add_assoc];refine hc (7+j) u ?_;rw[j8,List.getElem?_append_right (by simp[aA])];simpa [aA] using hj
theorem Fv.tail{w:World}{b off cap:Nat}{ts:List Ft}(h:(cap=1->ts=[])/\Fv w (.slice (some ⟨b,off+7,none⟩) ts.length (cap-1)) ts):∃A,(if cap=1 then (some ⟨b,off,none⟩:Option Addr) else some ⟨b,off+7,none⟩)=some A/\Fv w (.slice (some A) ts.length (cap-1)) ts:=by
 by_cases hc:cap=1
 ·have e:=h.1 hc;subst e;exact⟨⟨b,off,none⟩,if_pos hc,_,_,rfl,Hl _,λh=>absurd h (by simp)⟩
 ·exact⟨⟨b,off+7,none⟩,if_neg hc,h.2⟩
def cw(p:Int):List Ft->List Ft->List Ft
 |[],g=>g
 |t::f,[]=>t::f
 |t::f,u::g=>
  if u.k<t.k then t::cw p f (u::g)
  else if t.k<u.k then u::cw p (t::f) g
  else if (t.c+u.c)%p≠0 then {t with c:=(t.c+u.c)%p}::cw p f g
  else cw p f g
theorem nA(p:Int)(g:List Ft):cw p [] g=g:=by unfold cw;rfl
theorem nB(p:Int)(f:List Ft):cw p f []=f:=by cases f<;>(unfold cw;rfl)
theorem nC{p:Int}{t u:Ft}{f g:List Ft}(h:u.k<t.k):cw p (t::f) (u::g)=t::cw p f (u::g):=by rw[cw,if_pos h]
theorem nD{p:Int}{t u:Ft}{f g:List Ft}(h:t.k<u.k):cw p (t::f) (u::g)=u::cw p (t::f) g:=by rw[cw,if_neg (by omega),if_pos h]
theorem nE{p:Int}{t u:Ft}{f g:List Ft}(h:t.k=u.k)(hc:(t.c+u.c)%p≠0):cw p (t::f) (u::g)={t with c:=(t.c+u.c)%p}::cw p f g:=by rw[cw,if_neg (by omega),if_neg (by omega),if_pos hc]
theorem nF{p:Int}{t u:Ft}{f g:List Ft}(h:t.k=u.k)(hc:(t.c+u.c)%p=0):cw p (t::f) (u::g)=cw p f g:=by rw[cw,if_neg (by omega),if_neg (by omega),if_neg (by omega)]
structure eE(p:Int)(C:Nat)(w1 wr:World)(g:Nat)(L:List Ft)(fv gv:Value)(fs gs ds:List Ft):Prop where
 pf:Fv w1 fv fs
 pg:Fv w1 gv gs
 own:wr.ownsRow w1.heap.size 144 7 (.slice (some ⟨g,0,none⟩) ds.length C) ds.length (aD ds)
 below:Below w1.heap.size w1 wr
 eq:L=ds++cw p fs gs
 room:ds.length+fs.length+gs.length<=C
 cf:∀t∈fs,0<=t.c/\t.c<p
 cg:∀t∈gs,0<=t.c/\t.c<p
theorem eE.next{p:Int}{C:Nat}{w1 wr w':World}{g:Nat}{L:List Ft}{fv gv:Value}{fs gs ds:List Ft}(h:eE p C w1 wr g L fv gv fs gs ds)(hb:Below wr.heap.size wr w'):eE p C w1 w' g L fv gv fs gs ds:=
 ⟨h.pf,h.pg,aH h.own hb,h.below.trans (hb.mono h.below.size),h.eq,h.room,h.cf,h.cg⟩
theorem eE.takeF{p:Int}{C:Nat}{w1 w2 w':World}{g:Nat}{L:List Ft}{fv gv fv':Value}{t u:Ft}{fs gs ds:List Ft}(h:eE p C w1 w2 g L fv gv (t::fs) (u::gs) ds)(ho:u.k<t.k)(hown:w'.ownsRow w1.heap.size 144 7 (.slice (some ⟨g,0,none⟩) (ds.length+1) C) (ds.length+1) (aD ds++aA t))(hg:w2.grownBy w' (some g))(hgw:w1.heap.size<=g)(hf:Fv w1 fv' fs):eE p C w1 w' g L fv' gv fs (u::gs) (ds++[t]):=by
 refine⟨hf,h.pg,?_,h.below.trans (ck hg hgw h.below.size),?_,?_,λt ht=>h.cf t (by simp[ht]),h.cg⟩
 ·rw[nw,Hx];exact hown
 ·rw[h.eq,nC ho];simp
 ·have:=h.room;simp only[Hx,List.length_cons,List.length_nil] at this⊢;omega
theorem eE.takeG{p:Int}{C:Nat}{w1 w2 w':World}{g:Nat}{L:List Ft}{fv gv gv':Value}{t u:Ft}{fs gs ds:List Ft}(h:eE p C w1 w2 g L fv gv (t::fs) (u::gs) ds)(ho:t.k<u.k)(hown:w'.ownsRow w1.heap.size 144 7 (.slice (some ⟨g,0,none⟩) (ds.length+1) C) (ds.length+1) (aD ds++aA u))(hg:w2.grownBy w' (some g))(hgw:w1.heap.size<=g)(hf:Fv w1 gv' gs):eE p C w1 w' g L fv gv' (t::fs) gs (ds++[u]):=by
 refine⟨h.pf,hf,?_,h.below.trans (ck hg hgw h.below.size),?_,?_,h.cf,λt ht=>h.cg t (by simp[ht])⟩
 ·rw[nw,Hx];exact hown
 ·rw[h.eq,nD ho];simp
 ·have:=h.room;simp only[Hx,List.length_cons,List.length_nil] at this⊢;omega
theorem eE.both{p:Int}{C:Nat}{w1 w2 w':World}{g:Nat}{L:List Ft}{fv gv fv' gv':Value}{t u:Ft}{fs gs ds:List Ft}(h:eE p C w1 w2 g L fv gv (t::fs) (u::gs) ds)(ho:t.k=u.k)(hc:(t.c+u.c)%p≠0)(hown:w'.ownsRow w1.heap.size 144 7 (.slice (some ⟨g,0,none⟩) (ds.length+1) C) (ds.length+1) (aD ds++aA {t with c:=(t.c+u.c)%p}))(hg:w2.grownBy w' (some g))(hgw:w1.heap.size<=g)(hf:Fv w1 fv' fs)(hf2:Fv w1 gv' gs):eE p C w1 w' g L fv' gv' fs gs (ds++[{t with c:=(t.c+u.c)%p}]):=by
 refine⟨hf,hf2,?_,h.below.trans (ck hg hgw h.below.size),?_,?_,λt ht=>h.cf t (by simp[ht]),λt ht=>h.cg t (by simp[ht])⟩
 ·rw[nw,Hx];exact hown
 ·rw[h.eq,nE ho hc];simp
 ·have:=h.room;simp only[Hx,List.length_cons,List.length_nil] at this⊢;omega
theorem eE.drop{p:Int}{C:Nat}{w1 w2:World}{g:Nat}{L:List Ft}{fv gv fv' gv':Value}{t u:Ft}{fs gs ds:List Ft}(h:eE p C w1 w2 g L fv gv (t::fs) (u::gs) ds)(ho:t.k=u.k)(hc:(t.c+u.c)%p=0)(hf:Fv w1 fv' fs)(hf2:Fv w1 gv' gs):eE p C w1 w2 g L fv' gv' fs gs ds:=by
 refine⟨hf,hf2,h.own,h.below,?_,?_,λt ht=>h.cf t (by simp[ht]),λt ht=>h.cg t (by simp[ht])⟩
 ·rw[h.eq,nF ho hc]
 ·have:=h.room;simp only[List.length_cons] at this⊢;omega
theorem ik(w:World)(t:Ft)(T:TypeId):∀j u,(aA t)[j]?=some u->(w.alloc (.cells #[.int .i64 t.k,.int .u16 t.a,.int .u16 t.b,.int .u16 t.d,.int .u16 t.z,.int .u8 t.pl,.int .u8 t.c] T)).cell? ((⟨w.heap.size,0,none⟩:Addr).add j)=some u:=by
 intro j u hj;have hj7:j<7:=by apply Ib;intro hle;rw[Hu (by simpa [aA] using hle)] at hj;simp at hj
 have:j=0\/j=1\/j=2\/j=3\/j=4\/j=5\/j=6:=by omega
 rcases this with rfl|rfl|rfl|rfl|rfl|rfl|rfl<;>simp[aA] at hj<;>subst hj<;>simp[Addr.add,go_sem]
theorem pt{P:Program}{w:World}{ops:Array Oper}{rest:List Oper}{o:Oper}{a:Act}{Q:Exit->Act->World->Prop}(hgd:o.guard=none)(s x:Operand)(t:TypeId)(ho:o.op=.call {callee:=.builtin .append,args:=#[s,x],argTypes:=#[t,t]})(base:Nat)(e:TypeId)(i:TypeInfo)(h1:P.underlying t=some (.slice e))(h2:P.info? e=some i)(h4:i.size=7)(g k cap:Nat)(xs:List Value)(hs:a.eval s=.slice (some ⟨g,0,none⟩) k cap)(hown:w.ownsRow base e 7 (.slice (some ⟨g,0,none⟩) k cap) k xs)(us:List Ft)(ua:Option Addr)(uc:Nat)(hx:a.eval x=.slice ua us.length uc)(hcs:0<us.length->∃b off,ua=some ⟨b,off,none⟩/\∀j u,(aD us)[j]?=some u->w.cell? ⟨b,off+j,none⟩=some u)(b1:k+us.length<=cap)(hK:∀w',w'.ownsRow base e 7 (.slice (some ⟨g,0,none⟩) (k+us.length) cap) (k+us.length) (xs++aD us)->w.grownBy w' (some g)->wpList P ops Q rest (a.put o.dst (.slice (some ⟨g,0,none⟩) (k+us.length) cap)) w'):wpList P ops Q (o::rest) a w:=by
 by_cases h0:0<us.length
 ·obtain⟨b,off,rfl,hc⟩:=hcs h0;refine wpList_append_fits w hgd s x t ho base e i 7 h1 h2 h4 g k cap xs hs hown ⟨b,off,none⟩ us.length uc (aD us) hx (eG us) (λj u hj=>?_) (nW us) b1 hK;have:=hc j u hj;by_cases hj0:j=0
  ·subst hj0;simpa [Addr.add] using this
  ·simpa [Addr.add,hj0] using this
 ·have e0:us=[]:=List.length_eq_zero_iff.1 (by omega);subst e0;cases ua with
  |none=>refine tQ hgd s x t ho base e i 7 h1 h2 _ k uc xs hs hown hx ?_;exact hK w (by simpa [aD] using hown) (nP _ _)
  |some ad=>refine wpList_append_fits w hgd s x t ho base e i 7 h1 h2 h4 g k cap xs hs hown ad 0 uc [] hx (by simp) (λj u hj=>by simp at hj) (λu hu=>by simp at hu) b1 hK
theorem eE.finish{p:Int}{C:Nat}{w1 wr w2 w3:World}{g:Nat}{L:List Ft}{fv gv:Value}{fs gs ds:List Ft}(h:eE p C w1 wr g L fv gv fs gs ds)(he:fs=[]\/gs=[])(g2:wr.grownBy w2 (some g))(g3:w2.grownBy w3 (some g))(hown:w3.ownsRow w1.heap.size 144 7 (.slice (some ⟨g,0,none⟩) (ds.length+fs.length+gs.length) C) (ds.length+fs.length+gs.length) (aD ds++aD fs++aD gs))(hgw:w1.heap.size<=g):Fv w3 (.slice (some ⟨g,0,none⟩) (ds.length+fs.length+gs.length) C) L/\Below w1.heap.size w1 w3:=by
 refine⟨?_,h.below.trans (ck (cj g2 g3) hgw h.below.size)⟩;have e1:(ds++fs++gs).length=ds.length+fs.length+gs.length:=by simp only[Hx]
 have e2:aD (ds++fs++gs)=aD ds++aD fs++aD gs:=by rw[sA,sA]
 have k:=fH (w:=w3) (B:=w1.heap.size) (v:=.slice (some ⟨g,0,none⟩) (ds.length+fs.length+gs.length) C) (ts:=ds++fs++gs) (by rw[e1,e2];exact hown);have e3:ds++fs++gs=L:=by
  rw[h.eq];rcases he with he|he
  ·subst he;rw[nA];simp
  ·subst he;rw[nB];simp
 rw[e3] at k;exact k
theorem cS{w:World}{B:Nat}(hB:B<=w.heap.size)(t:Ft):(w.alloc (.cells #[.int .i64 t.k,.int .u16 t.a,.int .u16 t.b,.int .u16 t.d,.int .u16 t.z,.int .u8 t.pl,.int .u8 t.c] 144)).ownsRow B 144 7 (.slice (some ⟨w.heap.size,0,none⟩) 1 1) 1 (aA t):=
 ⟨by simp[aA],.inr ⟨w.heap.size,1,_,rfl,hB,heap_alloc_new w _,He _,by decide,by simp,by simp[aA]⟩⟩
theorem Gm(ob:Nat)(p k0 k1 k2:Int)(sv fv gv:Value)(fs gs:List Ft)(w:World)(hob:aQ w ob p k0 k1 k2 sv)(hp:2<=p/\p<=101)(cf:∀t∈fs,0<=t.c/\t.c<p)(cg:∀t∈gs,0<=t.c/\t.c<p)(hm:fs.length+gs.length<=2000000000000)(hf:Fv w fv fs)(hg:Fv w gv gs):Calls prog 204 #[.pointer (some ⟨ob,0,none⟩),fv,gv] w λe w'=>∃u,e=.returned u/\Fv w' u (cw p fs gs)/\Below w.heap.size w w':=by
 have HF:=aa hf;have HG:=aa hg;have HCF:=aa cf;have HCG:=aa cg;have HOB:=aa hob;obtain⟨hp1,hp2⟩:=hp;obtain⟨fa,fc,rfl,_,_⟩:=hf;obtain⟨ga,gc,rfl,_,_⟩:=hg;clear cf cg hob;obtain⟨i0,hi,hz0,hz1,hz2⟩:=info_parts Tryz.infoFt;go_enter func204,ntmps204;go_wp2_with (at_make;refine wpList_make_own _ rfl _ _ 93 rfl w.heap.size 144 i0 _ 7 underlying93 hi hz0 hz1 .i64 .i64 _ (fs.length+gs.length) rfl rfl (by simp) (by rw[hz2];omega) (by unfold maxLen;omega) (by simp) ?_;intro w1 hown hgrow;have HX:Ic (eE p (fs.length+gs.length) w w1 w.heap.size (cw p fs gs) (.slice fa fs.length fc) (.slice ga gs.length gc) fs gs []):=⟨HF.o,HG.o,hown,⟨hgrow.os,hgrow.tape,hgrow.output,hgrow.size,λk hk=>hgrow.block k hk (by simp)⟩,by simp,by simp,HCF.o,HCG.o⟩;clear hown hgrow);have HI:=aa (Hg hi (Hg hz1 hz2));clear hi hz0 hz1 hz2 HF HG HCF HCG;go_loopw [1,2,7] (λx y z wr=>∃(fs1 gs1 ds:List Ft),z=.slice (some ⟨w.heap.size,0,none⟩) ds.length (fs.length+gs.length)/\eE p (fs.length+gs.length) w wr w.heap.size (cw p fs gs) x y fs1 gs1 ds) (λx y _ _=>gY x+gY y);case atStart=>exact⟨fs,gs,[],rfl,HX.o⟩
 case round=>
  clear HX;obtain⟨fs1,gs1,ds,rfl,hm1⟩:=hrel;have HM:=aa hm1;clear hm1;by_cases hfin:fs1=[]\/gs1=[]
  ·have HR:=aa HM.o.room;have HFIN:=aa hfin;have HXF:=aa HM.o.pf;have HXG:=aa HM.o.pg;obtain⟨xa,xc,hxv,_,hucs⟩:=HM.o.pf;obtain⟨ya,yc,hyv,_,hvcs⟩:=HM.o.pg;have HU1:Ic (0<fs1.length->∃b off,xa=some ⟨b,off,none⟩/\∀j u,(aD fs1)[j]?=some u->wr.cell? ⟨b,off+j,none⟩=some u):=λh=>by obtain⟨b,off,e,hlt,hc⟩:=hucs h;exact⟨b,off,e,λj u hj=>ae (hc j u hj) HM.o.below⟩
   have HV1:Ic (∀w2,wr.grownBy w2 (some w.heap.size)->0<gs1.length->∃b off,ya=some ⟨b,off,none⟩/\∀j u,(aD gs1)[j]?=some u->w2.cell? ⟨b,off+j,none⟩=some u):=λw2 hg2 h=>by obtain⟨b,off,e,hlt,hc⟩:=hvcs h;exact⟨b,off,e,λj u hj=>ae (hc j u hj) (HM.o.below.trans (ck hg2 (He _) HM.o.below.size))⟩
   have hzero:fs1.length=0\/gs1.length=0:=by
    rcases hfin with h|h
    ·left;rw[h];rfl
    ·right;rw[h];rfl
   subst hxv;subst hyv;clear hucs hvcs hfin;have r1a:ds.length+fs1.length<=fs.length+gs.length:=by have:=HR.o;omega
   have r2a:ds.length+fs1.length+gs1.length<=fs.length+gs.length:=HR.o;by_cases hu0:0<fs1.length
   ·have hv0:¬0<gs1.length:=by omega
    go_wp2_with (at_builtin;first|(refine pt rfl (.tmp 89) (.tmp 90) 93 rfl w.heap.size 144 i0 underlying93 HI.o.1 HI.o.2.1 w.heap.size ds.length (fs.length+gs.length) (aD ds) rfl HM.o.own fs1 _ _ rfl HU1.o r1a ?_;intro w2 r1 r2;have R1:=aa r1;have R2:=aa r2;clear r1 r2)|(refine pt rfl (.tmp 91) (.tmp 92) 93 rfl w.heap.size 144 i0 underlying93 HI.o.1 HI.o.2.1 w.heap.size (ds.length+fs1.length) (fs.length+gs.length) (aD ds++aD fs1) rfl R1.o gs1 _ _ rfl (HV1.o _ R2.o) r2a ?_;intro w3 r3 r4;have R3:=aa r3;have R4:=aa r4;clear r3 r4));go_ret;have F:=HM.o.finish HFIN.o R2.o R4.o R3.o (He _);exact⟨_,rfl,F.1,F.2⟩
   ·go_wp2_with (at_builtin;first|(refine pt rfl (.tmp 89) (.tmp 90) 93 rfl w.heap.size 144 i0 underlying93 HI.o.1 HI.o.2.1 w.heap.size ds.length (fs.length+gs.length) (aD ds) rfl HM.o.own fs1 _ _ rfl HU1.o r1a ?_;intro w2 r1 r2;have R1:=aa r1;have R2:=aa r2;clear r1 r2)|(refine pt rfl (.tmp 91) (.tmp 92) 93 rfl w.heap.size 144 i0 underlying93 HI.o.1 HI.o.2.1 w.heap.size (ds.length+fs1.length) (fs.length+gs.length) (aD ds++aD fs1) rfl R1.o gs1 _ _ rfl (HV1.o _ R2.o) r2a ?_;intro w3 r3 r4;have R3:=aa r3;have R4:=aa r4;clear r3 r4));go_ret;have F:=HM.o.finish HFIN.o R2.o R4.o R3.o (He _);exact⟨_,rfl,F.1,F.2⟩
  ·cases fs1 with
   |nil=>exact absurd (Or.inl rfl) hfin
   |cons t fs2=>
   cases gs1 with
   |nil=>exact absurd (Or.inr rfl) hfin
   |cons u gs2=>
    clear hfin;obtain⟨b,off,fcap,rfl,hfc,hlt,hft,hone,hpl⟩:=HM.o.pf.head;obtain⟨b2,off2,gcap,rfl,hgc,hlt2,hgt,hone2,hpl2⟩:=HM.o.pg.head;have HP:=aa (Hg hone hpl);have HP2:=aa (Hg hone2 hpl2);have HT:=aa (HM.o.cf t (by simp));have HU:=aa (HM.o.cg u (by simp));have hroom:ds.length+1<=fs.length+gs.length:=by have:=HM.o.room;simp only[List.length_cons] at this;omega
    have hle:(1:Int)<=(fs2.length:Int)+1:=by omega
    have hle2:(1:Int)<=(gs2.length:Int)+1:=by omega
    obtain⟨A,hA,hplA⟩:=Fv.tail HP.o;have HPA:=aa hplA;obtain⟨A2,hA2,hplA2⟩:=Fv.tail HP2.o;have HPA2:=aa hplA2;obtain⟨c0,c1,c2,c3,c4,c5,c6⟩:=hft.keep HM.o.below;obtain⟨d0,d1,d2,d3,d4,d5,d6⟩:=hgt.keep HM.o.below;clear hplA hplA2 hft hgt hone hone2 hpl hpl2;have CT:Ic (∀W,Below wr.heap.size wr W->cC W b off t/\cC W b2 off2 u):=λW h=>⟨cC.keep ⟨c0,c1,c2,c3,c4,c5,c6⟩ h,cC.keep ⟨d0,d1,d2,d3,d4,d5,d6⟩ h⟩;by_cases hk1:u.k<t.k
    ·go_wp2;go_quiet (fail);have HM9:=aa (HM.o.next (below_drewN (Hf wr.heap.size wr) nq));obtain⟨⟨e0,e1,e2,e3,e4,e5,e6⟩,_⟩:=CT.o _ (below_drewN (Hf wr.heap.size wr) nq);have HOWN:=aa (aH HM9.o.own ((Hf (wr.drewN nq).heap.size (wr.drewN nq)).drew.alloc (He _) (.cells #[.int .i64 t.k,.int .u16 t.a,.int .u16 t.b,.int .u16 t.d,.int .u16 t.z,.int .u8 t.pl,.int .u8 t.c] 144)));go_wp2;go_region_law (refine oZ rfl (.tmp 63) (.tmp 67) 93 rfl w.heap.size 144 i0 7 underlying93 HI.o.1 HI.o.2.1 w.heap.size ds.length (fs.length+gs.length) (aD ds) (by simp[Act.eval,Act.put]) HOWN.o ⟨wr.heap.size,0,none⟩ 1 1 (aA t) (by simp[Act.eval,Act.put]) rfl (ik _ _ _) (jU t) hroom ?_;intro w' r1 r2;have R1:=aa (Hg r1 r2);clear r1 r2);all_goals
      simp only[List.getElem_toArray,List.getElem_cons_succ,List.getElem_cons_zero];simp only[Act.put,List.setIfInBounds_toArray,List.set_cons_zero,List.set_cons_succ];go_wp2;go_roundw;case rel=>exact⟨fs2,u::gs2,ds++[t],by simp,(HM9.o.next ((Hf (wr.drewN nq).heap.size (wr.drewN nq)).drew.alloc (He _) _)).takeF hk1 R1.o.1 R1.o.2 (He _) HPA.o⟩
      case measure=>simp[gY]
    ·go_wp2;go_quiet (fail);have HBQ:=aa (below_drewN (Hf wr.heap.size wr) nq);generalize wr.drewN nq=wq at HBQ⊢;have HMQ:=aa (HM.o.next HBQ.o);obtain⟨⟨c0,c1,c2,c3,c4,c5,c6⟩,d0,d1,d2,d3,d4,d5,d6⟩:=CT.o _ HBQ.o;clear HM;by_cases hk2:t.k<u.k
     ·go_wp2;go_quiet (fail);have HBP:=aa (below_drewN (Hf wq.heap.size wq) nq);generalize wq.drewN nq=wp at HBP⊢;have HM9:=aa (HMQ.o.next HBP.o);obtain⟨⟨c0,c1,c2,c3,c4,c5,c6⟩,d0,d1,d2,d3,d4,d5,d6⟩:=CT.o _ (HBQ.o.trans (HBP.o.mono HBQ.o.size));have HOWN:=aa (aH HM9.o.own ((Hf wp.heap.size wp).drew.alloc (He _) (.cells #[.int .i64 u.k,.int .u16 u.a,.int .u16 u.b,.int .u16 u.d,.int .u16 u.z,.int .u8 u.pl,.int .u8 u.c] 144)));go_wp2;go_region_law (refine oZ rfl (.tmp 81) (.tmp 85) 93 rfl w.heap.size 144 i0 7 underlying93 HI.o.1 HI.o.2.1 w.heap.size ds.length (fs.length+gs.length) (aD ds) (by simp[Act.eval,Act.put]) HOWN.o ⟨wp.heap.size,0,none⟩ 1 1 (aA u) (by simp[Act.eval,Act.put]) rfl (ik _ _ _) (jU u) hroom ?_;intro w' r1 r2;have R1:=aa (Hg r1 r2);clear r1 r2);all_goals
       simp only[List.getElem_toArray,List.getElem_cons_succ,List.getElem_cons_zero];simp only[Act.put,List.setIfInBounds_toArray,List.set_cons_zero,List.set_cons_succ];go_wp2;go_roundw;case rel=>exact⟨t::fs2,gs2,ds++[u],by simp,(HM9.o.next ((Hf wp.heap.size wp).drew.alloc (He _) _)).takeG hk2 R1.o.1 R1.o.2 (He _) HPA2.o⟩
       case measure=>simp[gY]
     ·have hke:t.k=u.k:=by omega
      have HKE:=aa hke;clear hke;obtain⟨ht1,ht2⟩:=HT.o;obtain⟨hu1,hu2⟩:=HU.o;obtain⟨q0,q1⟩:=yS (a:=t.c+u.c) ⟨hp1,hp2⟩;have hpz:¬p=0:=by omega
      go_wp2;go_quiet (fail);have HBP:=aa (below_drewN (Hf wq.heap.size wq) nq);generalize wq.drewN nq=wp at HBP⊢;have HM9:=aa (HMQ.o.next HBP.o);obtain⟨⟨c0,c1,c2,c3,c4,c5,c6⟩,d0,d1,d2,d3,d4,d5,d6⟩:=CT.o _ (HBQ.o.trans (HBP.o.mono HBQ.o.size));obtain⟨olt,o0,o1,o2,o3,o4⟩:=HOB.o.below HM9.o.below;clear HMQ;have OW0:=aa (cS (w:=wp) (B:=wp.heap.size) (He _) t);have HBT:Ic (Below wp.heap.size wp (wp.alloc (.cells #[.int .i64 t.k,.int .u16 t.a,.int .u16 t.b,.int .u16 t.d,.int .u16 t.z,.int .u8 t.pl,.int .u8 t.c] 144))):=bp;go_wp2;generalize wp.alloc (.cells #[.int .i64 t.k,.int .u16 t.a,.int .u16 t.b,.int .u16 t.d,.int .u16 t.z,.int .u8 t.pl,.int .u8 t.c] 144)=wt at OW0 HBT⊢;obtain⟨⟨c0,c1,c2,c3,c4,c5,c6⟩,d0,d1,d2,d3,d4,d5,d6⟩:=CT.o _ ((HBQ.o.trans (HBP.o.mono HBQ.o.size)).trans (HBT.o.mono (HBQ.o.trans (HBP.o.mono HBQ.o.size)).size));have p0:=ae o0 HBT.o;have y6:wt.cell? ⟨wp.heap.size,6,none⟩=some (.int .u8 t.c):=OW0.o.cellAt 6 (by omega);have z6:wt.frozen? ⟨wp.heap.size,6,none⟩=false:=OW0.o.frozenAt 6;go_region;have OW1:Ic ((wt.setCell ⟨wp.heap.size,6,none⟩ (.int .u8 ((t.c+u.c)%p))).drew.ownsRow wp.heap.size 144 7 (.slice (some ⟨wp.heap.size,0,none⟩) 1 1) 1 (aA {t with c:=(t.c+u.c)%p})):=aH (OW0.o.stored 6 (.int .u8 ((t.c+u.c)%p))).1 (Hf _ _).drew;have HBS:Ic (Below wp.heap.size wp (wt.setCell ⟨wp.heap.size,6,none⟩ (.int .u8 ((t.c+u.c)%p))).drew):=(HBT.o.trans (ck (OW0.o.stored 6 (.int .u8 ((t.c+u.c)%p))).2 (He _) HBT.o.size)).drew;generalize (wt.setCell ⟨wp.heap.size,6,none⟩ (.int .u8 ((t.c+u.c)%p))).drew=ws at OW1 HBS⊢;have HMS:=aa (HM9.o.next HBS.o);have x0:ws.cell? ⟨wp.heap.size,0,none⟩=some (.int .i64 t.k):=OW1.o.cellAt 0 (by omega);have x1:ws.cell? ⟨wp.heap.size,1,none⟩=some (.int .u16 t.a):=OW1.o.cellAt 1 (by omega);have x2:ws.cell? ⟨wp.heap.size,2,none⟩=some (.int .u16 t.b):=OW1.o.cellAt 2 (by omega);have x3:ws.cell? ⟨wp.heap.size,3,none⟩=some (.int .u16 t.d):=OW1.o.cellAt 3 (by omega);have x4:ws.cell? ⟨wp.heap.size,4,none⟩=some (.int .u16 t.z):=OW1.o.cellAt 4 (by omega);have x5:ws.cell? ⟨wp.heap.size,5,none⟩=some (.int .u8 t.pl):=OW1.o.cellAt 5 (by omega);have x6:ws.cell? ⟨wp.heap.size,6,none⟩=some (.int .u8 ((t.c+u.c)%p)):=OW1.o.cellAt 6 (by omega);clear y6 z6 c0 c1 c2 c3 c4 c5 c6 d0 d1 d2 d3 d4 d5 d6;by_cases hz:(t.c+u.c)%p=0
      ·go_wp2;go_quiet (fail);go_wp2;go_roundw;case rel=>exact⟨fs2,gs2,ds,rfl,(HMS.o.next (below_drewN (Hf _ _) _)).drop HKE.o hz HPA.o HPA2.o⟩
       case measure=>simp[gY];omega
      ·have HOWN:=aa (aH HMS.o.own (af (A:=.cells #[.int .i64 t.k,.int .u16 t.a,.int .u16 t.b,.int .u16 t.d,.int .u16 t.z,.int .u8 t.pl,.int .u8 ((t.c+u.c)%p)] 144)));have hzb:((t.c+u.c)%p !=0)=true:=by simpa using hz
       go_wp2_with (at_builtin;refine wpList_append_fits _ rfl (.tmp 45) (.tmp 47) 93 rfl w.heap.size 144 i0 7 underlying93 HI.o.1 HI.o.2.1 w.heap.size ds.length (fs.length+gs.length) (aD ds) rfl HOWN.o ⟨ws.heap.size,0,none⟩ 1 1 (aA {t with c:=(t.c+u.c)%p}) rfl rfl (ik ws {t with c:=(t.c+u.c)%p} _) (jU _) hroom ?_;intro w' r1 r2;have R1:=aa (Hg r1 r2);clear r1 r2);go_quiet (fail);go_wp2;go_roundw;case rel=>exact⟨fs2,gs2,ds++[{t with c:=(t.c+u.c)%p}],by simp,((HMS.o.next af).both HKE.o hz R1.o.1 R1.o.2 (He _) HPA.o HPA2.o).next (below_drewN (Hf _ _) _)⟩
       case measure=>simp[gY];omega
end Go.Proofs.YtglijodcbdcngaaGreat
