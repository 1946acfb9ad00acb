/- The program's small functions of flat terms. -/
import Derived.Test.YteimdcndjjclnaaGreatPI
set_option maxHeartbeats 2000000
set_option maxRecDepth 100000
namespace Go.Proofs.YteimdcndjjclnaaGreat
set_option linter.all false
open Go.Proofs.Tryz Go.RowKit
def j6(o:Int)(i:Nat):Int:=if i=0 then W0 o else if i=1 then W1 o else W2 o
theorem D9(o:Int)(i:Nat)(w:World)(ho:o=1\/o=2)(hi:i<3):Calls prog 124 #[.int .i64 o,.int .i64 i] w λe w'=>e=.returned (.int .i64 (j6 o i))/\w'=w:=by
 have h:i=0\/i=1\/i=2:=by omega
 rcases ho with rfl|rfl<;>rcases h with rfl|rfl|rfl<;>
 .go_enter func124,ntmps124;go_wp2;go_ret;exact⟨rfl,rfl⟩
theorem Eb(ov:Int)(i:Nat)(w:World)(ho:ov=1\/ov=2)(hi:i<255):Calls prog 125 #[.int .i64 ov,.int .i64 i] w λe w'=>e=.returned (.int .i64 (ef ov i))/\w'=w:=by
 rcases ho with rfl|rfl
 .go_enter func125,ntmps125;go_wp2;go_ret;exact⟨rfl,rfl⟩
 .go_enter func125,ntmps125;go_wp2;go_ret;exact⟨rfl,rfl⟩
structure bk(w:World)(ob:Nat)(p k0 k1 k2:Int)(sv:Value):Prop where
 lt:ob<w.heap.size
 c0:w.cell? ⟨ob,0,none⟩=some (.int .u32 p)
 c1:w.cell? ⟨ob,1,none⟩=some (.int .i64 k0)
 c2:w.cell? ⟨ob,2,none⟩=some (.int .i64 k1)
 c3:w.cell? ⟨ob,3,none⟩=some (.int .i64 k2)
 c4:w.cell? ⟨ob,4,none⟩=some sv
theorem bk.below{w w':World}{ob:Nat}{p k0 k1 k2:Int}{sv:Value}(h:bk w ob p k0 k1 k2 sv)(hb:Below w.heap.size w w'):bk w' ob p k0 k1 k2 sv:=
 ⟨Lj h.lt hb.size,ae h.c0 hb,ae h.c1 hb,ae h.c2 hb,ae h.c3 hb,ae h.c4 hb⟩
def ci(a b d z:Int):Value:=.agg #[.int .u16 a,.int .u16 b,.int .u16 d,.int .u16 z]
def k9(a b d k0 k1 k2:Int)(k:Nat):Int:=if k=0 then 0 else if k=1 then a*k0 else if k=2 then a*k0+b*k1 else a*k0+b*k1+d*k2
theorem iN{a k:Int}(ha:0<=a/\a<=65535)(hk:0<=k/\k<=137438953472):0<=a*k/\a*k<=9007061815787520:=by obtain⟨h1,h2⟩:=ha;obtain⟨h3,h4⟩:=hk;refine⟨Int.mul_nonneg h1 h3,?_⟩;have:a*k<=65535*137438953472:=Int.mul_le_mul h2 h4 h3 (by omega);omega
theorem tM(ob:Nat)(p k0 k1 k2:Int)(sv:Value)(a b d z:Int)(w:World)(ho:bk w ob p k0 k1 k2 sv)(ha:0<=a/\a<=65535)(hb:0<=b/\b<=65535)(hd:0<=d/\d<=65535)(h0:0<=k0/\k0<=137438953472)(h1:0<=k1/\k1<=137438953472)(h2:0<=k2/\k2<=137438953472):Calls prog 142 #[.pointer (some ⟨ob,0,none⟩),ci a b d z] w λe w'=>e=.returned (.int .i64 (a*k0+b*k1+d*k2))/\Below w.heap.size w w':=by
 obtain⟨m0,n0⟩:=iN ha h0;obtain⟨m1,n1⟩:=iN hb h1;obtain⟨m2,n2⟩:=iN hd h2;obtain⟨hlt,c0,c1,c2,c3,c4⟩:=ho;obtain⟨w1,hw1⟩:∃w1,w1=w.alloc (.cells #[.int .u16 a,.int .u16 b,.int .u16 d,.int .u16 z] 45):=⟨_,rfl⟩;have HB:Ma (Below w.heap.size w w1):=by rw[hw1];exact bv
 have x0:w1.cell? ⟨w.heap.size,0,none⟩=some (.int .u16 a):=by rw[hw1];simp[go_sem]
 have x1:w1.cell? ⟨w.heap.size,1,none⟩=some (.int .u16 b):=by rw[hw1];simp[go_sem]
 have x2:w1.cell? ⟨w.heap.size,2,none⟩=some (.int .u16 d):=by rw[hw1];simp[go_sem]
 have i0:∀w,(Instr.index 143 (.agg #[.int .i64 k0,.int .i64 k1,.int .i64 k2]) (.int .i64 0)).run prog w=.ok (.int .i64 k0) w:=λ_=>by kernel_rfl
 have i1:∀w,(Instr.index 143 (.agg #[.int .i64 k0,.int .i64 k1,.int .i64 k2]) (.int .i64 1)).run prog w=.ok (.int .i64 k1) w:=λ_=>by kernel_rfl
 have i2:∀w,(Instr.index 143 (.agg #[.int .i64 k0,.int .i64 k1,.int .i64 k2]) (.int .i64 2)).run prog w=.ok (.int .i64 k2) w:=λ_=>by kernel_rfl
 unfold ci;go_enter func142,ntmps142;go_wp2_with fail;rw[<-hw1];clear hw1;go_loopw [5,12] (λs i wr=>∃k:Nat,k<=3/\i=.int .i64 k/\s=.int .i64 (k9 a b d k0 k1 k2 k)/\wr=w1) (λ_ i _=>3-(intOf i).toNat);case atStart=>exact⟨0,by omega,rfl,rfl,rfl⟩
 case round=>
  obtain⟨k,hk,rfl,rfl,rfl⟩:=hrel;have h:k=0\/k=1\/k=2\/k=3:=by omega
  rcases h with rfl|rfl|rfl|rfl
  .simp only[k9,if_true];rw[show ((0:Nat):Int)=0 from rfl];go_wp2;go_roundw;case rel=>exact⟨1,by omega,rfl,by simp[k9],by first|rfl|trivial⟩
   case measure=>simp[intOf]
  .simp only[k9,if_true,show¬(1=0) from by decide,if_false];rw[show ((1:Nat):Int)=1 from rfl];go_wp2;go_roundw;case rel=>exact⟨2,by omega,rfl,by simp[k9],by first|rfl|trivial⟩
   case measure=>simp[intOf]
  .simp only[k9,if_true,show¬(2=0) from by decide,show¬(2=1) from by decide,if_false];rw[show ((2:Nat):Int)=2 from rfl];go_wp2;go_roundw;case rel=>exact⟨3,by omega,rfl,by simp[k9],by first|rfl|trivial⟩
   case measure=>simp[intOf]
  .simp only[k9,if_true,show¬(3=0) from by decide,show¬(3=1) from by decide,show¬(3=2) from by decide,if_false];rw[show ((3:Nat):Int)=3 from rfl];go_wp2;go_ret;exact⟨rfl,HB.o⟩
structure Ft where
 k:Int
 a:Int
 b:Int
 d:Int
 z:Int
 pl:Int
 c:Int
def aw(t:Ft):List Value:=[.int .i64 t.k,.int .u16 t.a,.int .u16 t.b,.int .u16 t.d,.int .u16 t.z,.int .u8 t.pl,.int .u8 t.c]
def bX(t:Ft):Value:=.agg #[.int .i64 t.k,.int .u16 t.a,.int .u16 t.b,.int .u16 t.d,.int .u16 t.z,.int .u8 t.pl,.int .u8 t.c]
theorem BG{a p:Int}(hp:2<=p/\p<=101):0<=a%p/\a%p<p:=⟨Int.emod_nonneg _ (by omega),Int.emod_lt_of_pos _ (by omega)⟩
theorem Kq{a b:Int}(ha:0<=a/\a<=255)(hb:0<=b/\b<=255):0<=a*b/\a*b<=65025:=by obtain⟨h1,h2⟩:=ha;obtain⟨h3,h4⟩:=hb;refine⟨Int.mul_nonneg h1 h3,?_⟩;have:a*b<=255*255:=Int.mul_le_mul h2 h4 h3 (by omega);omega
theorem yQ(ob:Nat)(p k0 k1 k2:Int)(sv:Value)(a b:Int)(w:World)(ho:bk w ob p k0 k1 k2 sv)(hp:2<=p/\p<=101)(ha:0<=a/\a<=255)(hb:0<=b/\b<=255):Calls prog 129 #[.pointer (some ⟨ob,0,none⟩),.int .u8 a,.int .u8 b] w λe w'=>e=.returned (.int .u8 (a*b%p))/\w'=w:=by
 obtain⟨m0,n0⟩:=Kq ha hb;obtain⟨q0,q1⟩:=BG (a:=a*b) hp;obtain⟨hp0,hp1⟩:=hp;have hpz:¬p=0:=by omega
 obtain⟨hlt,c0,c1,c2,c3,c4⟩:=ho;go_enter func129,ntmps129;go_wp2;go_ret;exact⟨rfl,rfl⟩
theorem yR(ob:Nat)(p k0 k1 k2:Int)(sv:Value)(a:Int)(w:World)(ho:bk w ob p k0 k1 k2 sv)(hp:2<=p/\p<=101)(ha:0<a/\a<p):Calls prog 120 #[.pointer (some ⟨ob,0,none⟩),.int .u8 a] w λe w'=>e=.returned (.int .u8 (p-a))/\w'=w:=by obtain⟨hp0,hp1⟩:=hp;obtain⟨ha0,ha1⟩:=ha;obtain⟨hlt,c0,c1,c2,c3,c4⟩:=ho;go_enter func120,ntmps120;go_wp2;go_ret;exact⟨rfl,rfl⟩
theorem oA{w:World}{A B C:Obj}:Below w.heap.size w (((w.alloc A).alloc B).alloc C):=((aj (w:=w) (A:=A)).alloc (by simp) _).alloc (by simp;omega) _
theorem qp(a b d z a2 b2 d2 z2:Int)(w:World)(ha:0<=a2/\a2<=a/\a<=65535)(hb:0<=b2/\b2<=b/\b<=65535)(hd:0<=d2/\d2<=d/\d<=65535)(hz:0<=z2/\z2<=z/\z<=65535):Calls prog 119 #[ci a b d z,ci a2 b2 d2 z2] w λe w'=>e=.returned (ci (a-a2) (b-b2) (d-d2) (z-z2))/\Below w.heap.size w w':=by obtain⟨ha0,ha1,ha2⟩:=ha;obtain⟨hb0,hb1,hb2⟩:=hb;obtain⟨hd0,hd1,hd2⟩:=hd;obtain⟨hz0,hz1,hz2⟩:=hz;unfold ci;go_enter func119,ntmps119;go_wp2;refine Lm (v:=.agg #[.int .u16 (a-a2),.int .u16 (b-b2),.int .u16 (d-d2),.int .u16 (z-z2)]) (by simp[results,Tryz.results119,go_sem]) rfl ⟨rfl,oA⟩
theorem Kr(a b d z a2 b2 d2 z2:Int)(w:World)(ha:0<=a/\0<=a2/\a+a2<=65535)(hb:0<=b/\0<=b2/\b+b2<=65535)(hd:0<=d/\0<=d2/\d+d2<=65535)(hz:0<=z/\0<=z2/\z+z2<=65535):Calls prog 147 #[ci a b d z,ci a2 b2 d2 z2] w λe w'=>e=.returned (ci (a+a2) (b+b2) (d+d2) (z+z2))/\Below w.heap.size w w':=by obtain⟨ha0,ha1,ha2⟩:=ha;obtain⟨hb0,hb1,hb2⟩:=hb;obtain⟨hd0,hd1,hd2⟩:=hd;obtain⟨hz0,hz1,hz2⟩:=hz;unfold ci;go_enter func147,ntmps147;go_wp2;refine Lm (v:=.agg #[.int .u16 (a+a2),.int .u16 (b+b2),.int .u16 (d+d2),.int .u16 (z+z2)]) (by simp[results,Tryz.results147,go_sem]) rfl ⟨rfl,oA⟩
def fI(a b d z a2 b2 d2 z2:Int):Bool:=decide (a<=a2)&&decide (b<=b2)&&decide (d<=d2)&&decide (z<=z2)
theorem qw(a b d z a2 b2 d2 z2:Int)(w:World):Calls prog 34 #[ci a b d z,ci a2 b2 d2 z2] w λe w'=>e=.returned (.bool (fI a b d z a2 b2 d2 z2))/\Below w.heap.size w w':=by
 unfold ci fI;by_cases h1:a<=a2
 rotate_left
 .have d1:=Lh h1;rw[d1];go_enter func34,ntmps34;go_wp2;go_ret;exact⟨rfl,fS⟩
 by_cases h2:b<=b2
 rotate_left
 .have d1:=Li h1;have d2:=Lh h2;rw[d1,d2];go_enter func34,ntmps34;go_wp2;go_ret;exact⟨rfl,fS⟩
 by_cases h3:d<=d2
 rotate_left
 .have d1:=Li h1;have d3:=Li h2;have d4:=Lh h3;rw[d1,d3,d4];go_enter func34,ntmps34;go_wp2;go_ret;exact⟨rfl,fS⟩
 have d1:=Li h1;have d3:=Li h2;have d4:=Li h3;rw[d1,d3,d4];go_enter func34,ntmps34;go_wp2;go_ret;exact⟨by simp,fS⟩
theorem mu{p a:Int}(hpr:bm p=0)(ha:0<a/\a<p):1<=aN p a/\aN p a<p/\a*aN p a%p=1:=by obtain⟨hp1,hp2,hd⟩:=pE hpr;obtain⟨pn,rfl⟩:∃n:Nat,p=n:=⟨p.toNat,by omega⟩;obtain⟨an,rfl⟩:∃n:Nat,a=n:=⟨a.toNat,by omega⟩;have h:=wT (p:=pn) (a:=an) (by omega) (by omega) (by simpa [kA] using hd) (by omega) (by omega);simp only[n6,Bool.and_eq_true,decide_eq_true_eq,beq_iff_eq] at h;obtain⟨⟨⟨h1,h2⟩,h3⟩,_⟩:=h;have e:aN (pn:Int) (an:Int)=((eO pn an:Nat):Int):=rfl;rw[e];refine⟨by omega,by omega,?_⟩;have h4:((an*eO pn an%pn:Nat):Int)=((1%pn:Nat):Int):=congrArg _ h3;rw[Nat.mod_eq_of_lt (show 1<pn by omega)] at h4;simpa [Int.natCast_emod,Int.natCast_mul] using h4
theorem yS(ob:Nat)(p k0 k1 k2:Int)(sv:Value)(a:Int)(w:World)(ho:bk w ob p k0 k1 k2 sv)(hpr:bm p=0)(ha:0<a/\a<p):Calls prog 134 #[.pointer (some ⟨ob,0,none⟩),.int .u8 a] w λe w'=>e=.returned (.int .u8 (aN p a))/\Below w.heap.size w w':=by
 obtain⟨hp1,hp2,_⟩:=pE hpr;obtain⟨i0,i1,_⟩:=mu hpr ha;obtain⟨ha0,ha1⟩:=ha;have hn:fT p [a]=0:=by unfold fT;rw[LI hpr,LH];simp[gD];omega
 have e1:ju p a=0:=by unfold ju;rw[LI hn,LH (by omega)]
 have e2:jU p a=aN p a:=by unfold jU;rw[LI e1]
 have HI:=ac (C5 p a w);rw[e1,e2] at HI;clear e1 e2 hn hpr;obtain⟨hlt,c0,c1,c2,c3,c4⟩:=ho;generalize aN p a=q at*;go_enter func134,ntmps134;go_wp2_with (go_at_call 157;refine HI.o.mono ?_;rintro e w1 ⟨rfl,hb1⟩;have HB1:=ac hb1;clear hb1);go_ret;exact⟨rfl,HB1.o⟩
structure km(w:World)(b off:Nat)(t:Ft)(rv:Value)(num inv:Int):Prop where
 lt:b<w.heap.size
 cs:∀j u,(aw t)[j]?=some u->w.cell? ⟨b,off+j,none⟩=some u
 c7:w.cell? ⟨b,off+7,none⟩=some rv
 c8:w.cell? ⟨b,off+8,none⟩=some (.int .i64 num)
 c9:w.cell? ⟨b,off+9,none⟩=some (.int .u8 inv)
theorem km.below{w w':World}{b off:Nat}{t:Ft}{rv:Value}{num inv:Int}(h:km w b off t rv num inv)(hb:Below w.heap.size w w'):km w' b off t rv num inv:=
 ⟨Lj h.lt hb.size,λj u hj=>ae (h.cs j u hj) hb,ae h.c7 hb,ae h.c8 hb,ae h.c9 hb⟩
theorem km.cells{w:World}{b off:Nat}{t:Ft}{rv:Value}{num inv:Int}(h:km w b off t rv num inv):w.cell? ⟨b,off,none⟩=some (.int .i64 t.k)/\w.cell? ⟨b,off+1,none⟩=some (.int .u16 t.a)/\w.cell? ⟨b,off+2,none⟩=some (.int .u16 t.b)/\w.cell? ⟨b,off+3,none⟩=some (.int .u16 t.d)/\w.cell? ⟨b,off+4,none⟩=some (.int .u16 t.z)/\w.cell? ⟨b,off+5,none⟩=some (.int .u8 t.pl)/\w.cell? ⟨b,off+6,none⟩=some (.int .u8 t.c):=
 ⟨h.cs 0 _ rfl,h.cs 1 _ rfl,h.cs 2 _ rfl,h.cs 3 _ rfl,h.cs 4 _ rfl,h.cs 5 _ rfl,h.cs 6 _ rfl⟩
def dZ(l t:Ft):Bool:=decide (l.pl=t.pl)&&fI l.a l.b l.d l.z t.a t.b t.d t.z
theorem zj(b off:Nat)(l t:Ft)(rv:Value)(num inv:Int)(w:World)(hd:km w b off l rv num inv):Calls prog 112 #[.pointer (some ⟨b,off,none⟩),bX t] w λe w'=>e=.returned (.bool (dZ l t))/\Below w.heap.size w w':=by
 obtain⟨c0,c1,c2,c3,c4,c5,c6⟩:=hd.cells;obtain⟨w1,hw1⟩:∃w1,w1=w.alloc (.cells #[.int .i64 t.k,.int .u16 t.a,.int .u16 t.b,.int .u16 t.d,.int .u16 t.z,.int .u8 t.pl,.int .u8 t.c] 95):=⟨_,rfl⟩;have HB:Ma (Below w.heap.size w w1):=by rw[hw1];exact bv
 have HX:Ma (w1.cell? ⟨w.heap.size,1,none⟩=some (.int .u16 t.a)/\w1.cell? ⟨w.heap.size,2,none⟩=some (.int .u16 t.b)/\w1.cell? ⟨w.heap.size,3,none⟩=some (.int .u16 t.d)/\w1.cell? ⟨w.heap.size,4,none⟩=some (.int .u16 t.z)/\w1.cell? ⟨w.heap.size,5,none⟩=some (.int .u8 t.pl)):=by rw[hw1];exact ac ⟨by simp[go_sem],by simp[go_sem],by simp[go_sem],by simp[go_sem],by simp[go_sem]⟩
 have y1:=ae c1 HB.o;have y2:=ae c2 HB.o;have y3:=ae c3 HB.o;have y4:=ae c4 HB.o;have y5:=ae c5 HB.o;obtain⟨x1,x2,x3,x4,x5⟩:=HX.o;have KEEP:Ma (∀W,Below w1.heap.size w1 W->(Ma (Below w1.heap.size w1 W)/\W.cell? ⟨b,off+1,none⟩=some (.int .u16 l.a)/\W.cell? ⟨b,off+2,none⟩=some (.int .u16 l.b)/\W.cell? ⟨b,off+3,none⟩=some (.int .u16 l.d)/\W.cell? ⟨b,off+4,none⟩=some (.int .u16 l.z)/\W.cell? ⟨b,off+5,none⟩=some (.int .u8 l.pl)/\W.cell? ⟨w.heap.size,1,none⟩=some (.int .u16 t.a)/\W.cell? ⟨w.heap.size,2,none⟩=some (.int .u16 t.b)/\W.cell? ⟨w.heap.size,3,none⟩=some (.int .u16 t.d)/\W.cell? ⟨w.heap.size,4,none⟩=some (.int .u16 t.z)/\W.cell? ⟨w.heap.size,5,none⟩=some (.int .u8 t.pl))):=
  λW h=>⟨h,ae y1 h,ae y2 h,ae y3 h,ae y4 h,ae y5 h,ae x1 h,ae x2 h,ae x3 h,ae x4 h,ae x5 h⟩
 have HB0:Ma (Below w1.heap.size w1 w1.drew):=(Lf _ _).drew;unfold bX dZ;clear c0 c1 c2 c3 c4 c5 c6 HX hd;by_cases h:l.pl=t.pl
 .have hb:(l.pl==t.pl)=true:=by simpa using h
  have HE:=ac (qw l.a l.b l.d l.z t.a t.b t.d t.z);rw[Li h,Bool.true_and];clear h y1 y2 y3 y4 y5 x1 x2 x3 x4 x5;unfold ci at HE;go_enter func112,ntmps112;go_wp2_with fail;rw[<-hw1];clear hw1;go_region_held (λW=>Ma (Below w1.heap.size w1 W)/\W.cell? ⟨b,off+1,none⟩=some (.int .u16 l.a)/\W.cell? ⟨b,off+2,none⟩=some (.int .u16 l.b)/\W.cell? ⟨b,off+3,none⟩=some (.int .u16 l.d)/\W.cell? ⟨b,off+4,none⟩=some (.int .u16 l.z)/\W.cell? ⟨b,off+5,none⟩=some (.int .u8 l.pl)/\W.cell? ⟨w.heap.size,1,none⟩=some (.int .u16 t.a)/\W.cell? ⟨w.heap.size,2,none⟩=some (.int .u16 t.b)/\W.cell? ⟨w.heap.size,3,none⟩=some (.int .u16 t.d)/\W.cell? ⟨w.heap.size,4,none⟩=some (.int .u16 t.z)/\W.cell? ⟨w.heap.size,5,none⟩=some (.int .u8 t.pl))
   (first|exact KEEP.o _ HB0.o|exact KEEP.o _ HB2.o)
   (first|(go_at_call 34;refine(HE.o _).mono ?_;rintro e w2 ⟨rfl,hb2⟩;have HB2:=ac (HB0.o.trans (hb2.mono HB0.o.size));clear hb2))
  go_wp2;go_ret;exact⟨rfl,HB.o.trans (HB2.o.mono HB.o.size)⟩
 .have hb:(l.pl==t.pl)=false:=by simpa using h
  rw[Lh h,Bool.false_and];clear h;go_enter func112,ntmps112;go_wp2_with fail;rw[<-hw1];clear hw1;go_quiet (fail);go_wp2;go_ret;exact⟨rfl,below_drewN HB.o _⟩
theorem Tryz.infoFt:(prog.info? 95).map (λi=>(i.zero,i.size,i.bytes))=some (some (.agg #[.int .i64 0,.int .u16 0,.int .u16 0,.int .u16 0,.int .u16 0,.int .u8 0,.int .u8 0]),7,24):=by kernel_rfl
def aC(fs:List Ft):List Value:=fs.flatMap aw
theorem il(fs:List Ft):(aC fs).length=fs.length*7:=by
 induction fs with
 |nil=>rfl
 |cons t fs ih=>simp only[aC,List.flatMap_cons,Lx,LN] at ih⊢;rw[ih];simp[aw];omega
theorem jC(t:Ft)(fs:List Ft):aC (t::fs)=aw t++aC fs:=rfl
theorem uZ(fs gs:List Ft):aC (fs++gs)=aC fs++aC gs:=by unfold aC;rw[List.flatMap_append]
theorem oZ(fs:List Ft)(t:Ft):aC (fs++[t])=aC fs++aw t:=by rw[uZ,jC];simp[aC]
theorem lQ(t:Ft):∀u∈aw t,u.oneCell'=true:=by intro u hu;simp only[aw,LL,List.not_mem_nil,or_false] at hu;rcases hu with rfl|rfl|rfl|rfl|rfl|rfl|rfl<;>rfl
theorem Ks(fs:List Ft):∀u∈aC fs,u.oneCell'=true:=by intro u hu;simp only[aC,L7] at hu;obtain⟨t,_,hu⟩:=hu;exact lQ t u hu
def Fv(w:World)(v:Value)(fs:List Ft):Prop:=
 ∃a cap,v=.slice a fs.length cap/\fs.length<=cap/\(0<fs.length->∃b off,a=some ⟨b,off,none⟩/\b<w.heap.size/\∀j u,(aC fs)[j]?=some u->w.cell? ⟨b,off+j,none⟩=some u)
theorem Fv.below{w w':World}{v:Value}{fs:List Ft}(h:Fv w v fs)(hb:Below w.heap.size w w'):Fv w' v fs:=by obtain⟨a,cap,rfl,hc,h1⟩:=h;refine⟨a,cap,rfl,hc,λhp=>?_⟩;obtain⟨b,off,rfl,hlt,hcs⟩:=h1 hp;exact⟨b,off,rfl,Lj hlt hb.size,λj u hj=>ae (hcs j u hj) hb⟩
theorem oo{w:World}(a:Option Addr)(c:Nat):Fv w (.slice a 0 c) []:=⟨a,c,rfl,Ll _,λh=>absurd h (by simp)⟩
theorem pY{w:World}{B:Nat}{v:Value}{ts:List Ft}(h:w.ownsRow B 95 7 v ts.length (aC ts)):Fv w v ts:=by
 rcases h.2 with ⟨h1,h2⟩|⟨b,cap,af,rfl,hb,hh,hn,hm,hcs,ht⟩
 .exact⟨none,0,by rw[h1,h2],by omega,λhp=>by omega⟩
 .have hlt:=Lb h b rfl;refine⟨_,cap,rfl,hn,λhp=>⟨b,0,rfl,hlt.2,λj u hj=>?_⟩⟩;have hjl:j<ts.length*7:=by rw[<-il];apply LF;intro hle;rw[Lu hle] at hj;simp at hj
  rw[Ly,h.cellAt j hjl];exact hj
def eU(w:World)(b off:Nat)(t:Ft):Prop:=w.cell? ⟨b,off,none⟩=some (.int .i64 t.k)/\w.cell? ⟨b,off+1,none⟩=some (.int .u16 t.a)/\w.cell? ⟨b,off+2,none⟩=some (.int .u16 t.b)/\w.cell? ⟨b,off+3,none⟩=some (.int .u16 t.d)/\w.cell? ⟨b,off+4,none⟩=some (.int .u16 t.z)/\w.cell? ⟨b,off+5,none⟩=some (.int .u8 t.pl)/\w.cell? ⟨b,off+6,none⟩=some (.int .u8 t.c)
theorem eU.keep{w w':World}{b off:Nat}{t:Ft}(h:eU w b off t)(hb:Below w.heap.size w w'):eU w' b off t:=
 ⟨ae h.1 hb,ae h.2.1 hb,ae h.2.2.1 hb,ae h.2.2.2.1 hb,ae h.2.2.2.2.1 hb,ae h.2.2.2.2.2.1 hb,ae h.2.2.2.2.2.2 hb⟩
theorem mN{w:World}{b off:Nat}{t:Ft}(h:∀j u,(aw t)[j]?=some u->w.cell? ⟨b,off+j,none⟩=some u):eU w b off t:=
 ⟨h 0 _ rfl,h 1 _ rfl,h 2 _ rfl,h 3 _ rfl,h 4 _ rfl,h 5 _ rfl,h 6 _ rfl⟩
theorem BH:∀(fs:List Ft)(k:Nat),aC (fs.drop k)=(aC fs).drop (k*7)
 |fs,0=>by simp
 |[],k+1=>by simp[aC]
 |t::fs,k+1=>by rw[List.drop_succ_cons,BH fs k,jC,show (k+1)*7=7+k*7 by omega,<-List.drop_drop];simp[aw]
def ke:Ft:=⟨0,0,0,0,0,0,0⟩
theorem Fv.at{w:World}{a:Option Addr}{n cap:Nat}{fs:List Ft}(h:Fv w (.slice a n cap) fs)(k:Nat)(hk:k<fs.length):∃b off,a=some ⟨b,off,none⟩/\b<w.heap.size/\n=fs.length/\eU w b (off+k*7) (fs.getD k ke):=by
 obtain⟨a2,c2,e,_,h1⟩:=h;obtain⟨b,off,rfl,hlt,hcs⟩:=h1 (by omega);simp only[LB] at e;obtain⟨rfl,rfl,rfl⟩:=e;refine⟨b,off,rfl,hlt,rfl,mN λj u hj=>?_⟩;have hd:(aC (fs.drop k))[j]?=some u:=by
  rw[LY hk,jC,LQ]
  .have e:fs.getD k ke=fs[k]:=by simp[Lr,hk]
   rw[e] at hj;exact hj
  .apply LF;intro hle;rw[Lu (by simpa [aw] using hle)] at hj;simp at hj
 rw[BH,List.getElem?_drop] at hd;rw[Nat.add_assoc];exact hcs _ _ hd
theorem Fv.head{w:World}{v:Value}{t:Ft}{ts:List Ft}(h:Fv w v (t::ts)):∃b off cap,v=.slice (some ⟨b,off,none⟩) (ts.length+1) cap/\ts.length+1<=cap/\b<w.heap.size/\eU w b off t/\(cap=1->ts=[])/\Fv w (.slice (some ⟨b,off+7,none⟩) ts.length (cap-1)) ts:=by
 obtain⟨a,cap,rfl,hcap,h⟩:=h;obtain⟨b,off,rfl,hlt,hc⟩:=h (by simp);simp only[LN] at hcap;refine⟨b,off,cap,rfl,hcap,hlt,mN λj u hj=>hc j u ?_,λe=>LV.1 (by omega),_,_,rfl,by omega,λhp=>⟨b,off+7,rfl,hlt,λj u hj=>?_⟩⟩
 .rw[jC,LQ]
  .exact hj
  .apply LF;intro hle;rw[Lu hle] at hj;simp at hj
 .rw[Nat.add_assoc];refine hc (7+j) u ?_;rw[jC,LW (by simp[aw])];simpa [aw] using hj
theorem Fv.tail{w:World}{b off cap:Nat}{ts:List Ft}(h:(cap=1->ts=[])/\Fv w (.slice (some ⟨b,off+7,none⟩) ts.length (cap-1)) ts):∃A,(if cap=1 then (some ⟨b,off,none⟩:Option Addr) else some ⟨b,off+7,none⟩)=some A/\Fv w (.slice (some A) ts.length (cap-1)) ts:=by
 by_cases hc:cap=1
 .have e:=h.1 hc;subst e;exact⟨⟨b,off,none⟩,LI hc,_,_,rfl,Ll _,λh=>absurd h (by simp)⟩
 .exact⟨⟨b,off+7,none⟩,LH hc,h.2⟩
def cD(p:Int):List Ft->List Ft->List Ft
 |[],g=>g
 |t::f,[]=>t::f
 |t::f,u::g=>
  if u.k<t.k then t::cD p f (u::g)
  else if t.k<u.k then u::cD p (t::f) g
  else if (t.c+u.c)%p≠0 then {t with c:=(t.c+u.c)%p}::cD p f g
  else cD p f g
theorem o6(p:Int)(g:List Ft):cD p [] g=g:=by unfold cD;rfl
theorem o7(p:Int)(f:List Ft):cD p f []=f:=by cases f<;>(unfold cD;rfl)
theorem o8{p:Int}{t u:Ft}{f g:List Ft}(h:u.k<t.k):cD p (t::f) (u::g)=t::cD p f (u::g):=by rw[cD,LI h]
theorem o9{p:Int}{t u:Ft}{f g:List Ft}(h:t.k<u.k):cD p (t::f) (u::g)=u::cD p (t::f) g:=by rw[cD,LH (by omega),LI h]
theorem pd{p:Int}{t u:Ft}{f g:List Ft}(h:t.k=u.k)(hc:(t.c+u.c)%p≠0):cD p (t::f) (u::g)={t with c:=(t.c+u.c)%p}::cD p f g:=by rw[cD,LH (by omega),LH (by omega),LI hc]
theorem ph{p:Int}{t u:Ft}{f g:List Ft}(h:t.k=u.k)(hc:(t.c+u.c)%p=0):cD p (t::f) (u::g)=cD p f g:=by rw[cD,LH (by omega),LH (by omega),LH (by omega)]
structure fk(p:Int)(C:Nat)(w1 wr:World)(g:Nat)(L:List Ft)(fv gv:Value)(fs gs ds:List Ft):Prop where
 pf:Fv w1 fv fs
 pg:Fv w1 gv gs
 own:wr.ownsRow w1.heap.size 95 7 (.slice (some ⟨g,0,none⟩) ds.length C) ds.length (aC ds)
 below:Below w1.heap.size w1 wr
 eq:L=ds++cD p fs gs
 room:ds.length+fs.length+gs.length<=C
 cf:∀t∈fs,0<=t.c/\t.c<p
 cg:∀t∈gs,0<=t.c/\t.c<p
theorem fk.next{p:Int}{C:Nat}{w1 wr w':World}{g:Nat}{L:List Ft}{fv gv:Value}{fs gs ds:List Ft}(h:fk p C w1 wr g L fv gv fs gs ds)(hb:Below wr.heap.size wr w'):fk p C w1 w' g L fv gv fs gs ds:=
 ⟨h.pf,h.pg,aK h.own hb,h.below.trans (hb.mono h.below.size),h.eq,h.room,h.cf,h.cg⟩
theorem fk.takeF{p:Int}{C:Nat}{w1 w2 w':World}{g:Nat}{L:List Ft}{fv gv fv':Value}{t u:Ft}{fs gs ds:List Ft}(h:fk p C w1 w2 g L fv gv (t::fs) (u::gs) ds)(ho:u.k<t.k)(hown:w'.ownsRow w1.heap.size 95 7 (.slice (some ⟨g,0,none⟩) (ds.length+1) C) (ds.length+1) (aC ds++aw t))(hg:w2.grownBy w' (some g))(hgw:w1.heap.size<=g)(hf:Fv w1 fv' fs):fk p C w1 w' g L fv' gv fs (u::gs) (ds++[t]):=by
 refine⟨hf,h.pg,?_,h.below.trans (dE hg hgw h.below.size),?_,?_,λt ht=>h.cf t (by simp[ht]),h.cg⟩
 .rw[oZ,Lx];exact hown
 .rw[h.eq,o8 ho];simp
 .have:=h.room;simp only[Lx,LN,List.length_nil] at this⊢;omega
theorem fk.takeG{p:Int}{C:Nat}{w1 w2 w':World}{g:Nat}{L:List Ft}{fv gv gv':Value}{t u:Ft}{fs gs ds:List Ft}(h:fk p C w1 w2 g L fv gv (t::fs) (u::gs) ds)(ho:t.k<u.k)(hown:w'.ownsRow w1.heap.size 95 7 (.slice (some ⟨g,0,none⟩) (ds.length+1) C) (ds.length+1) (aC ds++aw u))(hg:w2.grownBy w' (some g))(hgw:w1.heap.size<=g)(hf:Fv w1 gv' gs):fk p C w1 w' g L fv gv' (t::fs) gs (ds++[u]):=by
 refine⟨h.pf,hf,?_,h.below.trans (dE hg hgw h.below.size),?_,?_,h.cf,λt ht=>h.cg t (by simp[ht])⟩
 .rw[oZ,Lx];exact hown
 .rw[h.eq,o9 ho];simp
 .have:=h.room;simp only[Lx,LN,List.length_nil] at this⊢;omega
theorem fk.both{p:Int}{C:Nat}{w1 w2 w':World}{g:Nat}{L:List Ft}{fv gv fv' gv':Value}{t u:Ft}{fs gs ds:List Ft}(h:fk p C w1 w2 g L fv gv (t::fs) (u::gs) ds)(ho:t.k=u.k)(hc:(t.c+u.c)%p≠0)(hown:w'.ownsRow w1.heap.size 95 7 (.slice (some ⟨g,0,none⟩) (ds.length+1) C) (ds.length+1) (aC ds++aw {t with c:=(t.c+u.c)%p}))(hg:w2.grownBy w' (some g))(hgw:w1.heap.size<=g)(hf:Fv w1 fv' fs)(hf2:Fv w1 gv' gs):fk p C w1 w' g L fv' gv' fs gs (ds++[{t with c:=(t.c+u.c)%p}]):=by
 refine⟨hf,hf2,?_,h.below.trans (dE hg hgw h.below.size),?_,?_,λt ht=>h.cf t (by simp[ht]),λt ht=>h.cg t (by simp[ht])⟩
 .rw[oZ,Lx];exact hown
 .rw[h.eq,pd ho hc];simp
 .have:=h.room;simp only[Lx,LN,List.length_nil] at this⊢;omega
theorem fk.drop{p:Int}{C:Nat}{w1 w2:World}{g:Nat}{L:List Ft}{fv gv fv' gv':Value}{t u:Ft}{fs gs ds:List Ft}(h:fk p C w1 w2 g L fv gv (t::fs) (u::gs) ds)(ho:t.k=u.k)(hc:(t.c+u.c)%p=0)(hf:Fv w1 fv' fs)(hf2:Fv w1 gv' gs):fk p C w1 w2 g L fv' gv' fs gs ds:=by
 refine⟨hf,hf2,h.own,h.below,?_,?_,λt ht=>h.cf t (by simp[ht]),λt ht=>h.cg t (by simp[ht])⟩
 .rw[h.eq,ph ho hc]
 .have:=h.room;simp only[LN] at this⊢;omega
theorem kM(w:World)(t:Ft)(T:TypeId):∀j u,(aw t)[j]?=some u->(w.alloc (.cells #[.int .i64 t.k,.int .u16 t.a,.int .u16 t.b,.int .u16 t.d,.int .u16 t.z,.int .u8 t.pl,.int .u8 t.c] T)).cell? ((⟨w.heap.size,0,none⟩:Addr).add j)=some u:=by
 intro j u hj;have hj7:j<7:=by apply LF;intro hle;rw[Lu (by simpa [aw] using hle)] at hj;simp at hj
 have:j=0\/j=1\/j=2\/j=3\/j=4\/j=5\/j=6:=by omega
 rcases this with rfl|rfl|rfl|rfl|rfl|rfl|rfl<;>simp[aw] at hj<;>subst hj<;>simp[Addr.add,go_sem]
theorem rh{P:Program}{w:World}{ops:Array Oper}{rest:List Oper}{o:Oper}{a:Act}{Q:Exit->Act->World->Prop}(hgd:o.guard=none)(s x:Operand)(t:TypeId)(ho:o.op=.call {callee:=.builtin .append,args:=#[s,x],argTypes:=#[t,t]})(base:Nat)(e:TypeId)(i:TypeInfo)(h1:P.underlying t=some (.slice e))(h2:P.info? e=some i)(h4:i.size=7)(g k cap:Nat)(xs:List Value)(hs:a.eval s=.slice (some ⟨g,0,none⟩) k cap)(hown:w.ownsRow base e 7 (.slice (some ⟨g,0,none⟩) k cap) k xs)(us:List Ft)(ua:Option Addr)(uc:Nat)(hx:a.eval x=.slice ua us.length uc)(hcs:0<us.length->∃b off,ua=some ⟨b,off,none⟩/\∀j u,(aC us)[j]?=some u->w.cell? ⟨b,off+j,none⟩=some u)(b1:k+us.length<=cap)(hK:∀w',w'.ownsRow base e 7 (.slice (some ⟨g,0,none⟩) (k+us.length) cap) (k+us.length) (xs++aC us)->w.grownBy w' (some g)->wpList P ops Q rest (a.put o.dst (.slice (some ⟨g,0,none⟩) (k+us.length) cap)) w'):wpList P ops Q (o::rest) a w:=by
 by_cases h0:0<us.length
 .obtain⟨b,off,rfl,hc⟩:=hcs h0;refine wpList_append_fits w hgd s x t ho base e i 7 h1 h2 h4 g k cap xs hs hown ⟨b,off,none⟩ us.length uc (aC us) hx (il us) (λj u hj=>?_) (Ks us) b1 hK;have:=hc j u hj;by_cases hj0:j=0
  .subst hj0;simpa [Addr.add] using this
  .simpa [Addr.add,hj0] using this
 .have e0:us=[]:=LV.1 (by omega);subst e0;cases ua with
  |none=>refine Do hgd s x t ho base e i 7 h1 h2 _ k uc xs hs hown hx ?_;exact hK w (by simpa [aC] using hown) (C7 _ _)
  |some ad=>refine wpList_append_fits w hgd s x t ho base e i 7 h1 h2 h4 g k cap xs hs hown ad 0 uc [] hx (by simp) (λj u hj=>by simp at hj) (λu hu=>by simp at hu) b1 hK
theorem fk.finish{p:Int}{C:Nat}{w1 wr w2 w3:World}{g:Nat}{L:List Ft}{fv gv:Value}{fs gs ds:List Ft}(h:fk p C w1 wr g L fv gv fs gs ds)(he:fs=[]\/gs=[])(g2:wr.grownBy w2 (some g))(g3:w2.grownBy w3 (some g))(hown:w3.ownsRow w1.heap.size 95 7 (.slice (some ⟨g,0,none⟩) (ds.length+fs.length+gs.length) C) (ds.length+fs.length+gs.length) (aC ds++aC fs++aC gs))(hgw:w1.heap.size<=g):Fv w3 (.slice (some ⟨g,0,none⟩) (ds.length+fs.length+gs.length) C) L/\Below w1.heap.size w1 w3:=by
 refine⟨?_,h.below.trans (dE (cE g2 g3) hgw h.below.size)⟩;have e1:(ds++fs++gs).length=ds.length+fs.length+gs.length:=by simp only[Lx]
 have e2:aC (ds++fs++gs)=aC ds++aC fs++aC gs:=by rw[uZ,uZ]
 have k:=pY (w:=w3) (B:=w1.heap.size) (v:=.slice (some ⟨g,0,none⟩) (ds.length+fs.length+gs.length) C) (ts:=ds++fs++gs) (by rw[e1,e2];exact hown);have e3:ds++fs++gs=L:=by
  rw[h.eq];rcases he with he|he
  .subst he;rw[o6];simp
  .subst he;rw[o7];simp
 rw[e3] at k;exact k
theorem iM{w:World}{B:Nat}(hB:B<=w.heap.size)(t:Ft):(w.alloc (.cells #[.int .i64 t.k,.int .u16 t.a,.int .u16 t.b,.int .u16 t.d,.int .u16 t.z,.int .u8 t.pl,.int .u8 t.c] 95)).ownsRow B 95 7 (.slice (some ⟨w.heap.size,0,none⟩) 1 1) 1 (aw t):=
 ⟨by simp[aw],.inr ⟨w.heap.size,1,_,rfl,hB,heap_alloc_new w _,Lc _,by decide,by simp,by simp[aw]⟩⟩
theorem Kt(ob:Nat)(p k0 k1 k2:Int)(sv fv gv:Value)(fs gs:List Ft)(w:World)(hob:bk w ob p k0 k1 k2 sv)(hp:2<=p/\p<=101)(cf:∀t∈fs,0<=t.c/\t.c<p)(cg:∀t∈gs,0<=t.c/\t.c<p)(hm:fs.length+gs.length<=2000000000000)(hf:Fv w fv fs)(hg:Fv w gv gs):Calls prog 132 #[.pointer (some ⟨ob,0,none⟩),fv,gv] w λe w'=>∃u,e=.returned u/\Fv w' u (cD p fs gs)/\Below w.heap.size w w':=by
 have HF:=ac hf;have HG:=ac hg;have HCF:=ac cf;have HCG:=ac cg;have HOB:=ac hob;obtain⟨hp1,hp2⟩:=hp;obtain⟨fa,fc,rfl,_,_⟩:=hf;obtain⟨ga,gc,rfl,_,_⟩:=hg;clear cf cg hob;obtain⟨i0,hi,hz0,hz1,hz2⟩:=info_parts Tryz.infoFt;go_enter func132,ntmps132;go_wp2_with (at_make;refine wpList_make_own _ rfl _ _ 92 rfl w.heap.size 95 i0 _ 7 underlying92 hi hz0 hz1 .i64 .i64 _ (fs.length+gs.length) rfl rfl (by simp) (by rw[hz2];omega) (by unfold maxLen;omega) (by simp) ?_;intro w1 hown hgrow;have HX:Ma (fk p (fs.length+gs.length) w w1 w.heap.size (cD p fs gs) (.slice fa fs.length fc) (.slice ga gs.length gc) fs gs []):=⟨HF.o,HG.o,hown,⟨hgrow.os,hgrow.tape,hgrow.output,hgrow.size,λk hk=>hgrow.block k hk (by simp)⟩,by simp,by simp,HCF.o,HCG.o⟩;clear hown hgrow);have HI:=ac (Lg hi (Lg hz1 hz2));clear hi hz0 hz1 hz2 HF HG HCF HCG;go_loopw [1,2,7] (λx y z wr=>∃(fs1 gs1 ds:List Ft),z=.slice (some ⟨w.heap.size,0,none⟩) ds.length (fs.length+gs.length)/\fk p (fs.length+gs.length) w wr w.heap.size (cD p fs gs) x y fs1 gs1 ds) (λx y _ _=>ns x+ns y);case atStart=>exact⟨fs,gs,[],rfl,HX.o⟩
 case round=>
  clear HX;obtain⟨fs1,gs1,ds,rfl,hm1⟩:=hrel;have HM:=ac hm1;clear hm1;by_cases hfin:fs1=[]\/gs1=[]
  .have HR:=ac HM.o.room;have HFIN:=ac hfin;have HXF:=ac HM.o.pf;have HXG:=ac HM.o.pg;obtain⟨xa,xc,hxv,_,hucs⟩:=HM.o.pf;obtain⟨ya,yc,hyv,_,hvcs⟩:=HM.o.pg;have HU1:Ma (0<fs1.length->∃b off,xa=some ⟨b,off,none⟩/\∀j u,(aC fs1)[j]?=some u->wr.cell? ⟨b,off+j,none⟩=some u):=λh=>by obtain⟨b,off,e,hlt,hc⟩:=hucs h;exact⟨b,off,e,λj u hj=>ae (hc j u hj) HM.o.below⟩
   have HV1:Ma (∀w2,wr.grownBy w2 (some w.heap.size)->0<gs1.length->∃b off,ya=some ⟨b,off,none⟩/\∀j u,(aC gs1)[j]?=some u->w2.cell? ⟨b,off+j,none⟩=some u):=λw2 hg2 h=>by obtain⟨b,off,e,hlt,hc⟩:=hvcs h;exact⟨b,off,e,λj u hj=>ae (hc j u hj) (HM.o.below.trans (dE hg2 (Lc _) HM.o.below.size))⟩
   have hzero:fs1.length=0\/gs1.length=0:=by
    rcases hfin with h|h
    .left;rw[h];rfl
    .right;rw[h];rfl
   subst hxv;subst hyv;clear hucs hvcs hfin;have r1a:ds.length+fs1.length<=fs.length+gs.length:=by have:=HR.o;omega
   have r2a:ds.length+fs1.length+gs1.length<=fs.length+gs.length:=HR.o;by_cases hu0:0<fs1.length
   .have hv0:¬0<gs1.length:=by omega
    go_wp2_with (at_builtin;first|(refine rh rfl (.tmp 89) (.tmp 90) 92 rfl w.heap.size 95 i0 underlying92 HI.o.1 HI.o.2.1 w.heap.size ds.length (fs.length+gs.length) (aC ds) rfl HM.o.own fs1 _ _ rfl HU1.o r1a ?_;intro w2 r1 r2;have R1:=ac r1;have R2:=ac r2;clear r1 r2)|(refine rh rfl (.tmp 91) (.tmp 92) 92 rfl w.heap.size 95 i0 underlying92 HI.o.1 HI.o.2.1 w.heap.size (ds.length+fs1.length) (fs.length+gs.length) (aC ds++aC fs1) rfl R1.o gs1 _ _ rfl (HV1.o _ R2.o) r2a ?_;intro w3 r3 r4;have R3:=ac r3;have R4:=ac r4;clear r3 r4));go_ret;have F:=HM.o.finish HFIN.o R2.o R4.o R3.o (Lc _);exact⟨_,rfl,F.1,F.2⟩
   .go_wp2_with (at_builtin;first|(refine rh rfl (.tmp 89) (.tmp 90) 92 rfl w.heap.size 95 i0 underlying92 HI.o.1 HI.o.2.1 w.heap.size ds.length (fs.length+gs.length) (aC ds) rfl HM.o.own fs1 _ _ rfl HU1.o r1a ?_;intro w2 r1 r2;have R1:=ac r1;have R2:=ac r2;clear r1 r2)|(refine rh rfl (.tmp 91) (.tmp 92) 92 rfl w.heap.size 95 i0 underlying92 HI.o.1 HI.o.2.1 w.heap.size (ds.length+fs1.length) (fs.length+gs.length) (aC ds++aC fs1) rfl R1.o gs1 _ _ rfl (HV1.o _ R2.o) r2a ?_;intro w3 r3 r4;have R3:=ac r3;have R4:=ac r4;clear r3 r4));go_ret;have F:=HM.o.finish HFIN.o R2.o R4.o R3.o (Lc _);exact⟨_,rfl,F.1,F.2⟩
  .cases fs1 with
   |nil=>exact absurd (L0 rfl) hfin
   |cons t fs2=>
   cases gs1 with
   |nil=>exact absurd (L3 rfl) hfin
   |cons u gs2=>
    clear hfin;obtain⟨b,off,fcap,rfl,hfc,hlt,hft,hone,hpl⟩:=HM.o.pf.head;obtain⟨b2,off2,gcap,rfl,hgc,hlt2,hgt,hone2,hpl2⟩:=HM.o.pg.head;have HP:=ac (Lg hone hpl);have HP2:=ac (Lg hone2 hpl2);have HT:=ac (HM.o.cf t (by simp));have HU:=ac (HM.o.cg u (by simp));have hroom:ds.length+1<=fs.length+gs.length:=by have:=HM.o.room;simp only[LN] at this;omega
    have hle:(1:Int)<=(fs2.length:Int)+1:=by omega
    have hle2:(1:Int)<=(gs2.length:Int)+1:=by omega
    obtain⟨A,hA,hplA⟩:=Fv.tail HP.o;have HPA:=ac hplA;obtain⟨A2,hA2,hplA2⟩:=Fv.tail HP2.o;have HPA2:=ac hplA2;obtain⟨c0,c1,c2,c3,c4,c5,c6⟩:=hft.keep HM.o.below;obtain⟨d0,d1,d2,d3,d4,d5,d6⟩:=hgt.keep HM.o.below;clear hplA hplA2 hft hgt hone hone2 hpl hpl2;have CT:Ma (∀W,Below wr.heap.size wr W->eU W b off t/\eU W b2 off2 u):=λW h=>⟨eU.keep ⟨c0,c1,c2,c3,c4,c5,c6⟩ h,eU.keep ⟨d0,d1,d2,d3,d4,d5,d6⟩ h⟩;by_cases hk1:u.k<t.k
    .go_wp2;go_quiet (fail);have HM9:=ac (HM.o.next (below_drewN (Lf wr.heap.size wr) nq));obtain⟨⟨e0,e1,e2,e3,e4,e5,e6⟩,_⟩:=CT.o _ (below_drewN (Lf wr.heap.size wr) nq);have HOWN:=ac (aK HM9.o.own ((Lf (wr.drewN nq).heap.size (wr.drewN nq)).drew.alloc (Lc _) (.cells #[.int .i64 t.k,.int .u16 t.a,.int .u16 t.b,.int .u16 t.d,.int .u16 t.z,.int .u8 t.pl,.int .u8 t.c] 95)));go_wp2;go_region_law (refine Bb rfl (.tmp 63) (.tmp 67) 92 rfl w.heap.size 95 i0 7 underlying92 HI.o.1 HI.o.2.1 w.heap.size ds.length (fs.length+gs.length) (aC ds) (by simp[Act.eval,Act.put]) HOWN.o ⟨wr.heap.size,0,none⟩ 1 1 (aw t) (by simp[Act.eval,Act.put]) rfl (kM _ _ _) (lQ t) hroom ?_;intro w' r1 r2;have R1:=ac (Lg r1 r2);clear r1 r2);all_goals
      simp only[List.getElem_toArray,List.getElem_cons_succ,List.getElem_cons_zero];simp only[Act.put,List.setIfInBounds_toArray,List.set_cons_zero,List.set_cons_succ];go_wp2;go_roundw;case rel=>exact⟨fs2,u::gs2,ds++[t],by simp,(HM9.o.next ((Lf (wr.drewN nq).heap.size (wr.drewN nq)).drew.alloc (Lc _) _)).takeF hk1 R1.o.1 R1.o.2 (Lc _) HPA.o⟩
      case measure=>simp[ns]
    .go_wp2;go_quiet (fail);have HBQ:=ac (below_drewN (Lf wr.heap.size wr) nq);generalize wr.drewN nq=wq at HBQ⊢;have HMQ:=ac (HM.o.next HBQ.o);obtain⟨⟨c0,c1,c2,c3,c4,c5,c6⟩,d0,d1,d2,d3,d4,d5,d6⟩:=CT.o _ HBQ.o;clear HM;by_cases hk2:t.k<u.k
     .go_wp2;go_quiet (fail);have HBP:=ac (below_drewN (Lf wq.heap.size wq) nq);generalize wq.drewN nq=wp at HBP⊢;have HM9:=ac (HMQ.o.next HBP.o);obtain⟨⟨c0,c1,c2,c3,c4,c5,c6⟩,d0,d1,d2,d3,d4,d5,d6⟩:=CT.o _ (HBQ.o.trans (HBP.o.mono HBQ.o.size));have HOWN:=ac (aK HM9.o.own ((Lf wp.heap.size wp).drew.alloc (Lc _) (.cells #[.int .i64 u.k,.int .u16 u.a,.int .u16 u.b,.int .u16 u.d,.int .u16 u.z,.int .u8 u.pl,.int .u8 u.c] 95)));go_wp2;go_region_law (refine Bb rfl (.tmp 81) (.tmp 85) 92 rfl w.heap.size 95 i0 7 underlying92 HI.o.1 HI.o.2.1 w.heap.size ds.length (fs.length+gs.length) (aC ds) (by simp[Act.eval,Act.put]) HOWN.o ⟨wp.heap.size,0,none⟩ 1 1 (aw u) (by simp[Act.eval,Act.put]) rfl (kM _ _ _) (lQ u) hroom ?_;intro w' r1 r2;have R1:=ac (Lg r1 r2);clear r1 r2);all_goals
       simp only[List.getElem_toArray,List.getElem_cons_succ,List.getElem_cons_zero];simp only[Act.put,List.setIfInBounds_toArray,List.set_cons_zero,List.set_cons_succ];go_wp2;go_roundw;case rel=>exact⟨t::fs2,gs2,ds++[u],by simp,(HM9.o.next ((Lf wp.heap.size wp).drew.alloc (Lc _) _)).takeG hk2 R1.o.1 R1.o.2 (Lc _) HPA2.o⟩
       case measure=>simp[ns]
     .have hke:t.k=u.k:=by omega
      have HKE:=ac hke;clear hke;obtain⟨ht1,ht2⟩:=HT.o;obtain⟨hu1,hu2⟩:=HU.o;obtain⟨q0,q1⟩:=BG (a:=t.c+u.c) ⟨hp1,hp2⟩;have hpz:¬p=0:=by omega
      go_wp2;go_quiet (fail);have HBP:=ac (below_drewN (Lf wq.heap.size wq) nq);generalize wq.drewN nq=wp at HBP⊢;have HM9:=ac (HMQ.o.next HBP.o);obtain⟨⟨c0,c1,c2,c3,c4,c5,c6⟩,d0,d1,d2,d3,d4,d5,d6⟩:=CT.o _ (HBQ.o.trans (HBP.o.mono HBQ.o.size));obtain⟨olt,o0,o1,o2,o3,o4⟩:=HOB.o.below HM9.o.below;clear HMQ;have OW0:=ac (iM (w:=wp) (B:=wp.heap.size) (Lc _) t);have HBT:Ma (Below wp.heap.size wp (wp.alloc (.cells #[.int .i64 t.k,.int .u16 t.a,.int .u16 t.b,.int .u16 t.d,.int .u16 t.z,.int .u8 t.pl,.int .u8 t.c] 95))):=bv;go_wp2;generalize wp.alloc (.cells #[.int .i64 t.k,.int .u16 t.a,.int .u16 t.b,.int .u16 t.d,.int .u16 t.z,.int .u8 t.pl,.int .u8 t.c] 95)=wt at OW0 HBT⊢;obtain⟨⟨c0,c1,c2,c3,c4,c5,c6⟩,d0,d1,d2,d3,d4,d5,d6⟩:=CT.o _ ((HBQ.o.trans (HBP.o.mono HBQ.o.size)).trans (HBT.o.mono (HBQ.o.trans (HBP.o.mono HBQ.o.size)).size));have p0:=ae o0 HBT.o;have y6:wt.cell? ⟨wp.heap.size,6,none⟩=some (.int .u8 t.c):=OW0.o.cellAt 6 (by omega);have z6:wt.frozen? ⟨wp.heap.size,6,none⟩=false:=OW0.o.frozenAt 6;go_region;have OW1:Ma ((wt.setCell ⟨wp.heap.size,6,none⟩ (.int .u8 ((t.c+u.c)%p))).drew.ownsRow wp.heap.size 95 7 (.slice (some ⟨wp.heap.size,0,none⟩) 1 1) 1 (aw {t with c:=(t.c+u.c)%p})):=aK (OW0.o.stored 6 (.int .u8 ((t.c+u.c)%p))).1 (Lf _ _).drew;have HBS:Ma (Below wp.heap.size wp (wt.setCell ⟨wp.heap.size,6,none⟩ (.int .u8 ((t.c+u.c)%p))).drew):=(HBT.o.trans (dE (OW0.o.stored 6 (.int .u8 ((t.c+u.c)%p))).2 (Lc _) HBT.o.size)).drew;generalize (wt.setCell ⟨wp.heap.size,6,none⟩ (.int .u8 ((t.c+u.c)%p))).drew=ws at OW1 HBS⊢;have HMS:=ac (HM9.o.next HBS.o);have x0:ws.cell? ⟨wp.heap.size,0,none⟩=some (.int .i64 t.k):=OW1.o.cellAt 0 (by omega);have x1:ws.cell? ⟨wp.heap.size,1,none⟩=some (.int .u16 t.a):=OW1.o.cellAt 1 (by omega);have x2:ws.cell? ⟨wp.heap.size,2,none⟩=some (.int .u16 t.b):=OW1.o.cellAt 2 (by omega);have x3:ws.cell? ⟨wp.heap.size,3,none⟩=some (.int .u16 t.d):=OW1.o.cellAt 3 (by omega);have x4:ws.cell? ⟨wp.heap.size,4,none⟩=some (.int .u16 t.z):=OW1.o.cellAt 4 (by omega);have x5:ws.cell? ⟨wp.heap.size,5,none⟩=some (.int .u8 t.pl):=OW1.o.cellAt 5 (by omega);have x6:ws.cell? ⟨wp.heap.size,6,none⟩=some (.int .u8 ((t.c+u.c)%p)):=OW1.o.cellAt 6 (by omega);clear y6 z6 c0 c1 c2 c3 c4 c5 c6 d0 d1 d2 d3 d4 d5 d6;by_cases hz:(t.c+u.c)%p=0
      .go_wp2;go_quiet (fail);go_wp2;go_roundw;case rel=>exact⟨fs2,gs2,ds,rfl,(HMS.o.next (below_drewN (Lf _ _) _)).drop HKE.o hz HPA.o HPA2.o⟩
       case measure=>simp[ns];omega
      .have HOWN:=ac (aK HMS.o.own (aj (A:=.cells #[.int .i64 t.k,.int .u16 t.a,.int .u16 t.b,.int .u16 t.d,.int .u16 t.z,.int .u8 t.pl,.int .u8 ((t.c+u.c)%p)] 95)));have hzb:((t.c+u.c)%p !=0)=true:=by simpa using hz
       go_wp2_with (at_builtin;refine wpList_append_fits _ rfl (.tmp 45) (.tmp 47) 92 rfl w.heap.size 95 i0 7 underlying92 HI.o.1 HI.o.2.1 w.heap.size ds.length (fs.length+gs.length) (aC ds) rfl HOWN.o ⟨ws.heap.size,0,none⟩ 1 1 (aw {t with c:=(t.c+u.c)%p}) rfl rfl (kM ws {t with c:=(t.c+u.c)%p} _) (lQ _) hroom ?_;intro w' r1 r2;have R1:=ac (Lg r1 r2);clear r1 r2);go_quiet (fail);go_wp2;go_roundw;case rel=>exact⟨fs2,gs2,ds++[{t with c:=(t.c+u.c)%p}],by simp,((HMS.o.next aj).both HKE.o hz R1.o.1 R1.o.2 (Lc _) HPA.o HPA2.o).next (below_drewN (Lf _ _) _)⟩
       case measure=>simp[ns];omega
def bu(p more:Int)(by_ t:Ft):Ft:=⟨t.k+more,t.a+by_.a,t.b+by_.b,t.d+by_.d,t.z+by_.z,t.pl,t.c*by_.c%p⟩
structure je(p:Int)(t:Ft):Prop where
 k:-1000000000000000000<=t.k/\t.k<=1000000000000000000
 a:0<=t.a/\t.a<=30000
 b:0<=t.b/\t.b<=30000
 d:0<=t.d/\t.d<=30000
 z:0<=t.z/\t.z<=30000
 pl:0<=t.pl/\t.pl<=255
 c:0<=t.c/\t.c<p
structure gq(w wr:World)(g n:Nat)(us:List Ft):Prop where
 own:∃rest,wr.ownsRow w.heap.size 95 7 (.slice (some ⟨g,0,none⟩) n n) n (aC us++rest)/\(aC us++rest).length=n*7
 below:Below w.heap.size w wr
 ge:w.heap.size<=g
theorem gq.next{w wr w':World}{g n:Nat}{us:List Ft}(h:gq w wr g n us)(hb:Below wr.heap.size wr w'):gq w w' g n us:=by obtain⟨rest,h1,h2⟩:=h.own;exact⟨⟨rest,aK h1 hb,h2⟩,h.below.trans (hb.mono h.below.size),h.ge⟩
theorem gq.lt{w wr:World}{g n:Nat}{us:List Ft}(h:gq w wr g n us):g<wr.heap.size:=by obtain⟨rest,h1,_⟩:=h.own;exact(Lb h1 g rfl).2
theorem gq.cell{w wr:World}{g n:Nat}{us:List Ft}(h:gq w wr g n us)(j:Nat)(hj:j<n*7):(∃a,wr.cell? ⟨g,j,none⟩=some a)/\wr.frozen? ⟨g,j,none⟩=false:=by obtain⟨rest,h1,h2⟩:=h.own;have e1:=h1.cellAt j (by omega);rw[Ls (by omega)] at e1;exact⟨⟨_,e1⟩,h1.frozenAt _⟩
theorem Ku(l:List Value)(a b c d e f g:Value):∀r:List Value,7<=r.length->(((((((l++r).set l.length a).set (l.length+1) b).set (l.length+2) c).set (l.length+3) d).set (l.length+4) e).set (l.length+5) f).set (l.length+6) g=l++[a,b,c,d,e,f,g]++r.drop 7
 |[],h=>by simp at h
 |[_],h=>by simp at h
 |[_,_],h=>by simp at h
 |[_,_,_],h=>by simp at h
 |[_,_,_,_],h=>by simp at h
 |[_,_,_,_,_],h=>by simp at h
 |[_,_,_,_,_,_],h=>by simp at h
 |_::_::_::_::_::_::_::r,_=>by simp[List.set_append_right]
def pi(wr:World)(g k:Nat)(t:Ft):World:=((((((wr.setCell ⟨g,k*7,none⟩ (.int .i64 t.k)).setCell ⟨g,k*7+1,none⟩ (.int .u16 t.a)).setCell ⟨g,k*7+2,none⟩ (.int .u16 t.b)).setCell ⟨g,k*7+3,none⟩ (.int .u16 t.d)).setCell ⟨g,k*7+4,none⟩ (.int .u16 t.z)).setCell ⟨g,k*7+5,none⟩ (.int .u8 t.pl)).setCell ⟨g,k*7+6,none⟩ (.int .u8 t.c)
theorem gq.put{w wr:World}{g n:Nat}{us:List Ft}(h:gq w wr g n us)(hk:us.length<n)(t:Ft):gq w (pi wr g us.length t) g n (us++[t]):=by
 obtain⟨rest,h1,h2⟩:=h.own;have s1:=h1.stored (us.length*7) (.int .i64 t.k);have s2:=s1.1.stored (us.length*7+1) (.int .u16 t.a);have s3:=s2.1.stored (us.length*7+2) (.int .u16 t.b);have s4:=s3.1.stored (us.length*7+3) (.int .u16 t.d);have s5:=s4.1.stored (us.length*7+4) (.int .u16 t.z);have s6:=s5.1.stored (us.length*7+5) (.int .u8 t.pl);have s7:=s6.1.stored (us.length*7+6) (.int .u8 t.c);have hg:=cE (cE (cE (cE (cE (cE s1.2 s2.2) s3.2) s4.2) s5.2) s6.2) s7.2;rw[Lx,il] at h2;refine⟨⟨rest.drop 7,?_,?_⟩,h.below.trans (dE hg h.ge h.below.size),h.ge⟩
 .have e:=Ku (aC us) (.int .i64 t.k) (.int .u16 t.a) (.int .u16 t.b) (.int .u16 t.d) (.int .u16 t.z) (.int .u8 t.pl) (.int .u8 t.c) rest (by omega);rw[il] at e;have:=s7.1;rw[e] at this;rw[oZ];exact this
 .rw[Lx,il,List.length_drop,Lx];simp;omega
theorem gq.done{w wr:World}{g n:Nat}{us:List Ft}(h:gq w wr g n us)(hn:us.length=n):Fv wr (.slice (some ⟨g,0,none⟩) n n) us:=by obtain⟨rest,h1,h2⟩:=h.own;rw[Lx,il] at h2;have e:rest=[]:=LV.1 (by omega);rw[e,List.append_nil] at h1;subst hn;exact pY h1
theorem gq.made{w w':World}{n:Nat}{z:Array Value}(h:w'.ownsRow w.heap.size 95 7 (.slice (some ⟨w.heap.size,0,none⟩) n n) n (madeCells z (n*7)).toList)(hg:w.grownBy w' none):gq w w' w.heap.size n []:=
 ⟨⟨(madeCells z (n*7)).toList,h,by simp[aC,size_madeCells]⟩,⟨hg.os,hg.tape,hg.output,hg.size,λk hk=>hg.block k hk (by simp)⟩,Lc _⟩
theorem Kv{w:World}{g k b o:Nat}{t:Ft}(h:b≠g):(pi w g k t).cell? ⟨b,o,none⟩=w.cell? ⟨b,o,none⟩:=by unfold pi;rw[World.cell?_setCell_far _ _ _ _ (λe=>h e.symm),World.cell?_setCell_far _ _ _ _ (λe=>h e.symm),World.cell?_setCell_far _ _ _ _ (λe=>h e.symm),World.cell?_setCell_far _ _ _ _ (λe=>h e.symm),World.cell?_setCell_far _ _ _ _ (λe=>h e.symm),World.cell?_setCell_far _ _ _ _ (λe=>h e.symm),World.cell?_setCell_far _ _ _ _ (λe=>h e.symm)]
theorem Kw(fs:List Ft)(k:Nat)(h:k<fs.length):fs.take (k+1)=fs.take k++[fs.getD k ke]:=by rw[LK h];simp[Lr,h]
theorem Kx(fs:List Ft)(k:Nat)(h:k<fs.length):fs.getD k ke∈fs:=by rw[Lr,Ls h];simp
theorem qq(ob:Nat)(p k0 k1 k2:Int)(sv fv:Value)(bt:Ft)(fs:List Ft)(w:World)(hob:bk w ob p k0 k1 k2 sv)(hp:2<=p/\p<=101)(h0:0<=k0/\k0<=137438953472)(h1:0<=k1/\k1<=137438953472)(h2:0<=k2/\k2<=137438953472)(hbt:je p bt)(hfs:∀t∈fs,je p t)(hm:fs.length<=2000000000000)(hf:Fv w fv fs):Calls prog 118 #[.pointer (some ⟨ob,0,none⟩),bX bt,fv] w λe w'=>∃u,e=.returned u/\Fv w' u (fs.map (bu p (bt.a*k0+bt.b*k1+bt.d*k2) bt))/\Below w.heap.size w w':=by
 have HF:=ac hf;have HFS:=ac hfs;have HBT0:=ac hbt;have HP:=ac hp;have HAD:=ac (fun(W:World)(hW:bk W ob p k0 k1 k2 sv)=>tM ob p k0 k1 k2 sv bt.a bt.b bt.d bt.z W hW (by have:=hbt.a;omega) (by have:=hbt.b;omega) (by have:=hbt.d;omega) h0 h1 h2);have HMO:Ma (-9007061815787520*3<=bt.a*k0+bt.b*k1+bt.d*k2/\bt.a*k0+bt.b*k1+bt.d*k2<=9007061815787520*3):=by obtain⟨m0,n0⟩:=iN (a:=bt.a) (k:=k0) (by have:=hbt.a;omega) h0;obtain⟨m1,n1⟩:=iN (a:=bt.b) (k:=k1) (by have:=hbt.b;omega) h1;obtain⟨m2,n2⟩:=iN (a:=bt.d) (k:=k2) (by have:=hbt.d;omega) h2;exact⟨by omega,by omega⟩
 generalize bt.a*k0+bt.b*k1+bt.d*k2=more at HAD HMO⊢;obtain⟨w1,hw1⟩:∃w1,w1=w.alloc (.cells #[.int .i64 bt.k,.int .u16 bt.a,.int .u16 bt.b,.int .u16 bt.d,.int .u16 bt.z,.int .u8 bt.pl,.int .u8 bt.c] 95):=⟨_,rfl⟩;have HB1:Ma (Below w.heap.size w w1):=by rw[hw1];exact bv
 have HX:Ma (eU w1 w.heap.size 0 bt):=by
  rw[hw1];exact mN λj u hj=>by
   have h:=kM w bt 95 j u hj;by_cases hj0:j=0
   .subst hj0;simpa [Addr.add] using h
   .simpa [Addr.add,hj0] using h
 have HOB:=ac (hob.below HB1.o);obtain⟨fa,fc,rfl,_,_⟩:=hf;clear hbt hfs hob h0 h1 h2 hp;unfold bX;unfold ci at HAD;obtain⟨i0,hi,hz0,hz1,hz2⟩:=info_parts Tryz.infoFt;obtain⟨x0,x1,x2,x3,x4,x5,x6⟩:=HX.o;simp only[Ly] at x1 x2 x3 x4 x5 x6;go_enter func118,ntmps118;go_wp2_with fail;rw[<-hw1];clear hw1;go_wp2_with (first|(go_at_call 142;refine(HAD.o _ HOB.o).mono ?_;rintro e w2 ⟨rfl,hb2⟩;have HB2:=ac hb2;clear hb2 x0 x1 x2 x3 x4 x5 x6)|(at_make;refine wpList_make_full _ rfl _ _ 92 rfl w2.heap.size 95 i0 _ 7 underlying92 hi hz0 hz1 .i64 .i64 _ _ fs.length rfl rfl rfl rfl (by rw[hz2];omega) (by unfold maxLen;omega) (Lc _) ?_;intro w3 hown hgrow;have HH0:=ac (gq.made hown hgrow);clear hown hgrow));clear hi hz0 hz1 hz2;go_loopw [20] (λi wr=>∃k:Nat,k<=fs.length/\i=.int .i64 k/\∃us:List Ft,us.length=k/\us=(fs.take k).map (bu p more bt)/\gq w2 wr w2.heap.size fs.length us) (λi _=>fs.length-(intOf i).toNat);case atStart=>exact⟨0,Ll _,rfl,[],rfl,by simp,HH0.o⟩
 case round=>
  clear HH0;obtain⟨k,hk,rfl,us,hus,hut,hh⟩:=hrel;have HH:=ac hh;have HUT:=ac hut;clear hh hut;have HDN:=ac (HB1.o.trans (HB2.o.mono HB1.o.size));have HDR:=ac (HDN.o.trans (HH.o.below.mono HDN.o.size));by_cases hk2:k<fs.length
  .obtain⟨b,off,rfl,hlt,_,hat⟩:=HF.o.at k hk2;have HTK:=ac (Kw fs k hk2);have HFO:=ac (HFS.o _ (Kx fs k hk2));generalize fs.getD k ke=t at hat HTK HFO;obtain⟨c0,c1,c2,c3,c4,c5,c6⟩:=hat.keep HDR.o;subst hus;have OT:Ma (eU (wr.alloc (.cells #[.int .i64 t.k,.int .u16 t.a,.int .u16 t.b,.int .u16 t.d,.int .u16 t.z,.int .u8 t.pl,.int .u8 t.c] 95)) wr.heap.size 0 t):=mN λj u hj=>by
    have h:=kM wr t 95 j u hj;by_cases hj0:j=0
    .subst hj0;simpa [Addr.add] using h
    .simpa [Addr.add,hj0] using h
   have HBT:Ma (Below wr.heap.size wr (wr.alloc (.cells #[.int .i64 t.k,.int .u16 t.a,.int .u16 t.b,.int .u16 t.d,.int .u16 t.z,.int .u8 t.pl,.int .u8 t.c] 95))):=bv;go_wp2;generalize wr.alloc (.cells #[.int .i64 t.k,.int .u16 t.a,.int .u16 t.b,.int .u16 t.d,.int .u16 t.z,.int .u8 t.pl,.int .u8 t.c] 95)=wt at OT HBT⊢;clear c0 c1 c2 c3 c4 c5 c6;have HDT:=ac ((HB2.o.trans (HH.o.below.mono HB2.o.size)).trans (HBT.o.mono (HB2.o.trans (HH.o.below.mono HB2.o.size)).size));have HHT:=ac (HH.o.next HBT.o);have KEEP:Ma (∀W,Below wt.heap.size wt W->(W.cell? ⟨wr.heap.size,0,none⟩=some (.int .i64 t.k)/\W.cell? ⟨wr.heap.size,1,none⟩=some (.int .u16 t.a)/\W.cell? ⟨wr.heap.size,2,none⟩=some (.int .u16 t.b)/\W.cell? ⟨wr.heap.size,3,none⟩=some (.int .u16 t.d)/\W.cell? ⟨wr.heap.size,4,none⟩=some (.int .u16 t.z)/\W.cell? ⟨wr.heap.size,5,none⟩=some (.int .u8 t.pl)/\W.cell? ⟨wr.heap.size,6,none⟩=some (.int .u8 t.c)/\W.cell? ⟨w.heap.size,1,none⟩=some (.int .u16 bt.a)/\W.cell? ⟨w.heap.size,2,none⟩=some (.int .u16 bt.b)/\W.cell? ⟨w.heap.size,3,none⟩=some (.int .u16 bt.d)/\W.cell? ⟨w.heap.size,4,none⟩=some (.int .u16 bt.z)/\W.cell? ⟨w.heap.size,6,none⟩=some (.int .u8 bt.c)/\Ma (bk W ob p k0 k1 k2 sv))):=λW h=>by obtain⟨y0,y1,y2,y3,y4,y5,y6⟩:=OT.o.keep h;obtain⟨z0,z1,z2,z3,z4,z5,z6⟩:=(HX.o.keep HDT.o).keep h;simp only[Ly] at y1 y2 y3 y4 y5 y6 z1 z2 z3 z4 z5 z6;exact⟨y0,y1,y2,y3,y4,y5,y6,z1,z2,z3,z4,z6,(HOB.o.below HDT.o).below h⟩
   have HNE:Ma (wr.heap.size≠w2.heap.size/\w.heap.size≠w2.heap.size/\ob≠w2.heap.size):=by have h1:=HH.o.lt;have h2:=HOB.o.lt;have h3:=HB2.o.size;have h4:=mt HX.o.1;simp only at h4;exact⟨by omega,by omega,by omega⟩
   have KEEPS:Ma (∀W,(W.cell? ⟨wr.heap.size,0,none⟩=some (.int .i64 t.k)/\W.cell? ⟨wr.heap.size,1,none⟩=some (.int .u16 t.a)/\W.cell? ⟨wr.heap.size,2,none⟩=some (.int .u16 t.b)/\W.cell? ⟨wr.heap.size,3,none⟩=some (.int .u16 t.d)/\W.cell? ⟨wr.heap.size,4,none⟩=some (.int .u16 t.z)/\W.cell? ⟨wr.heap.size,5,none⟩=some (.int .u8 t.pl)/\W.cell? ⟨wr.heap.size,6,none⟩=some (.int .u8 t.c)/\W.cell? ⟨w.heap.size,1,none⟩=some (.int .u16 bt.a)/\W.cell? ⟨w.heap.size,2,none⟩=some (.int .u16 bt.b)/\W.cell? ⟨w.heap.size,3,none⟩=some (.int .u16 bt.d)/\W.cell? ⟨w.heap.size,4,none⟩=some (.int .u16 bt.z)/\W.cell? ⟨w.heap.size,6,none⟩=some (.int .u8 bt.c)/\Ma (bk W ob p k0 k1 k2 sv))->((((((((W.setCell ⟨w2.heap.size,us.length*7,none⟩ (.int .i64 (t.k+more))).setCell ⟨w2.heap.size,us.length*7+1,none⟩ (.int .u16 (t.a+bt.a))).setCell ⟨w2.heap.size,us.length*7+2,none⟩ (.int .u16 (t.b+bt.b))).setCell ⟨w2.heap.size,us.length*7+3,none⟩ (.int .u16 (t.d+bt.d))).setCell ⟨w2.heap.size,us.length*7+4,none⟩ (.int .u16 (t.z+bt.z))).setCell ⟨w2.heap.size,us.length*7+5,none⟩ (.int .u8 t.pl)).setCell ⟨w2.heap.size,us.length*7+6,none⟩ (.int .u8 (t.c*bt.c%p))).cell? ⟨wr.heap.size,0,none⟩=some (.int .i64 t.k)/\(((((((W.setCell ⟨w2.heap.size,us.length*7,none⟩ (.int .i64 (t.k+more))).setCell ⟨w2.heap.size,us.length*7+1,none⟩ (.int .u16 (t.a+bt.a))).setCell ⟨w2.heap.size,us.length*7+2,none⟩ (.int .u16 (t.b+bt.b))).setCell ⟨w2.heap.size,us.length*7+3,none⟩ (.int .u16 (t.d+bt.d))).setCell ⟨w2.heap.size,us.length*7+4,none⟩ (.int .u16 (t.z+bt.z))).setCell ⟨w2.heap.size,us.length*7+5,none⟩ (.int .u8 t.pl)).setCell ⟨w2.heap.size,us.length*7+6,none⟩ (.int .u8 (t.c*bt.c%p))).cell? ⟨wr.heap.size,1,none⟩=some (.int .u16 t.a)/\(((((((W.setCell ⟨w2.heap.size,us.length*7,none⟩ (.int .i64 (t.k+more))).setCell ⟨w2.heap.size,us.length*7+1,none⟩ (.int .u16 (t.a+bt.a))).setCell ⟨w2.heap.size,us.length*7+2,none⟩ (.int .u16 (t.b+bt.b))).setCell ⟨w2.heap.size,us.length*7+3,none⟩ (.int .u16 (t.d+bt.d))).setCell ⟨w2.heap.size,us.length*7+4,none⟩ (.int .u16 (t.z+bt.z))).setCell ⟨w2.heap.size,us.length*7+5,none⟩ (.int .u8 t.pl)).setCell ⟨w2.heap.size,us.length*7+6,none⟩ (.int .u8 (t.c*bt.c%p))).cell? ⟨wr.heap.size,2,none⟩=some (.int .u16 t.b)/\(((((((W.setCell ⟨w2.heap.size,us.length*7,none⟩ (.int .i64 (t.k+more))).setCell ⟨w2.heap.size,us.length*7+1,none⟩ (.int .u16 (t.a+bt.a))).setCell ⟨w2.heap.size,us.length*7+2,none⟩ (.int .u16 (t.b+bt.b))).setCell ⟨w2.heap.size,us.length*7+3,none⟩ (.int .u16 (t.d+bt.d))).setCell ⟨w2.heap.size,us.length*7+4,none⟩ (.int .u16 (t.z+bt.z))).setCell ⟨w2.heap.size,us.length*7+5,none⟩ (.int .u8 t.pl)).setCell ⟨w2.heap.size,us.length*7+6,none⟩ (.int .u8 (t.c*bt.c%p))).cell? ⟨wr.heap.size,3,none⟩=some (.int .u16 t.d)/\(((((((W.setCell ⟨w2.heap.size,us.length*7,none⟩ (.int .i64 (t.k+more))).setCell ⟨w2.heap.size,us.length*7+1,none⟩ (.int .u16 (t.a+bt.a))).setCell ⟨w2.heap.size,us.length*7+2,none⟩ (.int .u16 (t.b+bt.b))).setCell ⟨w2.heap.size,us.length*7+3,none⟩ (.int .u16 (t.d+bt.d))).setCell ⟨w2.heap.size,us.length*7+4,none⟩ (.int .u16 (t.z+bt.z))).setCell ⟨w2.heap.size,us.length*7+5,none⟩ (.int .u8 t.pl)).setCell ⟨w2.heap.size,us.length*7+6,none⟩ (.int .u8 (t.c*bt.c%p))).cell? ⟨wr.heap.size,4,none⟩=some (.int .u16 t.z)/\(((((((W.setCell ⟨w2.heap.size,us.length*7,none⟩ (.int .i64 (t.k+more))).setCell ⟨w2.heap.size,us.length*7+1,none⟩ (.int .u16 (t.a+bt.a))).setCell ⟨w2.heap.size,us.length*7+2,none⟩ (.int .u16 (t.b+bt.b))).setCell ⟨w2.heap.size,us.length*7+3,none⟩ (.int .u16 (t.d+bt.d))).setCell ⟨w2.heap.size,us.length*7+4,none⟩ (.int .u16 (t.z+bt.z))).setCell ⟨w2.heap.size,us.length*7+5,none⟩ (.int .u8 t.pl)).setCell ⟨w2.heap.size,us.length*7+6,none⟩ (.int .u8 (t.c*bt.c%p))).cell? ⟨wr.heap.size,5,none⟩=some (.int .u8 t.pl)/\(((((((W.setCell ⟨w2.heap.size,us.length*7,none⟩ (.int .i64 (t.k+more))).setCell ⟨w2.heap.size,us.length*7+1,none⟩ (.int .u16 (t.a+bt.a))).setCell ⟨w2.heap.size,us.length*7+2,none⟩ (.int .u16 (t.b+bt.b))).setCell ⟨w2.heap.size,us.length*7+3,none⟩ (.int .u16 (t.d+bt.d))).setCell ⟨w2.heap.size,us.length*7+4,none⟩ (.int .u16 (t.z+bt.z))).setCell ⟨w2.heap.size,us.length*7+5,none⟩ (.int .u8 t.pl)).setCell ⟨w2.heap.size,us.length*7+6,none⟩ (.int .u8 (t.c*bt.c%p))).cell? ⟨wr.heap.size,6,none⟩=some (.int .u8 t.c)/\(((((((W.setCell ⟨w2.heap.size,us.length*7,none⟩ (.int .i64 (t.k+more))).setCell ⟨w2.heap.size,us.length*7+1,none⟩ (.int .u16 (t.a+bt.a))).setCell ⟨w2.heap.size,us.length*7+2,none⟩ (.int .u16 (t.b+bt.b))).setCell ⟨w2.heap.size,us.length*7+3,none⟩ (.int .u16 (t.d+bt.d))).setCell ⟨w2.heap.size,us.length*7+4,none⟩ (.int .u16 (t.z+bt.z))).setCell ⟨w2.heap.size,us.length*7+5,none⟩ (.int .u8 t.pl)).setCell ⟨w2.heap.size,us.length*7+6,none⟩ (.int .u8 (t.c*bt.c%p))).cell? ⟨w.heap.size,1,none⟩=some (.int .u16 bt.a)/\(((((((W.setCell ⟨w2.heap.size,us.length*7,none⟩ (.int .i64 (t.k+more))).setCell ⟨w2.heap.size,us.length*7+1,none⟩ (.int .u16 (t.a+bt.a))).setCell ⟨w2.heap.size,us.length*7+2,none⟩ (.int .u16 (t.b+bt.b))).setCell ⟨w2.heap.size,us.length*7+3,none⟩ (.int .u16 (t.d+bt.d))).setCell ⟨w2.heap.size,us.length*7+4,none⟩ (.int .u16 (t.z+bt.z))).setCell ⟨w2.heap.size,us.length*7+5,none⟩ (.int .u8 t.pl)).setCell ⟨w2.heap.size,us.length*7+6,none⟩ (.int .u8 (t.c*bt.c%p))).cell? ⟨w.heap.size,2,none⟩=some (.int .u16 bt.b)/\(((((((W.setCell ⟨w2.heap.size,us.length*7,none⟩ (.int .i64 (t.k+more))).setCell ⟨w2.heap.size,us.length*7+1,none⟩ (.int .u16 (t.a+bt.a))).setCell ⟨w2.heap.size,us.length*7+2,none⟩ (.int .u16 (t.b+bt.b))).setCell ⟨w2.heap.size,us.length*7+3,none⟩ (.int .u16 (t.d+bt.d))).setCell ⟨w2.heap.size,us.length*7+4,none⟩ (.int .u16 (t.z+bt.z))).setCell ⟨w2.heap.size,us.length*7+5,none⟩ (.int .u8 t.pl)).setCell ⟨w2.heap.size,us.length*7+6,none⟩ (.int .u8 (t.c*bt.c%p))).cell? ⟨w.heap.size,3,none⟩=some (.int .u16 bt.d)/\(((((((W.setCell ⟨w2.heap.size,us.length*7,none⟩ (.int .i64 (t.k+more))).setCell ⟨w2.heap.size,us.length*7+1,none⟩ (.int .u16 (t.a+bt.a))).setCell ⟨w2.heap.size,us.length*7+2,none⟩ (.int .u16 (t.b+bt.b))).setCell ⟨w2.heap.size,us.length*7+3,none⟩ (.int .u16 (t.d+bt.d))).setCell ⟨w2.heap.size,us.length*7+4,none⟩ (.int .u16 (t.z+bt.z))).setCell ⟨w2.heap.size,us.length*7+5,none⟩ (.int .u8 t.pl)).setCell ⟨w2.heap.size,us.length*7+6,none⟩ (.int .u8 (t.c*bt.c%p))).cell? ⟨w.heap.size,4,none⟩=some (.int .u16 bt.z)/\(((((((W.setCell ⟨w2.heap.size,us.length*7,none⟩ (.int .i64 (t.k+more))).setCell ⟨w2.heap.size,us.length*7+1,none⟩ (.int .u16 (t.a+bt.a))).setCell ⟨w2.heap.size,us.length*7+2,none⟩ (.int .u16 (t.b+bt.b))).setCell ⟨w2.heap.size,us.length*7+3,none⟩ (.int .u16 (t.d+bt.d))).setCell ⟨w2.heap.size,us.length*7+4,none⟩ (.int .u16 (t.z+bt.z))).setCell ⟨w2.heap.size,us.length*7+5,none⟩ (.int .u8 t.pl)).setCell ⟨w2.heap.size,us.length*7+6,none⟩ (.int .u8 (t.c*bt.c%p))).cell? ⟨w.heap.size,6,none⟩=some (.int .u8 bt.c)/\Ma (bk (((((((W.setCell ⟨w2.heap.size,us.length*7,none⟩ (.int .i64 (t.k+more))).setCell ⟨w2.heap.size,us.length*7+1,none⟩ (.int .u16 (t.a+bt.a))).setCell ⟨w2.heap.size,us.length*7+2,none⟩ (.int .u16 (t.b+bt.b))).setCell ⟨w2.heap.size,us.length*7+3,none⟩ (.int .u16 (t.d+bt.d))).setCell ⟨w2.heap.size,us.length*7+4,none⟩ (.int .u16 (t.z+bt.z))).setCell ⟨w2.heap.size,us.length*7+5,none⟩ (.int .u8 t.pl)).setCell ⟨w2.heap.size,us.length*7+6,none⟩ (.int .u8 (t.c*bt.c%p))) ob p k0 k1 k2 sv))):=λW h=>by
    obtain⟨y0,y1,y2,y3,y4,y5,y6,z1,z2,z3,z4,z6,hO⟩:=h;obtain⟨n1,n2,n3⟩:=HNE.o;have F:∀b o,b≠w2.heap.size->(((((((W.setCell ⟨w2.heap.size,us.length*7,none⟩ (.int .i64 (t.k+more))).setCell ⟨w2.heap.size,us.length*7+1,none⟩ (.int .u16 (t.a+bt.a))).setCell ⟨w2.heap.size,us.length*7+2,none⟩ (.int .u16 (t.b+bt.b))).setCell ⟨w2.heap.size,us.length*7+3,none⟩ (.int .u16 (t.d+bt.d))).setCell ⟨w2.heap.size,us.length*7+4,none⟩ (.int .u16 (t.z+bt.z))).setCell ⟨w2.heap.size,us.length*7+5,none⟩ (.int .u8 t.pl)).setCell ⟨w2.heap.size,us.length*7+6,none⟩ (.int .u8 (t.c*bt.c%p))).cell? ⟨b,o,none⟩=W.cell? ⟨b,o,none⟩:=λb o h=>Kv (t:=bu p more bt t) (k:=us.length) h;refine⟨?_,?_,?_,?_,?_,?_,?_,?_,?_,?_,?_,?_,?_⟩
    .rw[F _ _ n1];exact y0
    .rw[F _ _ n1];exact y1
    .rw[F _ _ n1];exact y2
    .rw[F _ _ n1];exact y3
    .rw[F _ _ n1];exact y4
    .rw[F _ _ n1];exact y5
    .rw[F _ _ n1];exact y6
    .rw[F _ _ n2];exact z1
    .rw[F _ _ n2];exact z2
    .rw[F _ _ n2];exact z3
    .rw[F _ _ n2];exact z4
    .rw[F _ _ n2];exact z6
    .exact⟨by simpa using hO.o.lt,by rw[F _ _ n3];exact hO.o.c0,by rw[F _ _ n3];exact hO.o.c1,by rw[F _ _ n3];exact hO.o.c2,by rw[F _ _ n3];exact hO.o.c3,by rw[F _ _ n3];exact hO.o.c4⟩
   have HB0:Ma (Below wt.heap.size wt wt.drew):=(Lf _ _).drew;have HTM:=ac (fun(W:World)=>Kr t.a t.b t.d t.z bt.a bt.b bt.d bt.z W (by have h1:=HFO.o.a;have h2:=HBT0.o.a;omega) (by have h1:=HFO.o.b;have h2:=HBT0.o.b;omega) (by have h1:=HFO.o.d;have h2:=HBT0.o.d;omega) (by have h1:=HFO.o.z;have h2:=HBT0.o.z;omega));unfold ci at HTM;have HTI:=ac (fun(W:World)(hW:bk W ob p k0 k1 k2 sv)=>yQ ob p k0 k1 k2 sv t.c bt.c W hW HP.o (by have h1:=HFO.o.c;have h2:=HP.o;omega) (by have h1:=HBT0.o.c;have h2:=HP.o;omega));obtain⟨mq0,mq1⟩:=HMO.o;obtain⟨kq0,kq1⟩:=HFO.o.k;have hwk:IntKind.i64.wrap (t.k+more)=t.k+more:=by rw[IntKind.wrap_i64];omega
   clear mq0 mq1 kq0 kq1;go_region_held (λW=>W.cell? ⟨wr.heap.size,0,none⟩=some (.int .i64 t.k)/\W.cell? ⟨wr.heap.size,1,none⟩=some (.int .u16 t.a)/\W.cell? ⟨wr.heap.size,2,none⟩=some (.int .u16 t.b)/\W.cell? ⟨wr.heap.size,3,none⟩=some (.int .u16 t.d)/\W.cell? ⟨wr.heap.size,4,none⟩=some (.int .u16 t.z)/\W.cell? ⟨wr.heap.size,5,none⟩=some (.int .u8 t.pl)/\W.cell? ⟨wr.heap.size,6,none⟩=some (.int .u8 t.c)/\W.cell? ⟨w.heap.size,1,none⟩=some (.int .u16 bt.a)/\W.cell? ⟨w.heap.size,2,none⟩=some (.int .u16 bt.b)/\W.cell? ⟨w.heap.size,3,none⟩=some (.int .u16 bt.d)/\W.cell? ⟨w.heap.size,4,none⟩=some (.int .u16 bt.z)/\W.cell? ⟨w.heap.size,6,none⟩=some (.int .u8 bt.c)/\Ma (bk W ob p k0 k1 k2 sv))
    (first|with_reducible exact KEEP.o _ HB0.o|with_reducible exact KEEP.o _ HB8.o|with_reducible exact KEEPS.o w9 (KEEP.o _ HB8.o))
    (first|(go_at_call 147;refine(HTM.o _).mono ?_;rintro e w8 ⟨rfl,hb8⟩;have HB8:=ac (HB0.o.trans (hb8.mono HB0.o.size));have HH8:=ac (HHT.o.next HB8.o);obtain⟨⟨v0,f0⟩,g0⟩:=HH8.o.cell (us.length*7) (by omega);obtain⟨⟨v1,f1⟩,g1⟩:=HH8.o.cell (us.length*7+1) (by omega);obtain⟨⟨v2,f2⟩,g2⟩:=HH8.o.cell (us.length*7+2) (by omega);obtain⟨⟨v3,f3⟩,g3⟩:=HH8.o.cell (us.length*7+3) (by omega);obtain⟨⟨v4,f4⟩,g4⟩:=HH8.o.cell (us.length*7+4) (by omega);obtain⟨⟨v5,f5⟩,g5⟩:=HH8.o.cell (us.length*7+5) (by omega);obtain⟨⟨v6,f6⟩,g6⟩:=HH8.o.cell (us.length*7+6) (by omega);clear hb8)|(go_at_call 129;refine(HTI.o _ (KEEP.o _ HB8.o).2.2.2.2.2.2.2.2.2.2.2.2.o).mono ?_;rintro e w9 ⟨rfl,rfl⟩))
   all_goals
    go_wp2;go_roundw;case rel=>exact⟨us.length+1,by omega,by go_num,us++[bu p more bt t],by simp,by rw[HTK.o,LO,<-HUT.o];rfl,HH8.o.put hk2 (bu p more bt t)⟩
    case measure=>simp[intOf];omega
  .have e:k=fs.length:=by omega
   subst e;go_wp2;go_ret;refine⟨_,rfl,?_,HDR.o⟩;have h:=HH.o.done hus;rw[HUT.o,Lz (Lc _)] at h;exact h
end Go.Proofs.YteimdcndjjclnaaGreat
