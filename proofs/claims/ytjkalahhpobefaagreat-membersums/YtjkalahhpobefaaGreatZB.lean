/- The program's small. -/
import Derived.Test.YtjkalahhpobefaaGreatPI
set_option maxHeartbeats 2000000
set_option maxRecDepth 100000
namespace Go.Proofs.YtjkalahhpobefaaGreat
set_option linter.all false
open Go.Proofs.Tryz Go.RowKit
def kN(o:Int)(i:Nat):Int:=if i=0 then W0 o else if i=1 then W1 o else W2 o
theorem NJ(o:Int)(i:Nat)(w:PJ)(ho:o=1\/o=2)(hi:i<3):Calls prog 78 #[PO o,PO i] w λe w'=>e=.returned (PO (kN o i))/\w'=w:=by
 have h:i=0\/i=1\/i=2:=by omega
 rcases ho with rfl|rfl<;>rcases h with rfl|rfl|rfl<;>
 .go_enter func78,ntmps78;go_wp2;go_ret;exact⟨rfl,rfl⟩
theorem D3(ov:Int)(i:Nat)(w:PJ)(ho:ov=1\/ov=2)(hi:i<255):Calls prog 79 #[PO ov,PO i] w λe w'=>e=.returned (PO (bS ov i))/\w'=w:=by
 rcases ho with rfl|rfl
 .go_enter func79,ntmps79;go_wp2;go_ret;exact⟨rfl,rfl⟩
 .go_enter func79,ntmps79;go_wp2;go_ret;exact⟨rfl,rfl⟩
structure aQ(w:PJ)(ob:Nat)(p k0 k1 k2:Int)(sv:PK):Prop where
 lt:ob<w.heap.size
 c0:w.cell? (PN ob 0)=some (.int .u32 p)
 c1:w.cell? (PN ob 1)=some (PO k0)
 c2:w.cell? (PN ob 2)=some (PO k1)
 c3:w.cell? (PN ob 3)=some (PO k2)
 c4:w.cell? (PN ob 4)=some sv
variable{p:Int}{w w':PJ}
theorem aQ.below{ob:Nat}{k0 k1 k2:Int}{sv:PK}(h:aQ w ob p k0 k1 k2 sv)(hb:Io w w'):aQ w' ob p k0 k1 k2 sv:=
 ⟨Oz h.lt hb.size,af h.c0 hb,af h.c1 hb,af h.c2 hb,af h.c3 hb,af h.c4 hb⟩
def cw(a b d z:Int):PK:=.agg #[PP a,PP b,PP d,PP z]
def lU(a b d k0 k1 k2:Int)(k:Nat):Int:=if k=0 then 0 else if k=1 then a*k0 else if k=2 then a*k0+b*k1 else a*k0+b*k1+d*k2
variable{a:Int}
theorem i8{k:Int}(ha:0<=a/\a<=65535)(hk:0<=k/\k<=137438953472):0<=a*k/\a*k<=9007061815787520:=by obtain⟨h1,h2⟩:=ha;obtain⟨h3,h4⟩:=hk;refine⟨Int.mul_nonneg h1 h3,?_⟩;have:a*k<=65535*137438953472:=Int.mul_le_mul h2 h4 h3 (by omega);omega
theorem vG(ob:Nat)(p k0 k1 k2:Int)(sv:PK)(a b d z:Int)(w:PJ)(ho:aQ w ob p k0 k1 k2 sv)(ha:0<=a/\a<=65535)(hb:0<=b/\b<=65535)(hd:0<=d/\d<=65535)(h0:0<=k0/\k0<=137438953472)(h1:0<=k1/\k1<=137438953472)(h2:0<=k2/\k2<=137438953472):Calls prog 111 #[PL ob,cw a b d z] w λe w'=>e=.returned (PO (a*k0+b*k1+d*k2))/\Io w w':=by
 obtain⟨m0,n0⟩:=i8 ha h0;obtain⟨m1,n1⟩:=i8 hb h1;obtain⟨m2,n2⟩:=i8 hd h2;obtain⟨hlt,c0,c1,c2,c3,c4⟩:=ho;obtain⟨w1,hw1⟩:∃w1,w1=w.alloc (.cells #[PP a,PP b,PP d,PP z] 86):=⟨_,rfl⟩;have HB:Po (Io w w1):=by rw[hw1];exact aY
 have x0:w1.cell? (PN w.heap.size 0)=some (PP a):=by rw[hw1];simp[go_sem]
 have x1:w1.cell? (PN w.heap.size 1)=some (PP b):=by rw[hw1];simp[go_sem]
 have x2:w1.cell? (PN w.heap.size 2)=some (PP d):=by rw[hw1];simp[go_sem]
 have i0:∀w,(Instr.index 119 (.agg #[PO k0,PO k1,PO k2]) (PO 0)).run prog w=.ok (PO k0) w:=λ_=>by kernel_rfl
 have i1:∀w,(Instr.index 119 (.agg #[PO k0,PO k1,PO k2]) (PO 1)).run prog w=.ok (PO k1) w:=λ_=>by kernel_rfl
 have i2:∀w,(Instr.index 119 (.agg #[PO k0,PO k1,PO k2]) (PO 2)).run prog w=.ok (PO k2) w:=λ_=>by kernel_rfl
 unfold cw;go_enter func111,ntmps111;go_wp2_with fail;rw[<-hw1];clear hw1;go_loopw [5,12] (λs i wr=>∃k:Nat,k<=3/\i=PO k/\s=PO (lU a b d k0 k1 k2 k)/\wr=w1) (λ_ i _=>3-(intOf i).toNat);case atStart=>exact⟨0,by omega,rfl,rfl,rfl⟩
 case round=>
  obtain⟨k,hk,rfl,rfl,rfl⟩:=hrel;have h:k=0\/k=1\/k=2\/k=3:=by omega
  rcases h with rfl|rfl|rfl|rfl
  .simp only[lU,if_true];rw[show ((0:Nat):Int)=0 from rfl];go_wp2;go_roundw;case rel=>exact⟨1,by omega,rfl,by simp[lU],by first|rfl|trivial⟩
   case measure=>simp[intOf]
  .simp only[lU,if_true,show¬(1=0) from by decide,if_false];rw[show ((1:Nat):Int)=1 from rfl];go_wp2;go_roundw;case rel=>exact⟨2,by omega,rfl,by simp[lU],by first|rfl|trivial⟩
   case measure=>simp[intOf]
  .simp only[lU,if_true,show¬(2=0) from by decide,show¬(2=1) from by decide,if_false];rw[show ((2:Nat):Int)=2 from rfl];go_wp2;go_roundw;case rel=>exact⟨3,by omega,rfl,by simp[lU],by first|rfl|trivial⟩
   case measure=>simp[intOf]
  .simp only[lU,if_true,show¬(3=0) from by decide,show¬(3=1) from by decide,show¬(3=2) from by decide,if_false];rw[show ((3:Nat):Int)=3 from rfl];go_wp2;go_ret;exact⟨rfl,HB.o⟩
structure Ft where
 k:Int
 a:Int
 b:Int
 d:Int
 z:Int
 pl:Int
 c:Int
abbrev PB:=List Ft
abbrev PC:=List PB
def aB(t:Ft):PH:=[PO t.k,PP t.a,PP t.b,PP t.d,PP t.z,PQ t.pl,PQ t.c]
def aX(t:Ft):PK:=.agg #[PO t.k,PP t.a,PP t.b,PP t.d,PP t.z,PQ t.pl,PQ t.c]
theorem D4(hp:2<=p/\p<=101):0<=a%p/\a%p<p:=⟨Int.emod_nonneg _ (by omega),Int.emod_lt_of_pos _ (by omega)⟩
theorem NK{b:Int}(ha:0<=a/\a<=255)(hb:0<=b/\b<=255):0<=a*b/\a*b<=65025:=by obtain⟨h1,h2⟩:=ha;obtain⟨h3,h4⟩:=hb;refine⟨Int.mul_nonneg h1 h3,?_⟩;have:a*b<=255*255:=Int.mul_le_mul h2 h4 h3 (by omega);omega
theorem Cm(ob:Nat)(p k0 k1 k2:Int)(sv:PK)(a b:Int)(w:PJ)(ho:aQ w ob p k0 k1 k2 sv)(hp:2<=p/\p<=101)(ha:0<=a/\a<=255)(hb:0<=b/\b<=255):Calls prog 113 #[PL ob,PQ a,PQ b] w λe w'=>e=.returned (PQ (a*b%p))/\w'=w:=by
 obtain⟨m0,n0⟩:=NK ha hb;obtain⟨q0,q1⟩:=D4 (a:=a*b) hp;obtain⟨hp0,hp1⟩:=hp;have hpz:¬p=0:=by omega
 obtain⟨hlt,c0,c1,c2,c3,c4⟩:=ho;go_enter func113,ntmps113;go_wp2;go_ret;exact⟨rfl,rfl⟩
theorem vN(ob:Nat)(p k0 k1 k2:Int)(sv:PK)(a:Int)(w:PJ)(ho:aQ w ob p k0 k1 k2 sv)(hp:2<=p/\p<=101)(ha:0<a/\a<p):Calls prog 72 #[PL ob,PQ a] w λe w'=>e=.returned (PQ (p-a))/\w'=w:=by obtain⟨hp0,hp1⟩:=hp;obtain⟨ha0,ha1⟩:=ha;obtain⟨hlt,c0,c1,c2,c3,c4⟩:=ho;go_enter func72,ntmps72;go_wp2;go_ret;exact⟨rfl,rfl⟩
theorem n7{A B C:Obj}:Io w (((w.alloc A).alloc B).alloc C):=((ai (w:=w) (A:=A)).alloc (by simp) _).alloc (by simp;omega) _
theorem rJ(a b d z a2 b2 d2 z2:Int)(w:PJ)(ha:0<=a2/\a2<=a/\a<=65535)(hb:0<=b2/\b2<=b/\b<=65535)(hd:0<=d2/\d2<=d/\d<=65535)(hz:0<=z2/\z2<=z/\z<=65535):Calls prog 122 #[cw a b d z,cw a2 b2 d2 z2] w λe w'=>e=.returned (cw (a-a2) (b-b2) (d-d2) (z-z2))/\Io w w':=by obtain⟨ha0,ha1,ha2⟩:=ha;obtain⟨hb0,hb1,hb2⟩:=hb;obtain⟨hd0,hd1,hd2⟩:=hd;obtain⟨hz0,hz1,hz2⟩:=hz;unfold cw;go_enter func122,ntmps122;go_wp2;refine OC (v:=.agg #[PP (a-a2),PP (b-b2),PP (d-d2),PP (z-z2)]) (by simp[results,Tryz.results122,go_sem]) rfl ⟨rfl,n7⟩
theorem NL(a b d z a2 b2 d2 z2:Int)(w:PJ)(ha:0<=a/\0<=a2/\a+a2<=65535)(hb:0<=b/\0<=b2/\b+b2<=65535)(hd:0<=d/\0<=d2/\d+d2<=65535)(hz:0<=z/\0<=z2/\z+z2<=65535):Calls prog 112 #[cw a b d z,cw a2 b2 d2 z2] w λe w'=>e=.returned (cw (a+a2) (b+b2) (d+d2) (z+z2))/\Io w w':=by obtain⟨ha0,ha1,ha2⟩:=ha;obtain⟨hb0,hb1,hb2⟩:=hb;obtain⟨hd0,hd1,hd2⟩:=hd;obtain⟨hz0,hz1,hz2⟩:=hz;unfold cw;go_enter func112,ntmps112;go_wp2;refine OC (v:=.agg #[PP (a+a2),PP (b+b2),PP (d+d2),PP (z+z2)]) (by simp[results,Tryz.results112,go_sem]) rfl ⟨rfl,n7⟩
def eN(a b d z a2 b2 d2 z2:Int):Bool:=decide (a<=a2)&&decide (b<=b2)&&decide (d<=d2)&&decide (z<=z2)
theorem vI(a b d z a2 b2 d2 z2:Int)(w:PJ):Calls prog 158 #[cw a b d z,cw a2 b2 d2 z2] w λe w'=>e=.returned (.bool (eN a b d z a2 b2 d2 z2))/\Io w w':=by
 unfold cw eN;by_cases h1:a<=a2
 rotate_left
 .have d1:=Ox h1;rw[d1];go_enter func158,ntmps158;go_wp2;go_ret;exact⟨rfl,cY⟩
 by_cases h2:b<=b2
 rotate_left
 .have d1:=Oy h1;have d2:=Ox h2;rw[d1,d2];go_enter func158,ntmps158;go_wp2;go_ret;exact⟨rfl,cY⟩
 by_cases h3:d<=d2
 rotate_left
 .have d1:=Oy h1;have d3:=Oy h2;have d4:=Ox h3;rw[d1,d3,d4];go_enter func158,ntmps158;go_wp2;go_ret;exact⟨rfl,cY⟩
 have d1:=Oy h1;have d3:=Oy h2;have d4:=Oy h3;rw[d1,d3,d4];go_enter func158,ntmps158;go_wp2;go_ret;exact⟨by simp,cY⟩
theorem nY(hpr:bA p=0)(ha:0<a/\a<p):1<=aV p a/\aV p a<p/\a*aV p a%p=1:=by obtain⟨hp1,hp2,hd⟩:=uE hpr;obtain⟨pn,rfl⟩:∃n:Nat,p=n:=⟨p.toNat,by omega⟩;obtain⟨an,rfl⟩:∃n:Nat,a=n:=⟨a.toNat,by omega⟩;have h:=F3 (p:=pn) (a:=an) (by omega) (by omega) (by simpa [lW] using hd) (by omega) (by omega);simp only[uG,Bool.and_eq_true,decide_eq_true_eq,beq_iff_eq] at h;obtain⟨⟨⟨h1,h2⟩,h3⟩,_⟩:=h;have e:aV (pn:Int) (an:Int)=((ky pn an:Nat):Int):=rfl;rw[e];refine⟨by omega,by omega,?_⟩;have h4:((an*ky pn an%pn:Nat):Int)=((1%pn:Nat):Int):=congrArg _ h3;rw[Nat.mod_eq_of_lt (show 1<pn by omega)] at h4;simpa [Int.natCast_emod,Int.natCast_mul] using h4
theorem A8(ob:Nat)(p k0 k1 k2:Int)(sv:PK)(a:Int)(w:PJ)(ho:aQ w ob p k0 k1 k2 sv)(hpr:bA p=0)(ha:0<a/\a<p):Calls prog 118 #[PL ob,PQ a] w λe w'=>e=.returned (PQ (aV p a))/\Io w w':=by
 obtain⟨hp1,hp2,_⟩:=uE hpr;obtain⟨i0,i1,_⟩:=nY hpr ha;obtain⟨ha0,ha1⟩:=ha;have hn:gw p [a]=0:=by unfold gw;rw[OW hpr,OV];simp[gQ];omega
 have e1:jS p a=0:=by unfold jS;rw[OW hn,OV (by omega)]
 have e2:kz p a=aV p a:=by unfold kz;rw[OW e1]
 have HI:=ae (F7 p a w);rw[e1,e2] at HI;clear e1 e2 hn hpr;obtain⟨hlt,c0,c1,c2,c3,c4⟩:=ho;generalize aV p a=q at*;go_enter func118,ntmps118;go_wp2_with (go_at_call 152;refine HI.o.mono ?_;rintro e w1 ⟨rfl,hb1⟩;have HB1:=ae hb1;clear hb1);go_ret;exact⟨rfl,HB1.o⟩
structure kF(w:PJ)(b off:Nat)(t:Ft)(rv:PK)(num inv:Int):Prop where
 lt:b<w.heap.size
 cs:∀j u,(aB t)[j]?=some u->w.cell? (PN b (off+j))=some u
 c7:w.cell? (PN b (off+7))=some rv
 c8:w.cell? (PN b (off+8))=some (PO num)
 c9:w.cell? (PN b (off+9))=some (PQ inv)
variable{num inv:Int}{rv:PK}{t:Ft}{b off:Nat}
theorem kF.below(h:kF w b off t rv num inv)(hb:Io w w'):kF w' b off t rv num inv:=
 ⟨Oz h.lt hb.size,λj u hj=>af (h.cs j u hj) hb,af h.c7 hb,af h.c8 hb,af h.c9 hb⟩
theorem kF.cells(h:kF w b off t rv num inv):w.cell? (PN b off)=some (PO t.k)/\w.cell? (PN b (off+1))=some (PP t.a)/\w.cell? (PN b (off+2))=some (PP t.b)/\w.cell? (PN b (off+3))=some (PP t.d)/\w.cell? (PN b (off+4))=some (PP t.z)/\w.cell? (PN b (off+5))=some (PQ t.pl)/\w.cell? (PN b (off+6))=some (PQ t.c):=
 ⟨h.cs 0 _ rfl,h.cs 1 _ rfl,h.cs 2 _ rfl,h.cs 3 _ rfl,h.cs 4 _ rfl,h.cs 5 _ rfl,h.cs 6 _ rfl⟩
def cA(l t:Ft):Bool:=decide (l.pl=t.pl)&&eN l.a l.b l.d l.z t.a t.b t.d t.z
theorem Bn(b off:Nat)(l t:Ft)(rv:PK)(num inv:Int)(w:PJ)(hd:kF w b off l rv num inv):Calls prog 123 #[.pointer (some (PN b off)),aX t] w λe w'=>e=.returned (.bool (cA l t))/\Io w w':=by
 obtain⟨c0,c1,c2,c3,c4,c5,c6⟩:=hd.cells;obtain⟨w1,hw1⟩:∃w1,w1=w.alloc (.cells #[PO t.k,PP t.a,PP t.b,PP t.d,PP t.z,PQ t.pl,PQ t.c] 88):=⟨_,rfl⟩;have HB:Po (Io w w1):=by rw[hw1];exact aY
 have HX:Po (w1.cell? (PN w.heap.size 1)=some (PP t.a)/\w1.cell? (PN w.heap.size 2)=some (PP t.b)/\w1.cell? (PN w.heap.size 3)=some (PP t.d)/\w1.cell? (PN w.heap.size 4)=some (PP t.z)/\w1.cell? (PN w.heap.size 5)=some (PQ t.pl)):=by rw[hw1];exact ae ⟨by simp[go_sem],by simp[go_sem],by simp[go_sem],by simp[go_sem],by simp[go_sem]⟩
 have y1:=af c1 HB.o;have y2:=af c2 HB.o;have y3:=af c3 HB.o;have y4:=af c4 HB.o;have y5:=af c5 HB.o;obtain⟨x1,x2,x3,x4,x5⟩:=HX.o;have KEEP:Po (∀W,Io w1 W->(Po (Io w1 W)/\W.cell? (PN b (off+1))=some (PP l.a)/\W.cell? (PN b (off+2))=some (PP l.b)/\W.cell? (PN b (off+3))=some (PP l.d)/\W.cell? (PN b (off+4))=some (PP l.z)/\W.cell? (PN b (off+5))=some (PQ l.pl)/\W.cell? (PN w.heap.size 1)=some (PP t.a)/\W.cell? (PN w.heap.size 2)=some (PP t.b)/\W.cell? (PN w.heap.size 3)=some (PP t.d)/\W.cell? (PN w.heap.size 4)=some (PP t.z)/\W.cell? (PN w.heap.size 5)=some (PQ t.pl))):=
  λW h=>⟨h,af y1 h,af y2 h,af y3 h,af y4 h,af y5 h,af x1 h,af x2 h,af x3 h,af x4 h,af x5 h⟩
 have HB0:Po (Io w1 w1.drew):=(Ov _ _).drew;unfold aX cA;clear c0 c1 c2 c3 c4 c5 c6 HX hd;by_cases h:l.pl=t.pl
 .have hb:(l.pl==t.pl)=true:=by simpa using h
  have HE:=ae (vI l.a l.b l.d l.z t.a t.b t.d t.z);rw[Oy h,Bool.true_and];clear h y1 y2 y3 y4 y5 x1 x2 x3 x4 x5;unfold cw at HE;go_enter func123,ntmps123;go_wp2_with fail;rw[<-hw1];clear hw1;go_region_held (λW=>Po (Io w1 W)/\W.cell? (PN b (off+1))=some (PP l.a)/\W.cell? (PN b (off+2))=some (PP l.b)/\W.cell? (PN b (off+3))=some (PP l.d)/\W.cell? (PN b (off+4))=some (PP l.z)/\W.cell? (PN b (off+5))=some (PQ l.pl)/\W.cell? (PN w.heap.size 1)=some (PP t.a)/\W.cell? (PN w.heap.size 2)=some (PP t.b)/\W.cell? (PN w.heap.size 3)=some (PP t.d)/\W.cell? (PN w.heap.size 4)=some (PP t.z)/\W.cell? (PN w.heap.size 5)=some (PQ t.pl))
   (first|exact KEEP.o _ HB0.o|exact KEEP.o _ HB2.o)
   (first|(go_at_call 158;refine(HE.o _).mono ?_;rintro e w2 ⟨rfl,hb2⟩;have HB2:=ae (In HB0.o hb2);clear hb2))
  go_wp2;go_ret;exact⟨rfl,In HB.o HB2.o⟩
 .have hb:(l.pl==t.pl)=false:=by simpa using h
  rw[Ox h,Bool.false_and];clear h;go_enter func123,ntmps123;go_wp2_with fail;rw[<-hw1];clear hw1;go_quiet (fail);go_wp2;go_ret;exact⟨rfl,below_drewN HB.o _⟩
theorem Tryz.infoFt:(prog.info? 88).map (λi=>(i.zero,i.size,i.bytes))=some (some (.agg #[PO 0,PP 0,PP 0,PP 0,PP 0,PQ 0,PQ 0]),7,24):=by kernel_rfl
def aA(fs:PB):PH:=fs.flatMap aB
theorem fw(fs:PB):(aA fs).length=fs.length*7:=by
 induction fs with
 |nil=>rfl
 |cons t fs ih=>simp only[aA,List.flatMap_cons,OM,OZ] at ih⊢;rw[ih];simp[aB];omega
theorem ja(t:Ft)(fs:PB):aA (t::fs)=aB t++aA fs:=rfl
theorem xJ(fs gs:PB):aA (fs++gs)=aA fs++aA gs:=by unfold aA;rw[List.flatMap_append]
theorem qh(fs:PB)(t:Ft):aA (fs++[t])=aA fs++aB t:=by rw[xJ,ja];simp[aA]
theorem lr(t:Ft):∀u∈aB t,u.oneCell'=true:=by intro u hu;simp only[aB,OY,List.not_mem_nil,or_false] at hu;rcases hu with rfl|rfl|rfl|rfl|rfl|rfl|rfl<;>rfl
theorem sW(fs:PB):∀u∈aA fs,u.oneCell'=true:=by intro u hu;simp only[aA,Pk] at hu;obtain⟨t,_,hu⟩:=hu;exact lr t u hu
def Fv(w:PJ)(v:PK)(fs:PB):Prop:=
 ∃a cap,v=.slice a fs.length cap/\fs.length<=cap/\(0<fs.length->∃b off,a=some (PN b off)/\b<w.heap.size/\∀j u,(aA fs)[j]?=some u->w.cell? (PN b (off+j))=some u)
variable{fs:PB}{v:PK}
theorem Fv.below(h:Fv w v fs)(hb:Io w w'):Fv w' v fs:=by obtain⟨a,cap,rfl,hc,h1⟩:=h;refine⟨a,cap,rfl,hc,λhp=>?_⟩;obtain⟨b,off,rfl,hlt,hcs⟩:=h1 hp;exact⟨b,off,rfl,Oz hlt hb.size,λj u hj=>af (hcs j u hj) hb⟩
theorem mo(a:Option Addr)(c:Nat):Fv w (.slice a 0 c) []:=⟨a,c,rfl,OB _,λh=>absurd h (by simp)⟩
variable{ts:PB}{B:Nat}
theorem fU(h:w.ownsRow B 88 7 v ts.length (aA ts)):Fv w v ts:=by
 rcases h.2 with ⟨h1,h2⟩|⟨b,cap,ag,rfl,hb,hh,hn,hm,hcs,ht⟩
 .exact⟨none,0,by rw[h1,h2],by omega,λhp=>by omega⟩
 .have hlt:=Ot h b rfl;refine⟨_,cap,rfl,hn,λhp=>⟨b,0,rfl,hlt.2,λj u hj=>?_⟩⟩;have hjl:j<ts.length*7:=by rw[<-fw];apply OU;intro hle;rw[OJ hle] at hj;simp at hj
  rw[ON,h.cellAt j hjl];exact hj
def cu(w:PJ)(b off:Nat)(t:Ft):Prop:=w.cell? (PN b off)=some (PO t.k)/\w.cell? (PN b (off+1))=some (PP t.a)/\w.cell? (PN b (off+2))=some (PP t.b)/\w.cell? (PN b (off+3))=some (PP t.d)/\w.cell? (PN b (off+4))=some (PP t.z)/\w.cell? (PN b (off+5))=some (PQ t.pl)/\w.cell? (PN b (off+6))=some (PQ t.c)
theorem cu.keep(h:cu w b off t)(hb:Io w w'):cu w' b off t:=
 ⟨af h.1 hb,af h.2.1 hb,af h.2.2.1 hb,af h.2.2.2.1 hb,af h.2.2.2.2.1 hb,af h.2.2.2.2.2.1 hb,af h.2.2.2.2.2.2 hb⟩
theorem og(h:∀j u,(aB t)[j]?=some u->w.cell? (PN b (off+j))=some u):cu w b off t:=
 ⟨h 0 _ rfl,h 1 _ rfl,h 2 _ rfl,h 3 _ rfl,h 4 _ rfl,h 5 _ rfl,h 6 _ rfl⟩
theorem D5:∀(fs:PB)(k:Nat),aA (fs.drop k)=(aA fs).drop (k*7)
 |fs,0=>by simp
 |[],k+1=>by simp[aA]
 |t::fs,k+1=>by rw[List.drop_succ_cons,D5 fs k,ja,show (k+1)*7=7+k*7 by omega,<-List.drop_drop];simp[aB]
def dT:Ft:=⟨0,0,0,0,0,0,0⟩
variable{n cap:Nat}
theorem Fv.at{a:Option Addr}(h:Fv w (.slice a n cap) fs)(k:Nat)(hk:k<fs.length):∃b off,a=some (PN b off)/\b<w.heap.size/\n=fs.length/\cu w b (off+k*7) (fs.getD k dT):=by
 obtain⟨a2,c2,e,_,h1⟩:=h;obtain⟨b,off,rfl,hlt,hcs⟩:=h1 (by omega);simp only[OQ] at e;obtain⟨rfl,rfl,rfl⟩:=e;refine⟨b,off,rfl,hlt,rfl,og λj u hj=>?_⟩;have hd:(aA (fs.drop k))[j]?=some u:=by
  rw[Pd hk,ja,O4]
  .have e:fs.getD k dT=fs[k]:=by simp[OH,hk]
   rw[e] at hj;exact hj
  .apply OU;intro hle;rw[OJ (by simpa [aB] using hle)] at hj;simp at hj
 rw[D5,List.getElem?_drop] at hd;rw[Nat.add_assoc];exact hcs _ _ hd
theorem Fv.head(h:Fv w v (t::ts)):∃b off cap,v=.slice (some (PN b off)) (ts.length+1) cap/\ts.length+1<=cap/\b<w.heap.size/\cu w b off t/\(cap=1->ts=[])/\Fv w (.slice (some (PN b (off+7))) ts.length (cap-1)) ts:=by
 obtain⟨a,cap,rfl,hcap,h⟩:=h;obtain⟨b,off,rfl,hlt,hc⟩:=h (by simp);simp only[OZ] at hcap;refine⟨b,off,cap,rfl,hcap,hlt,og λj u hj=>hc j u ?_,λe=>O8.1 (by omega),_,_,rfl,by omega,λhp=>⟨b,off+7,rfl,hlt,λj u hj=>?_⟩⟩
 .rw[ja,O4]
  .exact hj
  .apply OU;intro hle;rw[OJ hle] at hj;simp at hj
 .rw[Nat.add_assoc];refine hc (7+j) u ?_;rw[ja,O9 (by simp[aB])];simpa [aB] using hj
theorem Fv.tail(h:(cap=1->ts=[])/\Fv w (.slice (some (PN b (off+7))) ts.length (cap-1)) ts):∃A,(if cap=1 then (some (PN b off):Option Addr) else some (PN b (off+7)))=some A/\Fv w (.slice (some A) ts.length (cap-1)) ts:=by
 by_cases hc:cap=1
 .have e:=h.1 hc;subst e;exact⟨(PN b off),OW hc,_,_,rfl,OB _,λh=>absurd h (by simp)⟩
 .exact⟨(PN b (off+7)),OV hc,h.2⟩
def cT(p:Int):PB->PB->PB
 |[],g=>g
 |t::f,[]=>t::f
 |t::f,u::g=>
  if u.k<t.k then t::cT p f (u::g)
  else if t.k<u.k then u::cT p (t::f) g
  else if (t.c+u.c)%p≠0 then {t with c:=(t.c+u.c)%p}::cT p f g
  else cT p f g
theorem qi(p:Int)(g:PB):cT p [] g=g:=by unfold cT;rfl
theorem qj(p:Int)(f:PB):cT p f []=f:=by cases f<;>(unfold cT;rfl)
variable{f:PB}{u:Ft}
theorem qn{g:PB}(h:u.k<t.k):cT p (t::f) (u::g)=t::cT p f (u::g):=by rw[cT,OW h]
theorem qo{g:PB}(h:t.k<u.k):cT p (t::f) (u::g)=u::cT p (t::f) g:=by rw[cT,OV (by omega),OW h]
theorem qp{g:PB}(h:t.k=u.k)(hc:(t.c+u.c)%p≠0):cT p (t::f) (u::g)={t with c:=(t.c+u.c)%p}::cT p f g:=by rw[cT,OV (by omega),OV (by omega),OW hc]
theorem qq{g:PB}(h:t.k=u.k)(hc:(t.c+u.c)%p=0):cT p (t::f) (u::g)=cT p f g:=by rw[cT,OV (by omega),OV (by omega),OV (by omega)]
structure fI(p:Int)(C:Nat)(w1 wr:PJ)(g:Nat)(L:PB)(fv gv:PK)(fs gs ds:PB):Prop where
 pf:Fv w1 fv fs
 pg:Fv w1 gv gs
 own:wr.ownsRow w1.heap.size 88 7 (PM g ds.length C) ds.length (aA ds)
 below:Io w1 wr
 eq:L=ds++cT p fs gs
 room:ds.length+fs.length+gs.length<=C
 cf:∀t∈fs,0<=t.c/\t.c<p
 cg:∀t∈gs,0<=t.c/\t.c<p
variable{gs ds L:PB}{fv gv:PK}{g C:Nat}{w1 wr:PJ}
theorem fI.next(h:fI p C w1 wr g L fv gv fs gs ds)(hb:Io wr w'):fI p C w1 w' g L fv gv fs gs ds:=
 ⟨h.pf,h.pg,aF h.own hb,In h.below hb,h.eq,h.room,h.cf,h.cg⟩
variable{fv':PK}{w2:PJ}
theorem fI.takeF(h:fI p C w1 w2 g L fv gv (t::fs) (u::gs) ds)(ho:u.k<t.k)(hown:w'.ownsRow w1.heap.size 88 7 (PM g (ds.length+1) C) (ds.length+1) (aA ds++aB t))(hg:w2.grownBy w' (some g))(hgw:w1.heap.size<=g)(hf:Fv w1 fv' fs):fI p C w1 w' g L fv' gv fs (u::gs) (ds++[t]):=by
 refine⟨hf,h.pg,?_,h.below.trans (cQ hg hgw h.below.size),?_,?_,λt ht=>h.cf t (by simp[ht]),h.cg⟩
 .rw[qh,OM];exact hown
 .rw[h.eq,qn ho];simp
 .have:=h.room;simp only[OM,OZ,List.length_nil] at this⊢;omega
variable{gv':PK}
theorem fI.takeG(h:fI p C w1 w2 g L fv gv (t::fs) (u::gs) ds)(ho:t.k<u.k)(hown:w'.ownsRow w1.heap.size 88 7 (PM g (ds.length+1) C) (ds.length+1) (aA ds++aB u))(hg:w2.grownBy w' (some g))(hgw:w1.heap.size<=g)(hf:Fv w1 gv' gs):fI p C w1 w' g L fv gv' (t::fs) gs (ds++[u]):=by
 refine⟨h.pf,hf,?_,h.below.trans (cQ hg hgw h.below.size),?_,?_,h.cf,λt ht=>h.cg t (by simp[ht])⟩
 .rw[qh,OM];exact hown
 .rw[h.eq,qo ho];simp
 .have:=h.room;simp only[OM,OZ,List.length_nil] at this⊢;omega
theorem fI.both(h:fI p C w1 w2 g L fv gv (t::fs) (u::gs) ds)(ho:t.k=u.k)(hc:(t.c+u.c)%p≠0)(hown:w'.ownsRow w1.heap.size 88 7 (PM g (ds.length+1) C) (ds.length+1) (aA ds++aB {t with c:=(t.c+u.c)%p}))(hg:w2.grownBy w' (some g))(hgw:w1.heap.size<=g)(hf:Fv w1 fv' fs)(hf2:Fv w1 gv' gs):fI p C w1 w' g L fv' gv' fs gs (ds++[{t with c:=(t.c+u.c)%p}]):=by
 refine⟨hf,hf2,?_,h.below.trans (cQ hg hgw h.below.size),?_,?_,λt ht=>h.cf t (by simp[ht]),λt ht=>h.cg t (by simp[ht])⟩
 .rw[qh,OM];exact hown
 .rw[h.eq,qp ho hc];simp
 .have:=h.room;simp only[OM,OZ,List.length_nil] at this⊢;omega
theorem fI.drop(h:fI p C w1 w2 g L fv gv (t::fs) (u::gs) ds)(ho:t.k=u.k)(hc:(t.c+u.c)%p=0)(hf:Fv w1 fv' fs)(hf2:Fv w1 gv' gs):fI p C w1 w2 g L fv' gv' fs gs ds:=by
 refine⟨hf,hf2,h.own,h.below,?_,?_,λt ht=>h.cf t (by simp[ht]),λt ht=>h.cg t (by simp[ht])⟩
 .rw[h.eq,qq ho hc]
 .have:=h.room;simp only[OZ] at this⊢;omega
theorem jz(w:PJ)(t:Ft)(T:TypeId):∀j u,(aB t)[j]?=some u->(w.alloc (.cells #[PO t.k,PP t.a,PP t.b,PP t.d,PP t.z,PQ t.pl,PQ t.c] T)).cell? (((PN w.heap.size 0):Addr).add j)=some u:=by
 intro j u hj;have hj7:j<7:=by apply OU;intro hle;rw[OJ (by simpa [aB] using hle)] at hj;simp at hj
 have:j=0\/j=1\/j=2\/j=3\/j=4\/j=5\/j=6:=by omega
 rcases this with rfl|rfl|rfl|rfl|rfl|rfl|rfl<;>simp[aB] at hj<;>subst hj<;>simp[Addr.add,go_sem]
theorem tB{P:Program}{ops:Array Oper}{rest:List Oper}{o:Oper}{a:Act}{Q:Exit->Act->PJ->Prop}(hgd:o.guard=none)(s x:Operand)(t:TypeId)(ho:o.op=.call {callee:=.builtin .append,args:=#[s,x],argTypes:=#[t,t]})(base:Nat)(e:TypeId)(i:TypeInfo)(h1:P.underlying t=some (.slice e))(h2:P.info? e=some i)(h4:i.size=7)(g k cap:Nat)(xs:PH)(hs:a.eval s=PM g k cap)(hown:w.ownsRow base e 7 (PM g k cap) k xs)(us:PB)(ua:Option Addr)(uc:Nat)(hx:a.eval x=.slice ua us.length uc)(hcs:0<us.length->∃b off,ua=some (PN b off)/\∀j u,(aA us)[j]?=some u->w.cell? (PN b (off+j))=some u)(b1:k+us.length<=cap)(hK:∀w',w'.ownsRow base e 7 (PM g (k+us.length) cap) (k+us.length) (xs++aA us)->w.grownBy w' (some g)->wpList P ops Q rest (a.put o.dst (PM g (k+us.length) cap)) w'):wpList P ops Q (o::rest) a w:=by
 by_cases h0:0<us.length
 .obtain⟨b,off,rfl,hc⟩:=hcs h0;refine wpList_append_fits w hgd s x t ho base e i 7 h1 h2 h4 g k cap xs hs hown (PN b off) us.length uc (aA us) hx (fw us) (λj u hj=>?_) (sW us) b1 hK;have:=hc j u hj;by_cases hj0:j=0
  .subst hj0;simpa [Addr.add] using this
  .simpa [Addr.add,hj0] using this
 .have e0:us=[]:=O8.1 (by omega);subst e0;cases ua with
  |none=>refine Ab hgd s x t ho base e i 7 h1 h2 _ k uc xs hs hown hx ?_;exact hK w (by simpa [aA] using hown) (zX _ _)
  |some ad=>refine wpList_append_fits w hgd s x t ho base e i 7 h1 h2 h4 g k cap xs hs hown ad 0 uc [] hx (by simp) (λj u hj=>by simp at hj) (λu hu=>by simp at hu) b1 hK
theorem fI.finish{w3:PJ}(h:fI p C w1 wr g L fv gv fs gs ds)(he:fs=[]\/gs=[])(g2:wr.grownBy w2 (some g))(g3:w2.grownBy w3 (some g))(hown:w3.ownsRow w1.heap.size 88 7 (PM g (ds.length+fs.length+gs.length) C) (ds.length+fs.length+gs.length) (aA ds++aA fs++aA gs))(hgw:w1.heap.size<=g):Fv w3 (PM g (ds.length+fs.length+gs.length) C) L/\Io w1 w3:=by
 refine⟨?_,h.below.trans (cQ (cW g2 g3) hgw h.below.size)⟩;have e1:(ds++fs++gs).length=ds.length+fs.length+gs.length:=by simp only[OM]
 have e2:aA (ds++fs++gs)=aA ds++aA fs++aA gs:=by rw[xJ,xJ]
 have k:=fU (w:=w3) (B:=w1.heap.size) (v:=PM g (ds.length+fs.length+gs.length) C) (ts:=ds++fs++gs) (by rw[e1,e2];exact hown);have e3:ds++fs++gs=L:=by
  rw[h.eq];rcases he with he|he
  .subst he;rw[qi];simp
  .subst he;rw[qj];simp
 rw[e3] at k;exact k
theorem dr(hB:B<=w.heap.size)(t:Ft):(w.alloc (.cells #[PO t.k,PP t.a,PP t.b,PP t.d,PP t.z,PQ t.pl,PQ t.c] 88)).ownsRow B 88 7 (PM w.heap.size 1 1) 1 (aB t):=
 ⟨by simp[aB],.inr ⟨w.heap.size,1,_,rfl,hB,heap_alloc_new w _,Ou _,by decide,by simp,by simp[aB]⟩⟩
theorem NM(ob:Nat)(p k0 k1 k2:Int)(sv fv gv:PK)(fs gs:PB)(w:PJ)(hob:aQ w ob p k0 k1 k2 sv)(hp:2<=p/\p<=101)(cf:∀t∈fs,0<=t.c/\t.c<p)(cg:∀t∈gs,0<=t.c/\t.c<p)(hm:fs.length+gs.length<=2300000000000)(hf:Fv w fv fs)(hg:Fv w gv gs):Calls prog 151 #[PL ob,fv,gv] w λe w'=>∃u,e=.returned u/\Fv w' u (cT p fs gs)/\Io w w':=by
 have HF:=ae hf;have HG:=ae hg;have HCF:=ae cf;have HCG:=ae cg;have HOB:=ae hob;obtain⟨hp1,hp2⟩:=hp;obtain⟨fa,fc,rfl,_,_⟩:=hf;obtain⟨ga,gc,rfl,_,_⟩:=hg;clear cf cg hob;obtain⟨i0,hi,hz0,hz1,hz2⟩:=info_parts Tryz.infoFt;go_enter func151,ntmps151;go_wp2_with (at_make;refine wpList_make_own _ rfl _ _ 79 rfl w.heap.size 88 i0 _ 7 underlying79 hi hz0 hz1 .i64 .i64 _ (fs.length+gs.length) rfl rfl (by simp) (by rw[hz2];omega) (by unfold maxLen;omega) (by simp) ?_;intro w1 hown hgrow;have HX:Po (fI p (fs.length+gs.length) w w1 w.heap.size (cT p fs gs) (.slice fa fs.length fc) (.slice ga gs.length gc) fs gs []):=⟨HF.o,HG.o,hown,⟨hgrow.os,hgrow.tape,hgrow.output,hgrow.size,λk hk=>hgrow.block k hk (by simp)⟩,by simp,by simp,HCF.o,HCG.o⟩;clear hown hgrow);have HI:=ae (Ow hi (Ow hz1 hz2));clear hi hz0 hz1 hz2 HF HG HCF HCG;go_loopw [1,2,7] (λx y z wr=>∃(fs1 gs1 ds:PB),z=PM w.heap.size ds.length (fs.length+gs.length)/\fI p (fs.length+gs.length) w wr w.heap.size (cT p fs gs) x y fs1 gs1 ds) (λx y _ _=>jb x+jb y);case atStart=>exact⟨fs,gs,[],rfl,HX.o⟩
 case round=>
  clear HX;obtain⟨fs1,gs1,ds,rfl,hm1⟩:=hrel;have HM:=ae hm1;clear hm1;by_cases hfin:fs1=[]\/gs1=[]
  .have HR:=ae HM.o.room;have HFIN:=ae hfin;have HXF:=ae HM.o.pf;have HXG:=ae HM.o.pg;obtain⟨xa,xc,hxv,_,hucs⟩:=HM.o.pf;obtain⟨ya,yc,hyv,_,hvcs⟩:=HM.o.pg;have HU1:Po (0<fs1.length->∃b off,xa=some (PN b off)/\∀j u,(aA fs1)[j]?=some u->wr.cell? (PN b (off+j))=some u):=λh=>by obtain⟨b,off,e,hlt,hc⟩:=hucs h;exact⟨b,off,e,λj u hj=>af (hc j u hj) HM.o.below⟩
   have HV1:Po (∀w2,wr.grownBy w2 (some w.heap.size)->0<gs1.length->∃b off,ya=some (PN b off)/\∀j u,(aA gs1)[j]?=some u->w2.cell? (PN b (off+j))=some u):=λw2 hg2 h=>by obtain⟨b,off,e,hlt,hc⟩:=hvcs h;exact⟨b,off,e,λj u hj=>af (hc j u hj) (HM.o.below.trans (cQ hg2 (Ou _) HM.o.below.size))⟩
   have hzero:fs1.length=0\/gs1.length=0:=by
    rcases hfin with h|h
    .left;rw[h];rfl
    .right;rw[h];rfl
   subst hxv;subst hyv;clear hucs hvcs hfin;have r1a:ds.length+fs1.length<=fs.length+gs.length:=by have:=HR.o;omega
   have r2a:ds.length+fs1.length+gs1.length<=fs.length+gs.length:=HR.o;by_cases hu0:0<fs1.length
   .have hv0:¬0<gs1.length:=by omega
    go_wp2_with (at_builtin;first|(refine tB rfl (.tmp 89) (.tmp 90) 79 rfl w.heap.size 88 i0 underlying79 HI.o.1 HI.o.2.1 w.heap.size ds.length (fs.length+gs.length) (aA ds) rfl HM.o.own fs1 _ _ rfl HU1.o r1a ?_;intro w2 r1 r2;have R1:=ae r1;have R2:=ae r2;clear r1 r2)|(refine tB rfl (.tmp 91) (.tmp 92) 79 rfl w.heap.size 88 i0 underlying79 HI.o.1 HI.o.2.1 w.heap.size (ds.length+fs1.length) (fs.length+gs.length) (aA ds++aA fs1) rfl R1.o gs1 _ _ rfl (HV1.o _ R2.o) r2a ?_;intro w3 r3 r4;have R3:=ae r3;have R4:=ae r4;clear r3 r4));go_ret;have F:=HM.o.finish HFIN.o R2.o R4.o R3.o (Ou _);exact⟨_,rfl,F.1,F.2⟩
   .go_wp2_with (at_builtin;first|(refine tB rfl (.tmp 89) (.tmp 90) 79 rfl w.heap.size 88 i0 underlying79 HI.o.1 HI.o.2.1 w.heap.size ds.length (fs.length+gs.length) (aA ds) rfl HM.o.own fs1 _ _ rfl HU1.o r1a ?_;intro w2 r1 r2;have R1:=ae r1;have R2:=ae r2;clear r1 r2)|(refine tB rfl (.tmp 91) (.tmp 92) 79 rfl w.heap.size 88 i0 underlying79 HI.o.1 HI.o.2.1 w.heap.size (ds.length+fs1.length) (fs.length+gs.length) (aA ds++aA fs1) rfl R1.o gs1 _ _ rfl (HV1.o _ R2.o) r2a ?_;intro w3 r3 r4;have R3:=ae r3;have R4:=ae r4;clear r3 r4));go_ret;have F:=HM.o.finish HFIN.o R2.o R4.o R3.o (Ou _);exact⟨_,rfl,F.1,F.2⟩
  .cases fs1 with
   |nil=>exact absurd (Pf rfl) hfin
   |cons t fs2=>
   cases gs1 with
   |nil=>exact absurd (Pg rfl) hfin
   |cons u gs2=>
    clear hfin;obtain⟨b,off,fcap,rfl,hfc,hlt,hft,hone,hpl⟩:=HM.o.pf.head;obtain⟨b2,off2,gcap,rfl,hgc,hlt2,hgt,hone2,hpl2⟩:=HM.o.pg.head;have HP:=ae (Ow hone hpl);have HP2:=ae (Ow hone2 hpl2);have HT:=ae (HM.o.cf t (by simp));have HU:=ae (HM.o.cg u (by simp));have hroom:ds.length+1<=fs.length+gs.length:=by have:=HM.o.room;simp only[OZ] at this;omega
    have hle:(1:Int)<=(fs2.length:Int)+1:=by omega
    have hle2:(1:Int)<=(gs2.length:Int)+1:=by omega
    obtain⟨A,hA,hplA⟩:=Fv.tail HP.o;have HPA:=ae hplA;obtain⟨A2,hA2,hplA2⟩:=Fv.tail HP2.o;have HPA2:=ae hplA2;obtain⟨c0,c1,c2,c3,c4,c5,c6⟩:=hft.keep HM.o.below;obtain⟨d0,d1,d2,d3,d4,d5,d6⟩:=hgt.keep HM.o.below;clear hplA hplA2 hft hgt hone hone2 hpl hpl2;have CT:Po (∀W,Io wr W->cu W b off t/\cu W b2 off2 u):=λW h=>⟨cu.keep ⟨c0,c1,c2,c3,c4,c5,c6⟩ h,cu.keep ⟨d0,d1,d2,d3,d4,d5,d6⟩ h⟩;by_cases hk1:u.k<t.k
    .go_wp2;go_quiet (fail);have HM9:=ae (HM.o.next (below_drewN (Ov wr.heap.size wr) nq));obtain⟨⟨e0,e1,e2,e3,e4,e5,e6⟩,_⟩:=CT.o _ (below_drewN (Ov wr.heap.size wr) nq);have HOWN:=ae (aF HM9.o.own ((Ov (wr.drewN nq).heap.size (wr.drewN nq)).drew.alloc (Ou _) (.cells #[PO t.k,PP t.a,PP t.b,PP t.d,PP t.z,PQ t.pl,PQ t.c] 88)));go_wp2;go_region_law (refine sg rfl (.tmp 63) (.tmp 67) 79 rfl w.heap.size 88 i0 7 underlying79 HI.o.1 HI.o.2.1 w.heap.size ds.length (fs.length+gs.length) (aA ds) (by simp[Act.eval,Act.put]) HOWN.o (PN wr.heap.size 0) 1 1 (aB t) (by simp[Act.eval,Act.put]) rfl (jz _ _ _) (lr t) hroom ?_;intro w' r1 r2;have R1:=ae (Ow r1 r2);clear r1 r2);all_goals
      simp only[List.getElem_toArray,List.getElem_cons_succ,List.getElem_cons_zero];simp only[Act.put,List.setIfInBounds_toArray,List.set_cons_zero,List.set_cons_succ];go_wp2;go_roundw;case rel=>exact⟨fs2,u::gs2,ds++[t],by simp,(HM9.o.next ((Ov (wr.drewN nq).heap.size (wr.drewN nq)).drew.alloc (Ou _) _)).takeF hk1 R1.o.1 R1.o.2 (Ou _) HPA.o⟩
      case measure=>simp[jb]
    .go_wp2;go_quiet (fail);have HBQ:=ae (below_drewN (Ov wr.heap.size wr) nq);generalize wr.drewN nq=wq at HBQ⊢;have HMQ:=ae (HM.o.next HBQ.o);obtain⟨⟨c0,c1,c2,c3,c4,c5,c6⟩,d0,d1,d2,d3,d4,d5,d6⟩:=CT.o _ HBQ.o;clear HM;by_cases hk2:t.k<u.k
     .go_wp2;go_quiet (fail);have HBP:=ae (below_drewN (Ov wq.heap.size wq) nq);generalize wq.drewN nq=wp at HBP⊢;have HM9:=ae (HMQ.o.next HBP.o);obtain⟨⟨c0,c1,c2,c3,c4,c5,c6⟩,d0,d1,d2,d3,d4,d5,d6⟩:=CT.o _ (In HBQ.o HBP.o);have HOWN:=ae (aF HM9.o.own ((Ov wp.heap.size wp).drew.alloc (Ou _) (.cells #[PO u.k,PP u.a,PP u.b,PP u.d,PP u.z,PQ u.pl,PQ u.c] 88)));go_wp2;go_region_law (refine sg rfl (.tmp 81) (.tmp 85) 79 rfl w.heap.size 88 i0 7 underlying79 HI.o.1 HI.o.2.1 w.heap.size ds.length (fs.length+gs.length) (aA ds) (by simp[Act.eval,Act.put]) HOWN.o (PN wp.heap.size 0) 1 1 (aB u) (by simp[Act.eval,Act.put]) rfl (jz _ _ _) (lr u) hroom ?_;intro w' r1 r2;have R1:=ae (Ow r1 r2);clear r1 r2);all_goals
       simp only[List.getElem_toArray,List.getElem_cons_succ,List.getElem_cons_zero];simp only[Act.put,List.setIfInBounds_toArray,List.set_cons_zero,List.set_cons_succ];go_wp2;go_roundw;case rel=>exact⟨t::fs2,gs2,ds++[u],by simp,(HM9.o.next ((Ov wp.heap.size wp).drew.alloc (Ou _) _)).takeG hk2 R1.o.1 R1.o.2 (Ou _) HPA2.o⟩
       case measure=>simp[jb]
     .have hke:t.k=u.k:=by omega
      have HKE:=ae hke;clear hke;obtain⟨ht1,ht2⟩:=HT.o;obtain⟨hu1,hu2⟩:=HU.o;obtain⟨q0,q1⟩:=D4 (a:=t.c+u.c) ⟨hp1,hp2⟩;have hpz:¬p=0:=by omega
      go_wp2;go_quiet (fail);have HBP:=ae (below_drewN (Ov wq.heap.size wq) nq);generalize wq.drewN nq=wp at HBP⊢;have HM9:=ae (HMQ.o.next HBP.o);obtain⟨⟨c0,c1,c2,c3,c4,c5,c6⟩,d0,d1,d2,d3,d4,d5,d6⟩:=CT.o _ (In HBQ.o HBP.o);obtain⟨olt,o0,o1,o2,o3,o4⟩:=HOB.o.below HM9.o.below;clear HMQ;have OW0:=ae (dr (w:=wp) (B:=wp.heap.size) (Ou _) t);have HBT:Po (Io wp (wp.alloc (.cells #[PO t.k,PP t.a,PP t.b,PP t.d,PP t.z,PQ t.pl,PQ t.c] 88))):=aY;go_wp2;generalize wp.alloc (.cells #[PO t.k,PP t.a,PP t.b,PP t.d,PP t.z,PQ t.pl,PQ t.c] 88)=wt at OW0 HBT⊢;obtain⟨⟨c0,c1,c2,c3,c4,c5,c6⟩,d0,d1,d2,d3,d4,d5,d6⟩:=CT.o _ ((In HBQ.o HBP.o).trans (HBT.o.mono (In HBQ.o HBP.o).size));have p0:=af o0 HBT.o;have y6:wt.cell? (PN wp.heap.size 6)=some (PQ t.c):=OW0.o.cellAt 6 (by omega);have z6:wt.frozen? (PN wp.heap.size 6)=false:=OW0.o.frozenAt 6;go_region;have OW1:Po ((wt.setCell (PN wp.heap.size 6) (PQ ((t.c+u.c)%p))).drew.ownsRow wp.heap.size 88 7 (PM wp.heap.size 1 1) 1 (aB {t with c:=(t.c+u.c)%p})):=aF (OW0.o.stored 6 (PQ ((t.c+u.c)%p))).1 (Ov _ _).drew;have HBS:Po (Io wp (wt.setCell (PN wp.heap.size 6) (PQ ((t.c+u.c)%p))).drew):=(HBT.o.trans (cQ (OW0.o.stored 6 (PQ ((t.c+u.c)%p))).2 (Ou _) HBT.o.size)).drew;generalize (wt.setCell (PN wp.heap.size 6) (PQ ((t.c+u.c)%p))).drew=ws at OW1 HBS⊢;have HMS:=ae (HM9.o.next HBS.o);have x0:ws.cell? (PN wp.heap.size 0)=some (PO t.k):=OW1.o.cellAt 0 (by omega);have x1:ws.cell? (PN wp.heap.size 1)=some (PP t.a):=OW1.o.cellAt 1 (by omega);have x2:ws.cell? (PN wp.heap.size 2)=some (PP t.b):=OW1.o.cellAt 2 (by omega);have x3:ws.cell? (PN wp.heap.size 3)=some (PP t.d):=OW1.o.cellAt 3 (by omega);have x4:ws.cell? (PN wp.heap.size 4)=some (PP t.z):=OW1.o.cellAt 4 (by omega);have x5:ws.cell? (PN wp.heap.size 5)=some (PQ t.pl):=OW1.o.cellAt 5 (by omega);have x6:ws.cell? (PN wp.heap.size 6)=some (PQ ((t.c+u.c)%p)):=OW1.o.cellAt 6 (by omega);clear y6 z6 c0 c1 c2 c3 c4 c5 c6 d0 d1 d2 d3 d4 d5 d6;by_cases hz:(t.c+u.c)%p=0
      .go_wp2;go_quiet (fail);go_wp2;go_roundw;case rel=>exact⟨fs2,gs2,ds,rfl,(HMS.o.next (below_drewN (Ov _ _) _)).drop HKE.o hz HPA.o HPA2.o⟩
       case measure=>simp[jb];omega
      .have HOWN:=ae (aF HMS.o.own (ai (A:=.cells #[PO t.k,PP t.a,PP t.b,PP t.d,PP t.z,PQ t.pl,PQ ((t.c+u.c)%p)] 88)));have hzb:((t.c+u.c)%p !=0)=true:=by simpa using hz
       go_wp2_with (at_builtin;refine wpList_append_fits _ rfl (.tmp 45) (.tmp 47) 79 rfl w.heap.size 88 i0 7 underlying79 HI.o.1 HI.o.2.1 w.heap.size ds.length (fs.length+gs.length) (aA ds) rfl HOWN.o (PN ws.heap.size 0) 1 1 (aB {t with c:=(t.c+u.c)%p}) rfl rfl (jz ws {t with c:=(t.c+u.c)%p} _) (lr _) hroom ?_;intro w' r1 r2;have R1:=ae (Ow r1 r2);clear r1 r2);go_quiet (fail);go_wp2;go_roundw;case rel=>exact⟨fs2,gs2,ds++[{t with c:=(t.c+u.c)%p}],by simp,((HMS.o.next ai).both HKE.o hz R1.o.1 R1.o.2 (Ou _) HPA.o HPA2.o).next (below_drewN (Ov _ _) _)⟩
       case measure=>simp[jb];omega
def aJ(p more:Int)(by_ t:Ft):Ft:=⟨t.k+more,t.a+by_.a,t.b+by_.b,t.d+by_.d,t.z+by_.z,t.pl,t.c*by_.c%p⟩
structure im(p:Int)(t:Ft):Prop where
 k:-1000000000000000000<=t.k/\t.k<=1000000000000000000
 a:0<=t.a/\t.a<=30000
 b:0<=t.b/\t.b<=30000
 d:0<=t.d/\t.d<=30000
 z:0<=t.z/\t.z<=30000
 pl:0<=t.pl/\t.pl<=255
 c:0<=t.c/\t.c<p
structure gE(w wr:PJ)(g n:Nat)(us:PB):Prop where
 own:∃rest,wr.ownsRow w.heap.size 88 7 (PM g n n) n (aA us++rest)/\(aA us++rest).length=n*7
 below:Io w wr
 ge:w.heap.size<=g
variable{us:PB}
theorem gE.next(h:gE w wr g n us)(hb:Io wr w'):gE w w' g n us:=by obtain⟨rest,h1,h2⟩:=h.own;exact⟨⟨rest,aF h1 hb,h2⟩,In h.below hb,h.ge⟩
theorem gE.lt(h:gE w wr g n us):g<wr.heap.size:=by obtain⟨rest,h1,_⟩:=h.own;exact(Ot h1 g rfl).2
theorem gE.cell(h:gE w wr g n us)(j:Nat)(hj:j<n*7):(∃a,wr.cell? (PN g j)=some a)/\wr.frozen? (PN g j)=false:=by obtain⟨rest,h1,h2⟩:=h.own;have e1:=h1.cellAt j (by omega);rw[OI (by omega)] at e1;exact⟨⟨_,e1⟩,h1.frozenAt _⟩
theorem NN(l:PH)(a b c d e f g:PK):∀r:PH,7<=r.length->(((((((l++r).set l.length a).set (l.length+1) b).set (l.length+2) c).set (l.length+3) d).set (l.length+4) e).set (l.length+5) f).set (l.length+6) g=l++[a,b,c,d,e,f,g]++r.drop 7
 |[],h=>by simp at h
 |[_],h=>by simp at h
 |[_,_],h=>by simp at h
 |[_,_,_],h=>by simp at h
 |[_,_,_,_],h=>by simp at h
 |[_,_,_,_,_],h=>by simp at h
 |[_,_,_,_,_,_],h=>by simp at h
 |_::_::_::_::_::_::_::r,_=>by simp[List.set_append_right]
def qr(wr:PJ)(g k:Nat)(t:Ft):PJ:=((((((wr.setCell ⟨g,k*7,none⟩ (PO t.k)).setCell ⟨g,k*7+1,none⟩ (PP t.a)).setCell ⟨g,k*7+2,none⟩ (PP t.b)).setCell ⟨g,k*7+3,none⟩ (PP t.d)).setCell ⟨g,k*7+4,none⟩ (PP t.z)).setCell ⟨g,k*7+5,none⟩ (PQ t.pl)).setCell ⟨g,k*7+6,none⟩ (PQ t.c)
theorem gE.put(h:gE w wr g n us)(hk:us.length<n)(t:Ft):gE w (qr wr g us.length t) g n (us++[t]):=by
 obtain⟨rest,h1,h2⟩:=h.own;have s1:=h1.stored (us.length*7) (PO t.k);have s2:=s1.1.stored (us.length*7+1) (PP t.a);have s3:=s2.1.stored (us.length*7+2) (PP t.b);have s4:=s3.1.stored (us.length*7+3) (PP t.d);have s5:=s4.1.stored (us.length*7+4) (PP t.z);have s6:=s5.1.stored (us.length*7+5) (PQ t.pl);have s7:=s6.1.stored (us.length*7+6) (PQ t.c);have hg:=cW (cW (cW (cW (cW (cW s1.2 s2.2) s3.2) s4.2) s5.2) s6.2) s7.2;rw[OM,fw] at h2;refine⟨⟨rest.drop 7,?_,?_⟩,h.below.trans (cQ hg h.ge h.below.size),h.ge⟩
 .have e:=NN (aA us) (PO t.k) (PP t.a) (PP t.b) (PP t.d) (PP t.z) (PQ t.pl) (PQ t.c) rest (by omega);rw[fw] at e;have:=s7.1;rw[e] at this;rw[qh];exact this
 .rw[OM,fw,List.length_drop,OM];simp;omega
theorem gE.done(h:gE w wr g n us)(hn:us.length=n):Fv wr (PM g n n) us:=by obtain⟨rest,h1,h2⟩:=h.own;rw[OM,fw] at h2;have e:rest=[]:=O8.1 (by omega);rw[e,List.append_nil] at h1;subst hn;exact fU h1
theorem gE.made{z:Array PK}(h:w'.ownsRow w.heap.size 88 7 (PM w.heap.size n n) n (madeCells z (n*7)).toList)(hg:w.grownBy w' none):gE w w' w.heap.size n []:=
 ⟨⟨(madeCells z (n*7)).toList,h,by simp[aA,size_madeCells]⟩,⟨hg.os,hg.tape,hg.output,hg.size,λk hk=>hg.block k hk (by simp)⟩,Ou _⟩
theorem NO{k o:Nat}(h:b≠g):(qr w g k t).cell? (PN b o)=w.cell? (PN b o):=by unfold qr;rw[World.cell?_setCell_far _ _ _ _ (λe=>h e.symm),World.cell?_setCell_far _ _ _ _ (λe=>h e.symm),World.cell?_setCell_far _ _ _ _ (λe=>h e.symm),World.cell?_setCell_far _ _ _ _ (λe=>h e.symm),World.cell?_setCell_far _ _ _ _ (λe=>h e.symm),World.cell?_setCell_far _ _ _ _ (λe=>h e.symm),World.cell?_setCell_far _ _ _ _ (λe=>h e.symm)]
theorem NP(fs:PB)(k:Nat)(h:k<fs.length):fs.take (k+1)=fs.take k++[fs.getD k dT]:=by rw[OX h];simp[OH,h]
theorem NQ(fs:PB)(k:Nat)(h:k<fs.length):fs.getD k dT∈fs:=by rw[OH,OI h];simp
theorem nS(ob:Nat)(p k0 k1 k2:Int)(sv fv:PK)(bt:Ft)(fs:PB)(w:PJ)(hob:aQ w ob p k0 k1 k2 sv)(hp:2<=p/\p<=101)(h0:0<=k0/\k0<=137438953472)(h1:0<=k1/\k1<=137438953472)(h2:0<=k2/\k2<=137438953472)(hbt:im p bt)(hfs:∀t∈fs,im p t)(hm:fs.length<=2300000000000)(hf:Fv w fv fs):Calls prog 77 #[PL ob,aX bt,fv] w λe w'=>∃u,e=.returned u/\Fv w' u (fs.map (aJ p (bt.a*k0+bt.b*k1+bt.d*k2) bt))/\Io w w':=by
 have HF:=ae hf;have HFS:=ae hfs;have HBT0:=ae hbt;have HP:=ae hp;have HAD:=ae (fun(W:PJ)(hW:aQ W ob p k0 k1 k2 sv)=>vG ob p k0 k1 k2 sv bt.a bt.b bt.d bt.z W hW (by have:=hbt.a;omega) (by have:=hbt.b;omega) (by have:=hbt.d;omega) h0 h1 h2);have HMO:Po (-9007061815787520*3<=bt.a*k0+bt.b*k1+bt.d*k2/\bt.a*k0+bt.b*k1+bt.d*k2<=9007061815787520*3):=by obtain⟨m0,n0⟩:=i8 (a:=bt.a) (k:=k0) (by have:=hbt.a;omega) h0;obtain⟨m1,n1⟩:=i8 (a:=bt.b) (k:=k1) (by have:=hbt.b;omega) h1;obtain⟨m2,n2⟩:=i8 (a:=bt.d) (k:=k2) (by have:=hbt.d;omega) h2;exact⟨by omega,by omega⟩
 generalize bt.a*k0+bt.b*k1+bt.d*k2=more at HAD HMO⊢;obtain⟨w1,hw1⟩:∃w1,w1=w.alloc (.cells #[PO bt.k,PP bt.a,PP bt.b,PP bt.d,PP bt.z,PQ bt.pl,PQ bt.c] 88):=⟨_,rfl⟩;have HB1:Po (Io w w1):=by rw[hw1];exact aY
 have HX:Po (cu w1 w.heap.size 0 bt):=by
  rw[hw1];exact og λj u hj=>by
   have h:=jz w bt 88 j u hj;by_cases hj0:j=0
   .subst hj0;simpa [Addr.add] using h
   .simpa [Addr.add,hj0] using h
 have HOB:=ae (hob.below HB1.o);obtain⟨fa,fc,rfl,_,_⟩:=hf;clear hbt hfs hob h0 h1 h2 hp;unfold aX;unfold cw at HAD;obtain⟨i0,hi,hz0,hz1,hz2⟩:=info_parts Tryz.infoFt;obtain⟨x0,x1,x2,x3,x4,x5,x6⟩:=HX.o;simp only[ON] at x1 x2 x3 x4 x5 x6;go_enter func77,ntmps77;go_wp2_with fail;rw[<-hw1];clear hw1;go_wp2_with (first|(go_at_call 111;refine(HAD.o _ HOB.o).mono ?_;rintro e w2 ⟨rfl,hb2⟩;have HB2:=ae hb2;clear hb2 x0 x1 x2 x3 x4 x5 x6)|(at_make;refine wpList_make_full _ rfl _ _ 79 rfl w2.heap.size 88 i0 _ 7 underlying79 hi hz0 hz1 .i64 .i64 _ _ fs.length rfl rfl rfl rfl (by rw[hz2];omega) (by unfold maxLen;omega) (Ou _) ?_;intro w3 hown hgrow;have HH0:=ae (gE.made hown hgrow);clear hown hgrow));clear hi hz0 hz1 hz2;go_loopw [20] (λi wr=>∃k:Nat,k<=fs.length/\i=PO k/\∃us:PB,us.length=k/\us=(fs.take k).map (aJ p more bt)/\gE w2 wr w2.heap.size fs.length us) (λi _=>fs.length-(intOf i).toNat);case atStart=>exact⟨0,OB _,rfl,[],rfl,by simp,HH0.o⟩
 case round=>
  clear HH0;obtain⟨k,hk,rfl,us,hus,hut,hh⟩:=hrel;have HH:=ae hh;have HUT:=ae hut;clear hh hut;have HDN:=ae (In HB1.o HB2.o);have HDR:=ae (In HDN.o HH.o.below);by_cases hk2:k<fs.length
  .obtain⟨b,off,rfl,hlt,_,hat⟩:=HF.o.at k hk2;have HTK:=ae (NP fs k hk2);have HFO:=ae (HFS.o _ (NQ fs k hk2));generalize fs.getD k dT=t at hat HTK HFO;obtain⟨c0,c1,c2,c3,c4,c5,c6⟩:=hat.keep HDR.o;subst hus;have OT:Po (cu (wr.alloc (.cells #[PO t.k,PP t.a,PP t.b,PP t.d,PP t.z,PQ t.pl,PQ t.c] 88)) wr.heap.size 0 t):=og λj u hj=>by
    have h:=jz wr t 88 j u hj;by_cases hj0:j=0
    .subst hj0;simpa [Addr.add] using h
    .simpa [Addr.add,hj0] using h
   have HBT:Po (Io wr (wr.alloc (.cells #[PO t.k,PP t.a,PP t.b,PP t.d,PP t.z,PQ t.pl,PQ t.c] 88))):=aY;go_wp2;generalize wr.alloc (.cells #[PO t.k,PP t.a,PP t.b,PP t.d,PP t.z,PQ t.pl,PQ t.c] 88)=wt at OT HBT⊢;clear c0 c1 c2 c3 c4 c5 c6;have HDT:=ae ((In HB2.o HH.o.below).trans (HBT.o.mono (In HB2.o HH.o.below).size));have HHT:=ae (HH.o.next HBT.o);have KEEP:Po (∀W,Io wt W->(W.cell? (PN wr.heap.size 0)=some (PO t.k)/\W.cell? (PN wr.heap.size 1)=some (PP t.a)/\W.cell? (PN wr.heap.size 2)=some (PP t.b)/\W.cell? (PN wr.heap.size 3)=some (PP t.d)/\W.cell? (PN wr.heap.size 4)=some (PP t.z)/\W.cell? (PN wr.heap.size 5)=some (PQ t.pl)/\W.cell? (PN wr.heap.size 6)=some (PQ t.c)/\W.cell? (PN w.heap.size 1)=some (PP bt.a)/\W.cell? (PN w.heap.size 2)=some (PP bt.b)/\W.cell? (PN w.heap.size 3)=some (PP bt.d)/\W.cell? (PN w.heap.size 4)=some (PP bt.z)/\W.cell? (PN w.heap.size 6)=some (PQ bt.c)/\Po (aQ W ob p k0 k1 k2 sv))):=λW h=>by obtain⟨y0,y1,y2,y3,y4,y5,y6⟩:=OT.o.keep h;obtain⟨z0,z1,z2,z3,z4,z5,z6⟩:=(HX.o.keep HDT.o).keep h;simp only[ON] at y1 y2 y3 y4 y5 y6 z1 z2 z3 z4 z5 z6;exact⟨y0,y1,y2,y3,y4,y5,y6,z1,z2,z3,z4,z6,(HOB.o.below HDT.o).below h⟩
   have HNE:Po (wr.heap.size≠w2.heap.size/\w.heap.size≠w2.heap.size/\ob≠w2.heap.size):=by have h1:=HH.o.lt;have h2:=HOB.o.lt;have h3:=HB2.o.size;have h4:=nv HX.o.1;simp only at h4;exact⟨by omega,by omega,by omega⟩
   have KEEPS:Po (∀W,(W.cell? (PN wr.heap.size 0)=some (PO t.k)/\W.cell? (PN wr.heap.size 1)=some (PP t.a)/\W.cell? (PN wr.heap.size 2)=some (PP t.b)/\W.cell? (PN wr.heap.size 3)=some (PP t.d)/\W.cell? (PN wr.heap.size 4)=some (PP t.z)/\W.cell? (PN wr.heap.size 5)=some (PQ t.pl)/\W.cell? (PN wr.heap.size 6)=some (PQ t.c)/\W.cell? (PN w.heap.size 1)=some (PP bt.a)/\W.cell? (PN w.heap.size 2)=some (PP bt.b)/\W.cell? (PN w.heap.size 3)=some (PP bt.d)/\W.cell? (PN w.heap.size 4)=some (PP bt.z)/\W.cell? (PN w.heap.size 6)=some (PQ bt.c)/\Po (aQ W ob p k0 k1 k2 sv))->((((((((W.setCell ⟨w2.heap.size,us.length*7,none⟩ (PO (t.k+more))).setCell ⟨w2.heap.size,us.length*7+1,none⟩ (PP (t.a+bt.a))).setCell ⟨w2.heap.size,us.length*7+2,none⟩ (PP (t.b+bt.b))).setCell ⟨w2.heap.size,us.length*7+3,none⟩ (PP (t.d+bt.d))).setCell ⟨w2.heap.size,us.length*7+4,none⟩ (PP (t.z+bt.z))).setCell ⟨w2.heap.size,us.length*7+5,none⟩ (PQ t.pl)).setCell ⟨w2.heap.size,us.length*7+6,none⟩ (PQ (t.c*bt.c%p))).cell? (PN wr.heap.size 0)=some (PO t.k)/\(((((((W.setCell ⟨w2.heap.size,us.length*7,none⟩ (PO (t.k+more))).setCell ⟨w2.heap.size,us.length*7+1,none⟩ (PP (t.a+bt.a))).setCell ⟨w2.heap.size,us.length*7+2,none⟩ (PP (t.b+bt.b))).setCell ⟨w2.heap.size,us.length*7+3,none⟩ (PP (t.d+bt.d))).setCell ⟨w2.heap.size,us.length*7+4,none⟩ (PP (t.z+bt.z))).setCell ⟨w2.heap.size,us.length*7+5,none⟩ (PQ t.pl)).setCell ⟨w2.heap.size,us.length*7+6,none⟩ (PQ (t.c*bt.c%p))).cell? (PN wr.heap.size 1)=some (PP t.a)/\(((((((W.setCell ⟨w2.heap.size,us.length*7,none⟩ (PO (t.k+more))).setCell ⟨w2.heap.size,us.length*7+1,none⟩ (PP (t.a+bt.a))).setCell ⟨w2.heap.size,us.length*7+2,none⟩ (PP (t.b+bt.b))).setCell ⟨w2.heap.size,us.length*7+3,none⟩ (PP (t.d+bt.d))).setCell ⟨w2.heap.size,us.length*7+4,none⟩ (PP (t.z+bt.z))).setCell ⟨w2.heap.size,us.length*7+5,none⟩ (PQ t.pl)).setCell ⟨w2.heap.size,us.length*7+6,none⟩ (PQ (t.c*bt.c%p))).cell? (PN wr.heap.size 2)=some (PP t.b)/\(((((((W.setCell ⟨w2.heap.size,us.length*7,none⟩ (PO (t.k+more))).setCell ⟨w2.heap.size,us.length*7+1,none⟩ (PP (t.a+bt.a))).setCell ⟨w2.heap.size,us.length*7+2,none⟩ (PP (t.b+bt.b))).setCell ⟨w2.heap.size,us.length*7+3,none⟩ (PP (t.d+bt.d))).setCell ⟨w2.heap.size,us.length*7+4,none⟩ (PP (t.z+bt.z))).setCell ⟨w2.heap.size,us.length*7+5,none⟩ (PQ t.pl)).setCell ⟨w2.heap.size,us.length*7+6,none⟩ (PQ (t.c*bt.c%p))).cell? (PN wr.heap.size 3)=some (PP t.d)/\(((((((W.setCell ⟨w2.heap.size,us.length*7,none⟩ (PO (t.k+more))).setCell ⟨w2.heap.size,us.length*7+1,none⟩ (PP (t.a+bt.a))).setCell ⟨w2.heap.size,us.length*7+2,none⟩ (PP (t.b+bt.b))).setCell ⟨w2.heap.size,us.length*7+3,none⟩ (PP (t.d+bt.d))).setCell ⟨w2.heap.size,us.length*7+4,none⟩ (PP (t.z+bt.z))).setCell ⟨w2.heap.size,us.length*7+5,none⟩ (PQ t.pl)).setCell ⟨w2.heap.size,us.length*7+6,none⟩ (PQ (t.c*bt.c%p))).cell? (PN wr.heap.size 4)=some (PP t.z)/\(((((((W.setCell ⟨w2.heap.size,us.length*7,none⟩ (PO (t.k+more))).setCell ⟨w2.heap.size,us.length*7+1,none⟩ (PP (t.a+bt.a))).setCell ⟨w2.heap.size,us.length*7+2,none⟩ (PP (t.b+bt.b))).setCell ⟨w2.heap.size,us.length*7+3,none⟩ (PP (t.d+bt.d))).setCell ⟨w2.heap.size,us.length*7+4,none⟩ (PP (t.z+bt.z))).setCell ⟨w2.heap.size,us.length*7+5,none⟩ (PQ t.pl)).setCell ⟨w2.heap.size,us.length*7+6,none⟩ (PQ (t.c*bt.c%p))).cell? (PN wr.heap.size 5)=some (PQ t.pl)/\(((((((W.setCell ⟨w2.heap.size,us.length*7,none⟩ (PO (t.k+more))).setCell ⟨w2.heap.size,us.length*7+1,none⟩ (PP (t.a+bt.a))).setCell ⟨w2.heap.size,us.length*7+2,none⟩ (PP (t.b+bt.b))).setCell ⟨w2.heap.size,us.length*7+3,none⟩ (PP (t.d+bt.d))).setCell ⟨w2.heap.size,us.length*7+4,none⟩ (PP (t.z+bt.z))).setCell ⟨w2.heap.size,us.length*7+5,none⟩ (PQ t.pl)).setCell ⟨w2.heap.size,us.length*7+6,none⟩ (PQ (t.c*bt.c%p))).cell? (PN wr.heap.size 6)=some (PQ t.c)/\(((((((W.setCell ⟨w2.heap.size,us.length*7,none⟩ (PO (t.k+more))).setCell ⟨w2.heap.size,us.length*7+1,none⟩ (PP (t.a+bt.a))).setCell ⟨w2.heap.size,us.length*7+2,none⟩ (PP (t.b+bt.b))).setCell ⟨w2.heap.size,us.length*7+3,none⟩ (PP (t.d+bt.d))).setCell ⟨w2.heap.size,us.length*7+4,none⟩ (PP (t.z+bt.z))).setCell ⟨w2.heap.size,us.length*7+5,none⟩ (PQ t.pl)).setCell ⟨w2.heap.size,us.length*7+6,none⟩ (PQ (t.c*bt.c%p))).cell? (PN w.heap.size 1)=some (PP bt.a)/\(((((((W.setCell ⟨w2.heap.size,us.length*7,none⟩ (PO (t.k+more))).setCell ⟨w2.heap.size,us.length*7+1,none⟩ (PP (t.a+bt.a))).setCell ⟨w2.heap.size,us.length*7+2,none⟩ (PP (t.b+bt.b))).setCell ⟨w2.heap.size,us.length*7+3,none⟩ (PP (t.d+bt.d))).setCell ⟨w2.heap.size,us.length*7+4,none⟩ (PP (t.z+bt.z))).setCell ⟨w2.heap.size,us.length*7+5,none⟩ (PQ t.pl)).setCell ⟨w2.heap.size,us.length*7+6,none⟩ (PQ (t.c*bt.c%p))).cell? (PN w.heap.size 2)=some (PP bt.b)/\(((((((W.setCell ⟨w2.heap.size,us.length*7,none⟩ (PO (t.k+more))).setCell ⟨w2.heap.size,us.length*7+1,none⟩ (PP (t.a+bt.a))).setCell ⟨w2.heap.size,us.length*7+2,none⟩ (PP (t.b+bt.b))).setCell ⟨w2.heap.size,us.length*7+3,none⟩ (PP (t.d+bt.d))).setCell ⟨w2.heap.size,us.length*7+4,none⟩ (PP (t.z+bt.z))).setCell ⟨w2.heap.size,us.length*7+5,none⟩ (PQ t.pl)).setCell ⟨w2.heap.size,us.length*7+6,none⟩ (PQ (t.c*bt.c%p))).cell? (PN w.heap.size 3)=some (PP bt.d)/\(((((((W.setCell ⟨w2.heap.size,us.length*7,none⟩ (PO (t.k+more))).setCell ⟨w2.heap.size,us.length*7+1,none⟩ (PP (t.a+bt.a))).setCell ⟨w2.heap.size,us.length*7+2,none⟩ (PP (t.b+bt.b))).setCell ⟨w2.heap.size,us.length*7+3,none⟩ (PP (t.d+bt.d))).setCell ⟨w2.heap.size,us.length*7+4,none⟩ (PP (t.z+bt.z))).setCell ⟨w2.heap.size,us.length*7+5,none⟩ (PQ t.pl)).setCell ⟨w2.heap.size,us.length*7+6,none⟩ (PQ (t.c*bt.c%p))).cell? (PN w.heap.size 4)=some (PP bt.z)/\(((((((W.setCell ⟨w2.heap.size,us.length*7,none⟩ (PO (t.k+more))).setCell ⟨w2.heap.size,us.length*7+1,none⟩ (PP (t.a+bt.a))).setCell ⟨w2.heap.size,us.length*7+2,none⟩ (PP (t.b+bt.b))).setCell ⟨w2.heap.size,us.length*7+3,none⟩ (PP (t.d+bt.d))).setCell ⟨w2.heap.size,us.length*7+4,none⟩ (PP (t.z+bt.z))).setCell ⟨w2.heap.size,us.length*7+5,none⟩ (PQ t.pl)).setCell ⟨w2.heap.size,us.length*7+6,none⟩ (PQ (t.c*bt.c%p))).cell? (PN w.heap.size 6)=some (PQ bt.c)/\Po (aQ (((((((W.setCell ⟨w2.heap.size,us.length*7,none⟩ (PO (t.k+more))).setCell ⟨w2.heap.size,us.length*7+1,none⟩ (PP (t.a+bt.a))).setCell ⟨w2.heap.size,us.length*7+2,none⟩ (PP (t.b+bt.b))).setCell ⟨w2.heap.size,us.length*7+3,none⟩ (PP (t.d+bt.d))).setCell ⟨w2.heap.size,us.length*7+4,none⟩ (PP (t.z+bt.z))).setCell ⟨w2.heap.size,us.length*7+5,none⟩ (PQ t.pl)).setCell ⟨w2.heap.size,us.length*7+6,none⟩ (PQ (t.c*bt.c%p))) ob p k0 k1 k2 sv))):=λW h=>by
    obtain⟨y0,y1,y2,y3,y4,y5,y6,z1,z2,z3,z4,z6,hO⟩:=h;obtain⟨n1,n2,n3⟩:=HNE.o;have F:∀b o,b≠w2.heap.size->(((((((W.setCell ⟨w2.heap.size,us.length*7,none⟩ (PO (t.k+more))).setCell ⟨w2.heap.size,us.length*7+1,none⟩ (PP (t.a+bt.a))).setCell ⟨w2.heap.size,us.length*7+2,none⟩ (PP (t.b+bt.b))).setCell ⟨w2.heap.size,us.length*7+3,none⟩ (PP (t.d+bt.d))).setCell ⟨w2.heap.size,us.length*7+4,none⟩ (PP (t.z+bt.z))).setCell ⟨w2.heap.size,us.length*7+5,none⟩ (PQ t.pl)).setCell ⟨w2.heap.size,us.length*7+6,none⟩ (PQ (t.c*bt.c%p))).cell? (PN b o)=W.cell? (PN b o):=λb o h=>NO (t:=aJ p more bt t) (k:=us.length) h;refine⟨?_,?_,?_,?_,?_,?_,?_,?_,?_,?_,?_,?_,?_⟩
    .rw[F _ _ n1];exact y0
    .rw[F _ _ n1];exact y1
    .rw[F _ _ n1];exact y2
    .rw[F _ _ n1];exact y3
    .rw[F _ _ n1];exact y4
    .rw[F _ _ n1];exact y5
    .rw[F _ _ n1];exact y6
    .rw[F _ _ n2];exact z1
    .rw[F _ _ n2];exact z2
    .rw[F _ _ n2];exact z3
    .rw[F _ _ n2];exact z4
    .rw[F _ _ n2];exact z6
    .exact⟨by simpa using hO.o.lt,by rw[F _ _ n3];exact hO.o.c0,by rw[F _ _ n3];exact hO.o.c1,by rw[F _ _ n3];exact hO.o.c2,by rw[F _ _ n3];exact hO.o.c3,by rw[F _ _ n3];exact hO.o.c4⟩
   have HB0:Po (Io wt wt.drew):=(Ov _ _).drew;have HTM:=ae (fun(W:PJ)=>NL t.a t.b t.d t.z bt.a bt.b bt.d bt.z W (by have h1:=HFO.o.a;have h2:=HBT0.o.a;omega) (by have h1:=HFO.o.b;have h2:=HBT0.o.b;omega) (by have h1:=HFO.o.d;have h2:=HBT0.o.d;omega) (by have h1:=HFO.o.z;have h2:=HBT0.o.z;omega));unfold cw at HTM;have HTI:=ae (fun(W:PJ)(hW:aQ W ob p k0 k1 k2 sv)=>Cm ob p k0 k1 k2 sv t.c bt.c W hW HP.o (by have h1:=HFO.o.c;have h2:=HP.o;omega) (by have h1:=HBT0.o.c;have h2:=HP.o;omega));obtain⟨mq0,mq1⟩:=HMO.o;obtain⟨kq0,kq1⟩:=HFO.o.k;have hwk:IntKind.i64.wrap (t.k+more)=t.k+more:=by rw[IntKind.wrap_i64];omega
   clear mq0 mq1 kq0 kq1;go_region_held (λW=>W.cell? (PN wr.heap.size 0)=some (PO t.k)/\W.cell? (PN wr.heap.size 1)=some (PP t.a)/\W.cell? (PN wr.heap.size 2)=some (PP t.b)/\W.cell? (PN wr.heap.size 3)=some (PP t.d)/\W.cell? (PN wr.heap.size 4)=some (PP t.z)/\W.cell? (PN wr.heap.size 5)=some (PQ t.pl)/\W.cell? (PN wr.heap.size 6)=some (PQ t.c)/\W.cell? (PN w.heap.size 1)=some (PP bt.a)/\W.cell? (PN w.heap.size 2)=some (PP bt.b)/\W.cell? (PN w.heap.size 3)=some (PP bt.d)/\W.cell? (PN w.heap.size 4)=some (PP bt.z)/\W.cell? (PN w.heap.size 6)=some (PQ bt.c)/\Po (aQ W ob p k0 k1 k2 sv))
    (first|with_reducible exact KEEP.o _ HB0.o|with_reducible exact KEEP.o _ HB8.o|with_reducible exact KEEPS.o w9 (KEEP.o _ HB8.o))
    (first|(go_at_call 112;refine(HTM.o _).mono ?_;rintro e w8 ⟨rfl,hb8⟩;have HB8:=ae (In HB0.o hb8);have HH8:=ae (HHT.o.next HB8.o);obtain⟨⟨v0,f0⟩,g0⟩:=HH8.o.cell (us.length*7) (by omega);obtain⟨⟨v1,f1⟩,g1⟩:=HH8.o.cell (us.length*7+1) (by omega);obtain⟨⟨v2,f2⟩,g2⟩:=HH8.o.cell (us.length*7+2) (by omega);obtain⟨⟨v3,f3⟩,g3⟩:=HH8.o.cell (us.length*7+3) (by omega);obtain⟨⟨v4,f4⟩,g4⟩:=HH8.o.cell (us.length*7+4) (by omega);obtain⟨⟨v5,f5⟩,g5⟩:=HH8.o.cell (us.length*7+5) (by omega);obtain⟨⟨v6,f6⟩,g6⟩:=HH8.o.cell (us.length*7+6) (by omega);clear hb8)|(go_at_call 113;refine(HTI.o _ (KEEP.o _ HB8.o).2.2.2.2.2.2.2.2.2.2.2.2.o).mono ?_;rintro e w9 ⟨rfl,rfl⟩))
   all_goals
    go_wp2;go_roundw;case rel=>exact⟨us.length+1,by omega,by go_num,us++[aJ p more bt t],by simp,by rw[HTK.o,O0,<-HUT.o];rfl,HH8.o.put hk2 (aJ p more bt t)⟩
    case measure=>simp[intOf];omega
  .have e:k=fs.length:=by omega
   subst e;go_wp2;go_ret;refine⟨_,rfl,?_,HDR.o⟩;have h:=HH.o.done hus;rw[HUT.o,OO (Ou _)] at h;exact h
end Go.Proofs.YtjkalahhpobefaaGreat
