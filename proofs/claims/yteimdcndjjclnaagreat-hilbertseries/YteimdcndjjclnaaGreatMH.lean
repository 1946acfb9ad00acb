/- What no lead goes into: the closures of hilbert's count. -/
import Derived.Test.YteimdcndjjclnaaGreatMD
import Derived.Test.YteimdcndjjclnaaGreatKI
set_option maxHeartbeats 1000000
set_option maxRecDepth 100000
namespace Go.Proofs.YteimdcndjjclnaaGreat
set_option linter.all false
open Go.Proofs.Tryz Go.RowKit
structure kU(w:World)(b o:Nat)(e:Gb.Mo):Prop where
 c0:w.cell? ⟨b,o,none⟩=some (.int .u16 (e.1:Int))
 c1:w.cell? ⟨b,o+1,none⟩=some (.int .u16 (e.2.1:Int))
 c2:w.cell? ⟨b,o+2,none⟩=some (.int .u16 (e.2.2:Int))
 c3:w.cell? ⟨b,o+3,none⟩=some (.int .u16 0)
theorem kU.below{w w':World}{b o:Nat}{e:Gb.Mo}(h:kU w b o e){B:Nat}(hb:Below B w w')(hlt:b<B):kU w' b o e:=
 ⟨(hb.cell (p:=⟨b,o,none⟩) hlt).trans h.c0,(hb.cell (p:=⟨b,o+1,none⟩) hlt).trans h.c1,(hb.cell (p:=⟨b,o+2,none⟩) hlt).trans h.c2,(hb.cell (p:=⟨b,o+3,none⟩) hlt).trans h.c3⟩
def jD(w:World)(v:Value)(es:List Gb.Mo):Prop:=∃a cap,v=.slice a es.length cap/\∀k (h:k<es.length),∃b,a=some ⟨b,0,none⟩/\b<w.heap.size/\kU w b (k*4) es[k]
theorem jD.below{w w':World}{v:Value}{es:List Gb.Mo}(h:jD w v es)(hb:Below w.heap.size w w'):jD w' v es:=by obtain⟨a,cap,rfl,h⟩:=h;refine⟨a,cap,rfl,λk hk=>?_⟩;obtain⟨b,rfl,hlt,h⟩:=h k hk;exact⟨b,rfl,Lj hlt hb.size,h.below hb hlt⟩
def cd(l e:Gb.Mo):Bool:=decide (l.1<=e.1)&&decide (l.2.1<=e.2.1)&&decide (l.2.2<=e.2.2)
theorem Hk(l e:Gb.Mo):fI l.1 l.2.1 l.2.2 0 e.1 e.2.1 e.2.2 0=cd l e:=by unfold fI cd;simp
theorem Hl(be:Nat)(l e:Gb.Mo)(w:World)(hbe:be<w.heap.size)(hc:kU w be 0 e):Calls prog 33 #[xV l,.pointer (some ⟨be,0,none⟩)] w λr w'=>r=.returned (.bool (cd l e))/\Below w.heap.size w w':=by
 obtain⟨w1,hw1⟩:∃w1,w1=w.alloc (.cells #[.int .u16 (l.1:Int),.int .u16 (l.2.1:Int),.int .u16 (l.2.2:Int),.int .u16 0] 45):=⟨_,rfl⟩;have HB1:Ma (Below w.heap.size w w1):=by rw[hw1];exact aj
 have x0:w1.cell? ⟨w.heap.size,0,none⟩=some (.int .u16 (l.1:Int)):=by rw[hw1];simp[go_sem]
 have x1:w1.cell? ⟨w.heap.size,1,none⟩=some (.int .u16 (l.2.1:Int)):=by rw[hw1];simp[go_sem]
 have x2:w1.cell? ⟨w.heap.size,2,none⟩=some (.int .u16 (l.2.2:Int)):=by rw[hw1];simp[go_sem]
 have x3:w1.cell? ⟨w.heap.size,3,none⟩=some (.int .u16 0):=by rw[hw1];simp[go_sem]
 obtain⟨d0,d1,d2,d3⟩:=hc.below HB1.o hbe;simp only[Ly] at d0 d1 d2 d3;have HI:Ma (Calls prog 34 #[.agg #[.int .u16 (l.1:Int),.int .u16 (l.2.1:Int),.int .u16 (l.2.2:Int),.int .u16 0],.agg #[.int .u16 (e.1:Int),.int .u16 (e.2.1:Int),.int .u16 (e.2.2:Int),.int .u16 0]] w1 λr w'=>r=.returned (.bool (cd l e))/\Below w1.heap.size w1 w'):=by have:=qw l.1 l.2.1 l.2.2 0 e.1 e.2.1 e.2.2 0 w1;rw[Hk] at this;exact this
 unfold xV;clear hc;go_enter func33,ntmps33;go_upto_region 1 with fail;rw[<-hw1];clear hw1;go_wp2_with (go_at_call 34;refine HI.o.mono ?_;rintro e w9 ⟨rfl,hb9⟩;have HB9:=ac hb9;clear hb9);go_ret;exact⟨rfl,HB1.o.trans (HB9.o.mono HB1.o.size)⟩
theorem Hn(f:Gb.Mo->Bool)(xs:List Gb.Mo)(k:Nat)(h:k<xs.length)(h0:(xs.take k).any f=false)(h1:f xs[k]=false):(xs.take (k+1)).any f=false:=by rw[LK h,List.any_append,h0];simpa using h1
theorem Ho(be:Nat)(v:Value)(es:List Gb.Mo)(e:Gb.Mo)(w:World)(hbe:be<w.heap.size)(hc:kU w be 0 e)(hs:jD w v es)(hn:es.length<=5000000):Calls prog 59 #[v,.func (.func 33) #[] #[.pointer (some ⟨be,0,none⟩)]] w λr w'=>∃i:Int,r=.returned (.int .i64 i)/\decide (0<=i)=es.any (λl=>cd l e)/\Below w.heap.size w w':=by
 have HC:=ac hc;have HS:=ac hs;obtain⟨xa,xc,rfl,_⟩:=hs;clear hc;go_enter func59,ntmps59;go_wp2_with fail;go_loopw [8] (λi wr=>∃m:Nat,m<=es.length/\i=.int .i64 m/\(es.take m).any (λl=>cd l e)=false/\Below w.heap.size w wr) (λi _=>es.length-(intOf i).toNat);case atStart=>exact⟨0,Ll _,rfl,rfl,Lf _ _⟩
 case round=>
  obtain⟨m,hm,rfl,hno,hbr⟩:=hrel;have HNO:=ac hno;have HBR:=ac hbr;clear hno hbr;by_cases hm2:m<es.length
  .obtain⟨a2,c2,e2,h2⟩:=HS.o.below HBR.o;simp only[LB,true_and] at e2;obtain⟨rfl,rfl⟩:=e2;obtain⟨b,rfl,hlt,hx⟩:=h2 m hm2;obtain⟨f0,f1,f2,f3⟩:=hx;have hzz:=HBR.o.size;have HCC:=ac (Hl be es[m] e wr (by omega) (HC.o.below HBR.o hbe));have HFI:Ma (cd es[m] e=true->es.any (λl=>cd l e)=true):=λh=>List.any_eq_true.2 ⟨_,Lo hm2,h⟩;have HNX:Ma (cd es[m] e=false->(es.take (m+1)).any (λl=>cd l e)=false):=λh=>Hn _ es m hm2 HNO.o h;unfold xV at HCC;clear h2;have hmI:(m:Int)<(es.length:Int):=by omega
   generalize es[m]=q at HCC HFI HNX f0 f1 f2 f3;generalize hdv:cd q e=dv at HCC HFI HNX;clear hdv;cases dv
   .have HNX2:=ac (HNX.o rfl);clear HNX HFI;go_wp2_with (go_at_call 33;refine HCC.o.mono ?_;rintro e w9 ⟨rfl,hb9⟩;have HB9:=ac hb9;clear hb9);go_roundw;case rel=>exact⟨m+1,by omega,by go_num,HNX2.o,HBR.o.trans (HB9.o.mono HBR.o.size)⟩
    case measure=>simp[intOf];omega
   .have HFI2:=ac (HFI.o rfl);clear HNX HFI;go_wp2_with (go_at_call 33;refine HCC.o.mono ?_;rintro e w9 ⟨rfl,hb9⟩;have HB9:=ac hb9;clear hb9);go_ret;exact⟨m,rfl,by rw[HFI2.o];simp,HBR.o.trans (HB9.o.mono HBR.o.size)⟩
  .have e2:m=es.length:=by omega
   subst e2;have HE:Ma (es.any (λl=>cd l e)=false):=by have:=HNO.o;rw[Lz (Lc _)] at this;exact this
   go_wp2;go_ret;exact⟨-1,rfl,by rw[HE.o];rfl,HBR.o⟩
theorem Hp(be:Nat)(v:Value)(es:List Gb.Mo)(e:Gb.Mo)(w:World)(hbe:be<w.heap.size)(hc:kU w be 0 e)(hs:jD w v es)(hn:es.length<=5000000):Calls prog 32 #[v,.func (.func 33) #[] #[.pointer (some ⟨be,0,none⟩)]] w λr w'=>r=.returned (.bool (es.any (λl=>cd l e)))/\Below w.heap.size w w':=by have HIX:=ac (Ho be v es e w hbe hc hs hn);obtain⟨xa,xc,rfl,_⟩:=hs;clear hc;go_enter func32,ntmps32;go_wp2_with (go_at_call 59;refine HIX.o.mono ?_;rintro e w9 ⟨r9,rfl,hp9,hb9⟩;have HB9:=ac hb9;have HP9:=ac hp9;clear hb9 hp9);go_ret;exact⟨by rw[<-HP9.o];rfl,HB9.o⟩
theorem Hq(bl:Nat)(v:Value)(es:List Gb.Mo)(e:Gb.Mo)(w:World)(hbl:bl<w.heap.size)(hc:w.cell? ⟨bl,0,none⟩=some v)(hs:jD w v es)(hn:es.length<=5000000):Calls prog 31 #[xV e,.pointer (some ⟨bl,0,none⟩)] w λr w'=>r=.returned (.bool (!es.any (λl=>cd l e)))/\Below w.heap.size w w':=by
 obtain⟨w1,hw1⟩:∃w1,w1=w.alloc (.cells #[.int .u16 (e.1:Int),.int .u16 (e.2.1:Int),.int .u16 (e.2.2:Int),.int .u16 0] 45):=⟨_,rfl⟩;have HB1:Ma (Below w.heap.size w w1):=by rw[hw1];exact aj
 have HX:Ma (kU w1 w.heap.size 0 e):=by rw[hw1];exact⟨by simp[go_sem],by simp[go_sem],by simp[go_sem],by simp[go_sem]⟩
 have hz1:w1.heap.size=w.heap.size+1:=by rw[hw1];simp
 have HH:=ac (Hp w.heap.size v es e w1 (by omega) HX.o (hs.below HB1.o) hn);have hc1:=(HB1.o.cell (p:=⟨bl,0,none⟩) hbl).trans hc;obtain⟨xa,xc,rfl,_⟩:=hs;clear hc;unfold xV;go_enter func31,ntmps31;go_upto_region 1 with fail;rw[<-hw1];clear hw1;go_wp2_with (go_at_call 32;refine HH.o.mono ?_;rintro e w9 ⟨rfl,hb9⟩;have HB9:=ac hb9;clear hb9);go_ret;exact⟨rfl,HB1.o.trans (HB9.o.mono HB1.o.size)⟩
end Go.Proofs.YteimdcndjjclnaaGreat
