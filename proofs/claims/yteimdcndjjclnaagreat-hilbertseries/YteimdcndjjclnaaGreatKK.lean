/- Regions that draw, read, and call what makes memory of its own: one walk in the text's order; the closure of dropPairs. -/
import Derived.Test.YteimdcndjjclnaaGreatKI
set_option maxHeartbeats 4000000
set_option maxRecDepth 100000
namespace Go.Proofs.YteimdcndjjclnaaGreat
set_option linter.all false
open Go.Proofs.Tryz Go.RowKit
structure cH(w:World) where
 w':World
 h:Below w.heap.size w w'
theorem fY{P:Program}{id:Nat}{Q:Exit->Act->World->Prop}{a:Act}{w:World}{l:List Oper}(hm:P.follows .mixedOrders=true)(hB:Region.lexB .any l.toArray=true)(h:wpQuiet P l.toArray (λw'=>∃p:cH w,w'=p.w') (λa'=>∀w',(∃p:cH w,w'=p.w')->Q .normal a' w') l a):(Code.region id l.toArray true).wp P Q a w:=
 wp_region_quiet (C:=λw'=>∃p:cH w,w'=p.w') hm hB ⟨⟨w.drew,(Lf _ _).drew⟩,rfl⟩ (by simpa using h)
theorem Calls.below_of{P:Program}{f:FuncId}{args:Array Value}{w:World}{p:cH w}{v:Value}(h:Calls P f args p.w' λe w'=>e=.returned v/\Below p.w'.heap.size p.w' w'):Calls P f args p.w' λe w''=>e=.returned v/\∃q:cH w,w''=q.w':=
 h.mono λ_ _ ⟨he,hb⟩=>⟨he,⟨_,p.h.trans (hb.mono p.h.size)⟩,rfl⟩
theorem Tryz.infoU16:(prog.info? 43).map (λi=>(i.zero,i.size,i.bytes))=some (some (.int .u16 0),1,2):=by kernel_rfl
def lS(a b d z a2 b2 d2 z2:Int):Bool:=decide (a=a2)&&decide (b=b2)&&decide (d=d2)&&decide (z=z2)
theorem yV(a b d z a2 b2 d2 z2:Int)(w:World):(Op.equalIn 10000 45 (.agg #[.int .u16 a,.int .u16 b,.int .u16 d,.int .u16 z]) (.agg #[.int .u16 a2,.int .u16 b2,.int .u16 d2,.int .u16 z2])).run prog w=.ok (lS a b d z a2 b2 d2 z2) w:=by
 obtain⟨i0,hi,hz0,hz1,hz2⟩:=info_parts Tryz.infoU16;rw[run_equalIn_array w 9999 _ _ underlying45 hi];have hc:prog.cellsOf 43=1:=by kernel_rfl
 rw[hc];have e:∀(x y:Int)(W:World),(Op.equalIn 9999 43 (.int .u16 x) (.int .u16 y)).run prog W=.ok (x==y) W:=λx y W=>run_equalIn_int W 9998 43 .u16 .u16 x y underlying43;have p0:∀(x y u v:Int)(W:World),(part 43 #[.int .u16 x,.int .u16 y,.int .u16 u,.int .u16 v] 0).run prog W=.ok (.int .u16 x) W:=λ_ _ _ _ _=>by kernel_rfl
 have p1:∀(x y u v:Int)(W:World),(part 43 #[.int .u16 x,.int .u16 y,.int .u16 u,.int .u16 v] 1).run prog W=.ok (.int .u16 y) W:=λ_ _ _ _ _=>by kernel_rfl
 have p2:∀(x y u v:Int)(W:World),(part 43 #[.int .u16 x,.int .u16 y,.int .u16 u,.int .u16 v] 2).run prog W=.ok (.int .u16 u) W:=λ_ _ _ _ _=>by kernel_rfl
 have p3:∀(x y u v:Int)(W:World),(part 43 #[.int .u16 x,.int .u16 y,.int .u16 u,.int .u16 v] 3).run prog W=.ok (.int .u16 v) W:=λ_ _ _ _ _=>by kernel_rfl
 unfold lS;simp only[show List.range 4=[0,1,2,3] from rfl,Op.eqItems,Sem.run_bind];by_cases h1:a=a2<;>by_cases h2:b=b2<;>by_cases h3:d=d2<;>by_cases h4:z=z2<;>simp[p0,p1,p2,p3,e,h1,h2,h3,h4]
def mP(x y f:Ft)(q:Pq):Bool:=decide (x.pl=f.pl)&&fI f.a f.b f.d f.z q.a q.b q.d q.z&& !lS (dA x f) (dB x f) (dC x f) (dD x f) q.a q.b q.d q.z&& !lS (dA y f) (dB y f) (dC y f) (dD y f) q.a q.b q.d q.z
def jZ(B:Nat)(w:World)(g:Nat)(q:Pq):Prop:=w.ownsRow B 126 8 (.slice (some ⟨g,0,none⟩) 1 1) 1 (aH q)
theorem kL{B:Nat}{w:World}(hB:B<=w.heap.size)(q:Pq):jZ B (w.alloc (.cells #[.pointer (some ⟨q.b1,0,none⟩),.pointer (some ⟨q.b2,0,none⟩),.int .u16 q.a,.int .u16 q.b,.int .u16 q.d,.int .u16 q.z,.int .i64 q.dg,.int .i64 q.k] 126)) w.heap.size q:=World.ownsRow_lit w _ 1 hB (by decide) (by simp)
def ig(w:World)(g off:Nat)(q:Pq):Prop:=w.cell? ⟨g,off,none⟩=some (.pointer (some ⟨q.b1,0,none⟩))/\w.cell? ⟨g,off+1,none⟩=some (.pointer (some ⟨q.b2,0,none⟩))/\w.cell? ⟨g,off+2,none⟩=some (.int .u16 q.a)/\w.cell? ⟨g,off+3,none⟩=some (.int .u16 q.b)/\w.cell? ⟨g,off+4,none⟩=some (.int .u16 q.d)/\w.cell? ⟨g,off+5,none⟩=some (.int .u16 q.z)/\w.cell? ⟨g,off+6,none⟩=some (.int .i64 q.dg)/\w.cell? ⟨g,off+7,none⟩=some (.int .i64 q.k)
theorem ig.keep{w w':World}{g off:Nat}{q:Pq}(h:ig w g off q)(hb:Below w.heap.size w w'):ig w' g off q:=
 ⟨ae h.1 hb,ae h.2.1 hb,ae h.2.2.1 hb,ae h.2.2.2.1 hb,ae h.2.2.2.2.1 hb,ae h.2.2.2.2.2.1 hb,ae h.2.2.2.2.2.2.1 hb,ae h.2.2.2.2.2.2.2 hb⟩
theorem jZ.at{B:Nat}{w:World}{g:Nat}{q:Pq}(h:jZ B w g q):ig w g 0 q:=by
 have hc:∀j,j<8->w.cell? ⟨g,0+j,none⟩=(aH q)[j]?:=λj hj=>by rw[Ly];exact La h j (by omega)
 exact⟨hc 0 (by omega),hc 1 (by omega),hc 2 (by omega),hc 3 (by omega),hc 4 (by omega),hc 5 (by omega),hc 6 (by omega),hc 7 (by omega)⟩
theorem F4(p:Int)(fb:Nat)(x y f:Mm)(q:Pq)(w:World)(hx:iO p w x)(hy:iO p w y)(hf:iO p w f)(hq1:q.b1=x.blk)(hq2:q.b2=y.blk)(hfb:w.cell? ⟨fb,0,none⟩=some (.pointer (some ⟨f.blk,0,none⟩))):Calls prog 136 #[d8 q,.pointer (some ⟨fb,0,none⟩)] w λe w'=>e=.returned (.bool (mP x.L y.L f.L q))/\Below w.heap.size w w':=by
 obtain⟨w1,hw1⟩:∃w1,w1=w.alloc (.cells #[.pointer (some ⟨q.b1,0,none⟩),.pointer (some ⟨q.b2,0,none⟩),.int .u16 q.a,.int .u16 q.b,.int .u16 q.d,.int .u16 q.z,.int .i64 q.dg,.int .i64 q.k] 126):=⟨_,rfl⟩;have HB1:Ma (Below w.heap.size w w1):=by rw[hw1];exact aj
 have HX8:Ma (jZ w.heap.size w1 w.heap.size q):=by rw[hw1];exact kL (Lc _) q
 have HIN:Ma (∀W,Calls prog 34 #[.agg #[.int .u16 f.L.a,.int .u16 f.L.b,.int .u16 f.L.d,.int .u16 f.L.z],.agg #[.int .u16 q.a,.int .u16 q.b,.int .u16 q.d,.int .u16 q.z]] W λe w'=>e=.returned (.bool (fI f.L.a f.L.b f.L.d f.L.z q.a q.b q.d q.z))/\Below W.heap.size W w'):=λW=>qw _ _ _ _ _ _ _ _ W;have HL1:Ma (∀W,Calls prog 52 #[.agg #[.int .u16 x.L.a,.int .u16 x.L.b,.int .u16 x.L.d,.int .u16 x.L.z],.agg #[.int .u16 f.L.a,.int .u16 f.L.b,.int .u16 f.L.d,.int .u16 f.L.z]] W λe w'=>e=.returned (.agg #[.int .u16 (dA x.L f.L),.int .u16 (dB x.L f.L),.int .u16 (dC x.L f.L),.int .u16 (dD x.L f.L)])/\Below W.heap.size W w'):=λW=>qt _ _ _ _ _ _ _ _ W;have HL2:Ma (∀W,Calls prog 52 #[.agg #[.int .u16 y.L.a,.int .u16 y.L.b,.int .u16 y.L.d,.int .u16 y.L.z],.agg #[.int .u16 f.L.a,.int .u16 f.L.b,.int .u16 f.L.d,.int .u16 f.L.z]] W λe w'=>e=.returned (.agg #[.int .u16 (dA y.L f.L),.int .u16 (dB y.L f.L),.int .u16 (dC y.L f.L),.int .u16 (dD y.L f.L)])/\Below W.heap.size W w'):=λW=>qt _ _ _ _ _ _ _ _ W;have eq1:=λW=>yV (dA x.L f.L) (dB x.L f.L) (dC x.L f.L) (dD x.L f.L) q.a q.b q.d q.z W;have eq2:=λW=>yV (dA y.L f.L) (dB y.L f.L) (dC y.L f.L) (dD y.L f.L) q.a q.b q.d q.z W;have px:∀P:cH w1,P.w'.cell? ⟨x.blk,1,none⟩=some (.int .u16 x.L.a)/\P.w'.cell? ⟨x.blk,2,none⟩=some (.int .u16 x.L.b)/\P.w'.cell? ⟨x.blk,3,none⟩=some (.int .u16 x.L.d)/\P.w'.cell? ⟨x.blk,4,none⟩=some (.int .u16 x.L.z)/\P.w'.cell? ⟨x.blk,5,none⟩=some (.int .u8 x.L.pl):=λP=>by obtain⟨c0,c1,c2,c3,c4,c5,c6⟩:=((hx.div.below HB1.o).below P.h).cells;simp only[Ly] at c0 c1 c2 c3 c4 c5 c6;exact⟨c1,c2,c3,c4,c5⟩
 have py:∀P:cH w1,P.w'.cell? ⟨y.blk,1,none⟩=some (.int .u16 y.L.a)/\P.w'.cell? ⟨y.blk,2,none⟩=some (.int .u16 y.L.b)/\P.w'.cell? ⟨y.blk,3,none⟩=some (.int .u16 y.L.d)/\P.w'.cell? ⟨y.blk,4,none⟩=some (.int .u16 y.L.z):=λP=>by obtain⟨c0,c1,c2,c3,c4,c5,c6⟩:=((hy.div.below HB1.o).below P.h).cells;simp only[Ly] at c0 c1 c2 c3 c4 c5 c6;exact⟨c1,c2,c3,c4⟩
 have pf:∀P:cH w1,P.w'.cell? ⟨f.blk,1,none⟩=some (.int .u16 f.L.a)/\P.w'.cell? ⟨f.blk,2,none⟩=some (.int .u16 f.L.b)/\P.w'.cell? ⟨f.blk,3,none⟩=some (.int .u16 f.L.d)/\P.w'.cell? ⟨f.blk,4,none⟩=some (.int .u16 f.L.z)/\P.w'.cell? ⟨f.blk,5,none⟩=some (.int .u8 f.L.pl):=λP=>by obtain⟨c0,c1,c2,c3,c4,c5,c6⟩:=((hf.div.below HB1.o).below P.h).cells;simp only[Ly] at c0 c1 c2 c3 c4 c5 c6;exact⟨c1,c2,c3,c4,c5⟩
 have pq:∀P:cH w1,P.w'.cell? ⟨w.heap.size,0,none⟩=some (.pointer (some ⟨x.blk,0,none⟩))/\P.w'.cell? ⟨w.heap.size,1,none⟩=some (.pointer (some ⟨y.blk,0,none⟩))/\P.w'.cell? ⟨w.heap.size,2,none⟩=some (.int .u16 q.a)/\P.w'.cell? ⟨w.heap.size,3,none⟩=some (.int .u16 q.b)/\P.w'.cell? ⟨w.heap.size,4,none⟩=some (.int .u16 q.d)/\P.w'.cell? ⟨w.heap.size,5,none⟩=some (.int .u16 q.z):=λP=>by obtain⟨c0,c1,c2,c3,c4,c5,c6,c7⟩:=HX8.o.at.keep P.h;simp only[Ly] at c0 c1 c2 c3 c4 c5 c6 c7;rw[hq1] at c0;rw[hq2] at c1;exact⟨c0,c1,c2,c3,c4,c5⟩
 have pfb:∀P:cH w1,P.w'.cell? ⟨fb,0,none⟩=some (.pointer (some ⟨f.blk,0,none⟩)):=λP=>ae (ae hfb HB1.o) P.h;have px1:=λP=>(px P).1;have px2:=λP=>(px P).2.1;have px3:=λP=>(px P).2.2.1;have px4:=λP=>(px P).2.2.2.1;have px5:=λP=>(px P).2.2.2.2;have py1:=λP=>(py P).1;have py2:=λP=>(py P).2.1;have py3:=λP=>(py P).2.2.1;have py4:=λP=>(py P).2.2.2;have pf1:=λP=>(pf P).1;have pf2:=λP=>(pf P).2.1;have pf3:=λP=>(pf P).2.2.1;have pf4:=λP=>(pf P).2.2.2.1;have pf5:=λP=>(pf P).2.2.2.2;have pq0:=λP=>(pq P).1;have pq1:=λP=>(pq P).2.1;have pq2:=λP=>(pq P).2.2.1;have pq3:=λP=>(pq P).2.2.2.1;have pq4:=λP=>(pq P).2.2.2.2.1;have pq5:=λP=>(pq P).2.2.2.2.2;unfold mP;generalize fI f.L.a f.L.b f.L.d f.L.z q.a q.b q.d q.z=g2 at HIN⊢;generalize lS (dA x.L f.L) (dB x.L f.L) (dC x.L f.L) (dD x.L f.L) q.a q.b q.d q.z=g3 at eq1⊢;generalize lS (dA y.L f.L) (dB y.L f.L) (dC y.L f.L) (dD y.L f.L) q.a q.b q.d q.z=g4 at eq2⊢;generalize dA x.L f.L=la1 at*;generalize dB x.L f.L=lb1 at*;generalize dC x.L f.L=ld1 at*;generalize dD x.L f.L=lz1 at*;generalize dA y.L f.L=la2 at*;generalize dB y.L f.L=lb2 at*;generalize dC y.L f.L=ld2 at*;generalize dD y.L f.L=lz2 at*;generalize x.L.a=xa at*;generalize x.L.b=xb at*;generalize x.L.d=xd at*;generalize x.L.z=xz at*;generalize y.L.a=ya at*;generalize y.L.b=yb at*;generalize y.L.d=yd at*;generalize y.L.z=yz at*;unfold d8;rw[hq1,hq2];rw[hq1,hq2] at hw1;clear hx hy hf px py pf pq hfb hq1 hq2 HX8;by_cases hpl:x.L.pl=f.L.pl
 .rw[<-hpl] at pf5;rw[hpl,Li rfl];rw[hpl] at px5 pf5;clear hpl;generalize f.L.pl=fpl at*;cases g2 with
  |false=>
   simp only[Bool.and_false,Bool.false_and];go_enter func136,ntmps136;go_upto_region 1 with fail;rw[<-hw1];clear hw1;have hne:Nonempty (cH w1):=⟨⟨w1,Lf _ _⟩⟩;refine fY (by kernel_rfl) (by kernel_rfl) ?_;repeat (go_big_quiet_step (first|(go_at_call 34;exact Calls.below_of (HIN.o _))|(go_at_call_of 52 xa;exact Calls.below_of (HL1.o _))|(go_at_call_of 52 ya;exact Calls.below_of (HL2.o _))))
   refine wpQuiet_nil ?_;intro _ hw';obtain⟨⟨w9,hb9⟩,rfl⟩:=hw';have HB9:=ac hb9;clear hb9 hne;go_wp2;go_ret;exact⟨rfl,HB1.o.trans (HB9.o.mono HB1.o.size)⟩
  |true=>
   cases g3 with
   |true=>
    simp only[Bool.not_true,Bool.and_false,Bool.false_and];go_enter func136,ntmps136;go_upto_region 1 with fail;rw[<-hw1];clear hw1;have hne:Nonempty (cH w1):=⟨⟨w1,Lf _ _⟩⟩;refine fY (by kernel_rfl) (by kernel_rfl) ?_;repeat (go_big_quiet_step (first|(go_at_call 34;exact Calls.below_of (HIN.o _))|(go_at_call_of 52 xa;exact Calls.below_of (HL1.o _))|(go_at_call_of 52 ya;exact Calls.below_of (HL2.o _))))
    refine wpQuiet_nil ?_;intro _ hw';obtain⟨⟨w9,hb9⟩,rfl⟩:=hw';have HB9:=ac hb9;clear hb9 hne;go_wp2;go_ret;exact⟨rfl,HB1.o.trans (HB9.o.mono HB1.o.size)⟩
   |false=>
    cases g4 with
    |true=>
     simp only[Bool.not_true,Bool.not_false,Bool.and_false,Bool.and_true];go_enter func136,ntmps136;go_upto_region 1 with fail;rw[<-hw1];clear hw1;have hne:Nonempty (cH w1):=⟨⟨w1,Lf _ _⟩⟩;refine fY (by kernel_rfl) (by kernel_rfl) ?_;repeat (go_big_quiet_step (first|(go_at_call 34;exact Calls.below_of (HIN.o _))|(go_at_call_of 52 xa;exact Calls.below_of (HL1.o _))|(go_at_call_of 52 ya;exact Calls.below_of (HL2.o _))))
     refine wpQuiet_nil ?_;intro _ hw';obtain⟨⟨w9,hb9⟩,rfl⟩:=hw';have HB9:=ac hb9;clear hb9 hne;go_wp2;go_ret;exact⟨rfl,HB1.o.trans (HB9.o.mono HB1.o.size)⟩
    |false=>
     simp only[Bool.not_false,Bool.and_true];go_enter func136,ntmps136;go_upto_region 1 with fail;rw[<-hw1];clear hw1;have hne:Nonempty (cH w1):=⟨⟨w1,Lf _ _⟩⟩;refine fY (by kernel_rfl) (by kernel_rfl) ?_;repeat (go_big_quiet_step (first|(go_at_call 34;exact Calls.below_of (HIN.o _))|(go_at_call_of 52 xa;exact Calls.below_of (HL1.o _))|(go_at_call_of 52 ya;exact Calls.below_of (HL2.o _))))
     refine wpQuiet_nil ?_;intro _ hw';obtain⟨⟨w9,hb9⟩,rfl⟩:=hw';have HB9:=ac hb9;clear hb9 hne;go_wp2;go_ret;exact⟨rfl,HB1.o.trans (HB9.o.mono HB1.o.size)⟩
 .have hdf:decide (x.L.pl=f.L.pl)=false:=Lh hpl;rw[hdf];simp only[Bool.false_and];have hbe:(x.L.pl==f.L.pl)=false:=by simpa using hpl
  generalize x.L.pl=xpl at*;generalize f.L.pl=fpl at*;go_enter func136,ntmps136;go_upto_region 1 with fail;rw[<-hw1];clear hw1;have hne:Nonempty (cH w1):=⟨⟨w1,Lf _ _⟩⟩;refine fY (by kernel_rfl) (by kernel_rfl) ?_;repeat (go_big_quiet_step (first|(go_at_call 34;exact Calls.below_of (HIN.o _))|(go_at_call_of 52 xa;exact Calls.below_of (HL1.o _))|(go_at_call_of 52 ya;exact Calls.below_of (HL2.o _))))
  refine wpQuiet_nil ?_;intro _ hw';obtain⟨⟨w9,hb9⟩,rfl⟩:=hw';have HB9:=ac hb9;clear hb9 hne;go_wp2;go_ret;exact⟨rfl,HB1.o.trans (HB9.o.mono HB1.o.size)⟩
def lT(w:World)(v:Value)(qs:List Pq):Prop:=∃a c,v=.slice a qs.length c/\∀j (h:j<qs.length),∃b off,a=some ⟨b,off,none⟩/\ig w b (off+j*8) qs[j]
theorem lT.below{w w':World}{v:Value}{qs:List Pq}(h:lT w v qs)(hb:Below w.heap.size w w'):lT w' v qs:=by obtain⟨a,c,h1,h2⟩:=h;refine⟨a,c,h1,λj hj=>?_⟩;obtain⟨b,off,h3,h4⟩:=h2 j hj;exact⟨b,off,h3,h4.keep hb⟩
theorem yW:∀(qs:List Pq)(k j:Nat)(h:k<qs.length),j<8->(bw qs)[k*8+j]?=(aH qs[k])[j]?
 |[],_,_,h,_=>by simp at h
 |q::qs,0,j,_,hj=>by show (aH q++bw qs)[0*8+j]?=_;rw[LQ (by simp[aH];omega)];simp
 |q::qs,k+1,j,h,hj=>by
  show (aH q++bw qs)[(k+1)*8+j]?=_;rw[LW (by simp[aH];omega)];have e:(k+1)*8+j-(aH q).length=k*8+j:=by simp[aH];omega
  rw[e,yW qs k j (by simpa using h) hj];simp
theorem aZ.rq{B:Nat}{w:World}{v:Value}{qs:List Pq}(h:aZ B w v qs):lT w v qs:=by
 obtain⟨a,c,e⟩:=h.sl;refine⟨a,c,e,λj hj=>?_⟩;rcases h.own.2 with ⟨h1,h2⟩|⟨g,cap,af,h1,hb,hh,_⟩
 .omega
 .rw[e] at h1;simp only[LB,true_and] at h1;obtain⟨rfl,rfl⟩:=h1;have ho:=h.own;rw[e] at ho;have hc:∀i,i<8->w.cell? ⟨g,0+j*8+i,none⟩=(aH qs[j])[i]?:=λi hi=>by rw[Ly,La ho (j*8+i) (by omega),yW qs j i hj hi]
  exact⟨g,0,rfl,hc 0 (by omega),hc 1 (by omega),hc 2 (by omega),hc 3 (by omega),hc 4 (by omega),hc 5 (by omega),hc 6 (by omega),hc 7 (by omega)⟩
def mQ(Pb:Pq->Bool->Prop)(qs:List Pq)(r:Int):Prop:=(r=-1/\∀q∈qs,Pb q false)\/∃i,∃h:i<qs.length,r=i/\Pb qs[i] true/\∀j (hj:j<qs.length),j<i->Pb qs[j] false
theorem F5(cb:Nat)(Pb:Pq->Bool->Prop)(v:Value)(qs:List Pq)(w:World)(hq:lT w v qs)(hn:qs.length<=500000000000)(hT:∀W q,Below w.heap.size w W->q∈qs->Calls prog 136 #[d8 q,.pointer (some ⟨cb,0,none⟩)] W λe w'=>∃r,e=.returned (.bool r)/\Pb q r/\Below W.heap.size W w'):Calls prog 158 #[v,.func (.func 136) #[] #[.pointer (some ⟨cb,0,none⟩)]] w λe w'=>∃r:Int,e=.returned (.int .i64 r)/\mQ Pb qs r/\Below w.heap.size w w':=by
 have HT:=ac hT;have HQ:=ac hq;obtain⟨xa,xc,rfl,_⟩:=hq;clear hT;go_enter func158,ntmps158;go_wp2_with fail;go_loopw [8] (λi wr=>∃m:Nat,m<=qs.length/\i=.int .i64 m/\(∀j (h:j<qs.length),j<m->Pb qs[j] false)/\Below w.heap.size w wr) (λi _=>qs.length-(intOf i).toNat);case atStart=>exact⟨0,Ll _,rfl,λj _ h=>by omega,Lf _ _⟩
 case round=>
  obtain⟨m,hm,rfl,hno,hbr⟩:=hrel;have HNO:=ac hno;have HBR:=ac hbr;clear hno hbr;by_cases hm2:m<qs.length
  .obtain⟨a2,c2,e2,h2⟩:=HQ.o.below HBR.o;simp only[LB,true_and] at e2;obtain⟨rfl,rfl⟩:=e2;obtain⟨b,off,rfl,hpq⟩:=h2 m hm2;obtain⟨f0,f1,f2,f3,f4,f5,f6,f7⟩:=hpq;have HC:=ac (HT.o wr qs[m] HBR.o (Lo hm2));have HFI:Ma (Pb qs[m] true->mQ Pb qs m):=λh=>L3 ⟨m,hm2,rfl,h,λj hj hjm=>HNO.o j hj hjm⟩;have HNX:Ma (Pb qs[m] false->∀j (h:j<qs.length),j<m+1->Pb qs[j] false):=λh j hj hjm=>by
    rcases Nat.lt_succ_iff_lt_or_eq.1 hjm with h2|rfl
    .exact HNO.o j hj h2
    .exact h
   unfold d8 at HC;clear h2;generalize qs[m]=q at HC HFI HNX f0 f1 f2 f3 f4 f5 f6 f7;go_wp2_with (go_at_call 136;refine HC.o.mono ?_;rintro e w9 ⟨r9,rfl,hp9,hb9⟩;have HB9:=ac hb9;have HP9:=ac hp9;clear hb9 hp9;cases r9)
   .go_roundw;case rel=>exact⟨m+1,by omega,by go_num,HNX.o HP9.o,HBR.o.trans (HB9.o.mono HBR.o.size)⟩
    case measure=>simp[intOf];omega
   .go_ret;exact⟨m,rfl,HFI.o HP9.o,HBR.o.trans (HB9.o.mono HBR.o.size)⟩
  .have e:m=qs.length:=by omega
   subst e;have HE:Ma (mQ Pb qs (-1)):=L0 ⟨rfl,λq hq=>by
    obtain⟨j,hj,rfl⟩:=List.getElem_of_mem hq;exact HNO.o j hj hj⟩
   go_wp2;go_ret;exact⟨-1,rfl,HE.o,HBR.o⟩
theorem F6(cb:Nat)(Pb:Pq->Bool->Prop)(v:Value)(qs:List Pq)(w:World)(hq:lT w v qs)(hn:qs.length<=500000000000)(hT:∀W q,Below w.heap.size w W->q∈qs->Calls prog 141 #[d8 q,.pointer (some ⟨cb,0,none⟩)] W λe w'=>∃r,e=.returned (.bool r)/\Pb q r/\Below W.heap.size W w'):Calls prog 158 #[v,.func (.func 141) #[] #[.pointer (some ⟨cb,0,none⟩)]] w λe w'=>∃r:Int,e=.returned (.int .i64 r)/\mQ Pb qs r/\Below w.heap.size w w':=by
 have HT:=ac hT;have HQ:=ac hq;obtain⟨xa,xc,rfl,_⟩:=hq;clear hT;go_enter func158,ntmps158;go_wp2_with fail;go_loopw [8] (λi wr=>∃m:Nat,m<=qs.length/\i=.int .i64 m/\(∀j (h:j<qs.length),j<m->Pb qs[j] false)/\Below w.heap.size w wr) (λi _=>qs.length-(intOf i).toNat);case atStart=>exact⟨0,Ll _,rfl,λj _ h=>by omega,Lf _ _⟩
 case round=>
  obtain⟨m,hm,rfl,hno,hbr⟩:=hrel;have HNO:=ac hno;have HBR:=ac hbr;clear hno hbr;by_cases hm2:m<qs.length
  .obtain⟨a2,c2,e2,h2⟩:=HQ.o.below HBR.o;simp only[LB,true_and] at e2;obtain⟨rfl,rfl⟩:=e2;obtain⟨b,off,rfl,hpq⟩:=h2 m hm2;obtain⟨f0,f1,f2,f3,f4,f5,f6,f7⟩:=hpq;have HC:=ac (HT.o wr qs[m] HBR.o (Lo hm2));have HFI:Ma (Pb qs[m] true->mQ Pb qs m):=λh=>L3 ⟨m,hm2,rfl,h,λj hj hjm=>HNO.o j hj hjm⟩;have HNX:Ma (Pb qs[m] false->∀j (h:j<qs.length),j<m+1->Pb qs[j] false):=λh j hj hjm=>by
    rcases Nat.lt_succ_iff_lt_or_eq.1 hjm with h2|rfl
    .exact HNO.o j hj h2
    .exact h
   unfold d8 at HC;clear h2;generalize qs[m]=q at HC HFI HNX f0 f1 f2 f3 f4 f5 f6 f7;go_wp2_with (go_at_call 141;refine HC.o.mono ?_;rintro e w9 ⟨r9,rfl,hp9,hb9⟩;have HB9:=ac hb9;have HP9:=ac hp9;clear hb9 hp9;cases r9)
   .go_roundw;case rel=>exact⟨m+1,by omega,by go_num,HNX.o HP9.o,HBR.o.trans (HB9.o.mono HBR.o.size)⟩
    case measure=>simp[intOf];omega
   .go_ret;exact⟨m,rfl,HFI.o HP9.o,HBR.o.trans (HB9.o.mono HBR.o.size)⟩
  .have e:m=qs.length:=by omega
   subst e;have HE:Ma (mQ Pb qs (-1)):=L0 ⟨rfl,λq hq=>by
    obtain⟨j,hj,rfl⟩:=List.getElem_of_mem hq;exact HNO.o j hj hj⟩
   go_wp2;go_ret;exact⟨-1,rfl,HE.o,HBR.o⟩
theorem F7(cb:Nat)(Pb:Pq->Bool->Prop)(v:Value)(qs:List Pq)(w:World)(hq:lT w v qs)(hn:qs.length<=500000000000)(hT:∀W q,Below w.heap.size w W->q∈qs->Calls prog 141 #[d8 q,.pointer (some ⟨cb,0,none⟩)] W λe w'=>∃r,e=.returned (.bool r)/\Pb q r/\Below W.heap.size W w'):Calls prog 140 #[v,.func (.func 141) #[] #[.pointer (some ⟨cb,0,none⟩)]] w λe w'=>∃r:Bool,e=.returned (.bool r)/\(r=false->∀q∈qs,Pb q false)/\(r=true->∃q∈qs,Pb q true)/\Below w.heap.size w w':=by
 have HIX:=ac (F6 cb Pb v qs w hq hn hT);obtain⟨xa,xc,rfl,_⟩:=hq;clear hT;go_enter func140,ntmps140;go_wp2_with (go_at_call 158;refine HIX.o.mono ?_;rintro e w9 ⟨r9,rfl,hp9,hb9⟩;have HB9:=ac hb9;have HP9:=ac hp9;clear hb9 hp9);go_ret;refine⟨decide (0<=r9),rfl,λh=>?_,λh=>?_,HB9.o⟩
 .rcases HP9.o with ⟨_,h2⟩|⟨i,hi,h2,_⟩
  .exact h2
  .simp at h;omega
 .rcases HP9.o with ⟨h1,_⟩|⟨i,hi,_,h2,_⟩
  .simp at h;omega
  .exact⟨_,Lo hi,h2⟩
theorem kQ(q0:Pq)(l:List Value)(n:Nat)(x:Value):(aH q0++l).set (n+8) x=aH q0++l.set n x:=rfl
theorem yX:∀(cs:List Pq)(k:Nat)(_:k<cs.length)(q:Pq),((((((((bw cs).set (k*8) (.pointer (some ⟨q.b1,0,none⟩))).set (k*8+1) (.pointer (some ⟨q.b2,0,none⟩))).set (k*8+2) (.int .u16 q.a)).set (k*8+3) (.int .u16 q.b)).set (k*8+4) (.int .u16 q.d)).set (k*8+5) (.int .u16 q.z)).set (k*8+6) (.int .i64 q.dg)).set (k*8+7) (.int .i64 q.k)=bw (cs.set k q)
 |[],_,h,_=>by simp at h
 |q0::cs,0,_,q=>rfl
 |q0::cs,k+1,h,q=>by
  have e:∀j,(k+1)*8+j=(k*8+j)+8:=λj=>by omega
  have e0:(k+1)*8=k*8+8:=by omega
  show ((((((((aH q0++bw cs).set ((k+1)*8) _).set ((k+1)*8+1) _).set ((k+1)*8+2) _).set ((k+1)*8+3) _).set ((k+1)*8+4) _).set ((k+1)*8+5) _).set ((k+1)*8+6) _).set ((k+1)*8+7) _=aH q0++bw (cs.set k q);rw[e 1,e 2,e 3,e 4,e 5,e 6,e 7,e0,kQ,kQ,kQ,kQ,kQ,kQ,kQ,kQ,yX cs k (by simpa using h) q]
def oB(w:World)(g k:Nat)(q:Pq):World:=(((((((w.setCell ⟨g,k*8,none⟩ (.pointer (some ⟨q.b1,0,none⟩))).setCell ⟨g,k*8+1,none⟩ (.pointer (some ⟨q.b2,0,none⟩))).setCell ⟨g,k*8+2,none⟩ (.int .u16 q.a)).setCell ⟨g,k*8+3,none⟩ (.int .u16 q.b)).setCell ⟨g,k*8+4,none⟩ (.int .u16 q.d)).setCell ⟨g,k*8+5,none⟩ (.int .u16 q.z)).setCell ⟨g,k*8+6,none⟩ (.int .i64 q.dg)).setCell ⟨g,k*8+7,none⟩ (.int .i64 q.k)
theorem ki{Φ:Value->Prop}{w:World}{g j:Nat}{u:Value}(h:bU Φ w g)(hu:Φ u):bU Φ (w.setCell ⟨g,j,none⟩ u) g:=by
 intro i x hx;by_cases e:i=j
 .subst e;cases hc:w.cell? ⟨g,i,none⟩ with
  |none=>
   have:(w.setCell ⟨g,i,none⟩ u).cell? ⟨g,i,none⟩=none:=by
    unfold World.cell? World.setCell at*;simp only[Array.getElem?_modify] at*;cases hh:w.heap[g]? with
    |none=>simp[hh] at hc⊢
    |some o=>cases o<;>simp_all
   rw[this] at hx;simp at hx
  |some y=>rw[World.cell?_setCell_same _ _ _ hc] at hx;simp only[LA] at hx;rw[<-hx];exact hu
 .rw[World.cell?_setCell_other] at hx
  .exact h i x hx
  .intro h2;apply e;simpa using h2.symm
theorem aZ.putQ{B:Nat}{w:World}{g cap n:Nat}{cs:List Pq}(h:aZ B w (.slice (some ⟨g,0,none⟩) n cap) cs)(k:Nat)(hk:k<cs.length)(q:Pq):aZ B (oB w g k q) (.slice (some ⟨g,0,none⟩) n cap) (cs.set k q)/\ai (λj=>j=g) w (Go.Proofs.YteimdcndjjclnaaGreat.oB w g k q):=by
 obtain⟨a,c,e⟩:=h.sl;simp only[LB] at e;obtain⟨_,rfl,_⟩:=e;have h0:=Lp h.own (k*8) (.pointer (some ⟨q.b1,0,none⟩));have h1:=Lp h0.1 (k*8+1) (.pointer (some ⟨q.b2,0,none⟩));have h2:=Lp h1.1 (k*8+2) (.int .u16 q.a);have h3:=Lp h2.1 (k*8+3) (.int .u16 q.b);have h4:=Lp h3.1 (k*8+4) (.int .u16 q.d);have h5:=Lp h4.1 (k*8+5) (.int .u16 q.z);have h6:=Lp h5.1 (k*8+6) (.int .i64 q.dg);have h7:=Lp h6.1 (k*8+7) (.int .i64 q.k);have f:∀{u v:World},u.grownBy v (some g)->ai (λk=>k=g) u v:=λhg=>ai.of_grown hg λx e=>by simpa using e.symm
 refine⟨⟨?_,λg2 hg2=>?_⟩,(((((((f h0.2).trans (f h1.2) λ_ _ h=>h).trans (f h2.2) λ_ _ h=>h).trans (f h3.2) λ_ _ h=>h).trans (f h4.2) λ_ _ h=>h).trans (f h5.2) λ_ _ h=>h).trans (f h6.2) λ_ _ h=>h).trans (f h7.2) λ_ _ h=>h⟩
 .have:=h7.1;rw[yX cs k hk q] at this;rw[List.length_set];exact this
 .simp only[Value.ownBlock,LA] at hg2;subst hg2;have hk0:=h.kd g rfl;unfold Go.Proofs.YteimdcndjjclnaaGreat.oB;exact ki (ki (ki (ki (ki (ki (ki (ki hk0 (λx e=>by cases e)) (λx e=>by cases e)) (λx e=>by cases e)) (λx e=>by cases e)) (λx e=>by cases e)) (λx e=>by cases e)) (λx e=>by cases e)) (λx e=>by cases e)
theorem aZ.cells8{B:Nat}{w:World}{g cap n:Nat}{cs:List Pq}(h:aZ B w (.slice (some ⟨g,0,none⟩) n cap) cs)(k:Nat)(hk:k<cs.length):ig w g (k*8) cs[k]:=by obtain⟨a,c,e,h2⟩:=h.rq;simp only[LB] at e;obtain⟨rfl,_,rfl⟩:=e;obtain⟨b,off,e2,h3⟩:=h2 k hk;simp only[LA,Addr.mk.injEq,and_true] at e2;obtain⟨rfl,rfl⟩:=e2;rw[Ly] at h3;exact h3
theorem Tryz.infoPr:(prog.info? 126).map (λi=>(i.zero,i.size,i.bytes))=some (some (.agg #[.pointer none,.pointer none,.int .u16 0,.int .u16 0,.int .u16 0,.int .u16 0,.int .i64 0,.int .i64 0]),8,40):=by kernel_rfl
theorem yY(n:Nat):∀x∈(Builtin.zeroCells #[Value.pointer none,.pointer none,.int .u16 0,.int .u16 0,.int .u16 0,.int .u16 0,.int .i64 0,.int .i64 0] n).toList,dP x/\x.oneCell'=true:=by
 intro x hx;simp[Builtin.zeroCells] at hx;obtain⟨l,hl,hx⟩:=hx;have h8:l%8=0\/l%8=1\/l%8=2\/l%8=3\/l%8=4\/l%8=5\/l%8=6\/l%8=7:=by omega
 rcases h8 with h|h|h|h|h|h|h|h<;>rw[h] at hx<;>subst hx<;>exact⟨λx e=>(by cases e),rfl⟩
theorem aZ.clear{B:Nat}{w:World}{g cap n:Nat}{cs:List Pq}(h:aZ B w (.slice (some ⟨g,0,none⟩) n cap) cs)(i:Nat)(hi:i<cs.length)(ty:TypeId):∃w',(Builtin.clear_ #[118] ty #[.slice (some ⟨g,i*8,none⟩) (n-i) (cap-i)]).run prog w=.ok (.tuple #[]) w'/\aZ B w' (.slice (some ⟨g,0,none⟩) i cap) (cs.take i)/\ai (λj=>j=g) w w':=by
 obtain⟨a,c,e⟩:=h.sl;simp only[LB] at e;obtain⟨_,rfl,_⟩:=e;rcases h.own.2 with ⟨h1,_⟩|⟨g2,cap2,af,h1,hb,hh,hnc,hcm,hcs,htake⟩
 .simp at h1
 .simp only[LB,LA,Addr.mk.injEq,and_true,true_and] at h1;obtain⟨rfl,rfl⟩:=h1;obtain⟨i0,hii,hz0,hz1,hz2⟩:=info_parts Tryz.infoPr;have hzl:(Builtin.zeroCells #[Value.pointer none,.pointer none,.int .u16 0,.int .u16 0,.int .u16 0,.int .u16 0,.int .i64 0,.int .i64 0] (cs.length-i)).toList.length=(cs.length-i)*8:=by rw[Array.length_toList,size_zeroCells];rfl
  have hst:=run_storeCells_at (P:=prog) g (i*8) 126 (Builtin.zeroCells #[Value.pointer none,.pointer none,.int .u16 0,.int .u16 0,.int .u16 0,.int .u16 0,.int .i64 0,.int .i64 0] (cs.length-i)).toList 0 af w hh (by rw[hzl,hcs];omega) (λv hv=>(yY _ v hv).2);simp only[Nat.add_zero] at hst;obtain⟨m,hm⟩:∃m,cs.length-i=m+1:=⟨cs.length-i-1,by omega⟩;refine⟨w.setRow g (af.toList.take (i*8)++(Builtin.zeroCells #[Value.pointer none,.pointer none,.int .u16 0,.int .u16 0,.int .u16 0,.int .u16 0,.int .i64 0,.int .i64 0] (cs.length-i)).toList++af.toList.drop (i*8+(Builtin.zeroCells #[Value.pointer none,.pointer none,.int .u16 0,.int .u16 0,.int .u16 0,.int .u16 0,.int .i64 0,.int .i64 0] (cs.length-i)).toList.length)).toArray,?_,⟨⟨?_,.inr ⟨g,cap,_,?_,hb,setRow_heap w g af _ _ _ hh,by rw[LU];omega,hcm,?_,?_⟩⟩,λk hk=>?_⟩,⟨rfl,rfl,rfl,by simp,λk _ hk=>setRow_other w g k _ hk⟩⟩
  .have hzv:∀W,(zeroValue 126).run prog W=.ok (.agg #[.pointer none,.pointer none,.int .u16 0,.int .u16 0,.int .u16 0,.int .u16 0,.int .i64 0,.int .i64 0]) W:=λW=>by kernel_rfl
   unfold Builtin.clear_;rw[hm];rw[hm] at hst;simp[run_underlying underlying118,hzv,Value.cells,hst]
  .rw[iF]
  .rw[LU,Nat.min_eq_left (by omega)]
  .simp only[List.size_toArray,Lx,LU,List.length_drop,Array.length_toList,hzl];omega
  .rw[LU,Nat.min_eq_left (by omega),List.append_assoc,List.take_append_of_le_length (by rw[LU,Array.length_toList,hcs];have:=hnc;omega),List.take_take,Nat.min_self];have e1:af.toList.take (i*8)=(bw cs).take (i*8):=by rw[<-htake,List.take_take,Nat.min_eq_left (by omega)]
   rw[e1];have e2:bw cs=bw (cs.take i)++bw (cs.drop i):=by rw[<-mE,List.take_append_drop]
   rw[e2,List.take_left' (by rw[iF,LU,Nat.min_eq_left (by omega)])]
  .simp only[Value.ownBlock,LA] at hk;subst hk;refine mF (setRow_heap w g af _ _ _ hh) (λx hx=>?_);have hcur:=sR hh (h.kd g rfl);rw[List.toList_toArray,Lv,Lv] at hx;rcases hx with (hx|hx)|hx
   .exact hcur x (L6 hx)
   .exact(yY _ x hx).1
   .exact hcur x (List.mem_of_mem_drop hx)
theorem F8{T:Pq->Bool}{qs:List Pq}{i:Nat}(h:i<qs.length)(h1:T qs[i]=true)(h2:∀j (hj:j<qs.length),j<i->T qs[j]=false):(qs.take (i+1)).filter (λq=>!T q)=qs.take i:=by
 rw[List.take_add_one,Ls h,List.filter_append];have e1:(qs.take i).filter (λq=>!T q)=qs.take i:=by rw[List.filter_eq_self];intro q hq;obtain⟨j,hj,rfl⟩:=List.getElem_of_mem hq;rw[LU] at hj;rw[List.getElem_take,h2 j (by omega) (by omega)];rfl
 rw[e1];simp[h1]
theorem F9(B cb:Nat)(T:Pq->Bool)(v:Value)(qs:List Pq)(w:World)(hp:aZ B w v qs)(hB:B<=w.heap.size)(hn:qs.length<=500000000000)(hT:∀W q,ai (λk=>v.ownBlock=some k) w W->q∈qs->Calls prog 136 #[d8 q,.pointer (some ⟨cb,0,none⟩)] W λe w'=>e=.returned (.bool (T q))/\Below W.heap.size W w'):Calls prog 135 #[v,.func (.func 136) #[] #[.pointer (some ⟨cb,0,none⟩)]] w λe w'=>∃v',e=.returned v'/\aZ B w' v' (qs.filter λq=>!T q)/\ai (λk=>v.ownBlock=some k) w w':=by
 have HIX:=ac (F5 cb (λq r=>r=T q) v qs w hp.rq hn λW q hb hq=>(hT W q (ai.of_below hb) hq).mono λe w' h=>⟨T q,h.1,rfl,h.2⟩);have HT:=ac hT;have HP:=ac hp;obtain⟨xa,xc,rfl⟩:=hp.sl;clear hT hp;go_enter func135,ntmps135;go_upto_region 2 with (go_at_call 158;refine HIX.o.mono ?_;rintro e w1 ⟨r1,rfl,hp1,hb1⟩;have HB1:=ac hb1;have HI1:=ac hp1;clear hb1 hp1);rcases HI1.o with ⟨hr,hall⟩|⟨i0,hi0,hr,ht0,hf0⟩
 .have HALL:=ac hall;subst hr;clear hall HI1;go_wp2;go_ret;refine⟨_,rfl,?_,ai.of_below HB1.o⟩;have e:qs.filter (λq=>!T q)=qs:=by rw[List.filter_eq_self];intro q hq;rw[<-HALL.o q hq];rfl
  rw[e];exact HP.o.next HB1.o
 .have hbe:((i0:Int)== -1)=false:=by simp
  have HFI:=ac (F8 hi0 ht0.symm λj hj hji=>(hf0 j hj hji).symm);obtain⟨g,hg⟩:∃g,xa=some ⟨g,0,none⟩:=by
   rcases HP.o.own.2 with ⟨h1,h2⟩|⟨g,cap,af,h1,_⟩
   .omega
   .simp only[LB] at h1;exact⟨g,h1.1⟩
  subst hg;subst hr;have HP1:=ac (HP.o.next HB1.o);clear HI1 ht0 hf0;go_wp2_with fail;clear hbe;go_loopw [5,6] (λsi sj wr=>∃(i j:Nat)(cs:List Pq),i<j/\j<=qs.length/\si=.int .i64 i/\sj=.int .i64 j/\cs.length=qs.length/\cs.take i=(qs.take j).filter (λq=>!T q)/\cs.drop j=qs.drop j/\aZ B wr (.slice (some ⟨g,0,none⟩) qs.length xc) cs/\ai (λk=>(Value.slice (some ⟨g,0,none⟩) qs.length xc).ownBlock=some k) w wr) (λ_ sj _=>qs.length-(intOf sj).toNat);case atStart=>exact⟨i0,i0+1,qs,by omega,by omega,rfl,by go_num,rfl,HFI.o.symm,rfl,HP1.o,ai.of_below HB1.o⟩
  case round=>
   obtain⟨i,j,cs,hij,hjn,rfl,rfl,hlen,htk,hdr,hpw,hfr⟩:=hrel;have HPW:=ac hpw;have HFR:=ac hfr;have HTK:=ac htk;have HDR:=ac hdr;have HLEN:=ac hlen;clear hpw hfr htk hdr hlen;by_cases hj2:j<qs.length
   .have hjc:j<cs.length:=by have:=HLEN.o;omega
    have hic:i<cs.length:=by have:=HLEN.o;omega
    have ecs:cs[j]=qs[j]:=by
     have h1:(cs.drop j)[0]?=(qs.drop j)[0]?:=by rw[HDR.o]
     rw[List.getElem?_drop,List.getElem?_drop,Nat.add_zero,Ls hjc,Ls hj2] at h1;simpa using h1
    have hpq:=HPW.o.cells8 j hjc;rw[ecs] at hpq;obtain⟨f0,f1,f2,f3,f4,f5,f6,f7⟩:=hpq;have HTN:Ma (T qs[j]=false->(cs.set i qs[j]).take (i+1)=(qs.take (j+1)).filter (λq=>!T q)):=λh=>by rw[List.take_add_one (l:=qs),Ls hj2,List.filter_append,<-HTK.o,List.take_add_one];rw[List.take_set_of_le (Lc _),List.getElem?_set_self (by omega)];simp[h]
    have HTS:Ma (T qs[j]=true->cs.take i=(qs.take (j+1)).filter (λq=>!T q)):=λh=>by rw[List.take_add_one (l:=qs),Ls hj2,List.filter_append,<-HTK.o];simp[h]
    have HD2:Ma (cs.drop (j+1)=qs.drop (j+1)):=by show _=_;rw[<-List.drop_drop,<-List.drop_drop,HDR.o]
    have HD3:Ma ((cs.set i qs[j]).drop (j+1)=qs.drop (j+1)):=by show _=_;rw[List.drop_set_of_lt (by omega)];exact HD2.o
    have HPUT:=ac (λW (hb:Below wr.heap.size wr W)=>(HPW.o.next hb).putQ i hic qs[j]);have HC:=ac (HT.o · qs[j] · (Lo hj2))
    obtain⟨w2,hw2⟩:∃w2,w2=wr.alloc (.cells #[.pointer (some ⟨qs[j].b1,0,none⟩),.pointer (some ⟨qs[j].b2,0,none⟩),.int .u16 qs[j].a,.int .u16 qs[j].b,.int .u16 qs[j].d,.int .u16 qs[j].z,.int .i64 qs[j].dg,.int .i64 qs[j].k] 126):=⟨_,rfl⟩;have HB2:Ma (Below wr.heap.size wr w2):=by rw[hw2];exact aj
    have HX2:Ma (jZ wr.heap.size w2 wr.heap.size qs[j]):=by rw[hw2];exact kL (Lc _) _
    have HF2:Ma (ai (λk=>(Value.slice (some ⟨g,0,none⟩) qs.length xc).ownBlock=some k) w w2):=HFR.o.trans (ai.of_below (S:=λ_=>False) HB2.o) λ_ _ h=>h.elim;have HCC:=ac (HC.o w2 HF2.o);unfold d8 at HCC;generalize hqj:qs[j]=q at*;clear hqj ecs;have hjI:(j:Int)<(qs.length:Int):=by omega
    have hiI:(i:Int)<(qs.length:Int):=by omega
    go_upto_region 8 with fail;rw[<-hw2];clear hw2 f0 f1 f2 f3 f4 f5 f6 f7;obtain⟨y0,y1,y2,y3,y4,y5,y6,y7⟩:=HX2.o.at;simp only[Ly] at y0 y1 y2 y3 y4 y5 y6 y7;generalize hTq:T q=tq at HCC HTN HTS;clear hTq HC;cases tq with
    |true=>
     have HTS2:=ac (HTS.o rfl);clear HTS HTN;go_wp2_with (go_at_call 136;refine HCC.o.mono ?_;rintro e w9 ⟨rfl,hb9⟩;have HB9:=ac (HB2.o.trans (hb9.mono HB2.o.size));clear hb9);go_roundw;case rel=>exact⟨i,j+1,cs,by omega,by omega,rfl,by go_num,HLEN.o,HTS2.o,HD2.o,HPW.o.next HB9.o,HFR.o.trans (ai.of_below (S:=λ_=>False) HB9.o) λ_ _ h=>h.elim⟩
     case measure=>simp[intOf];omega
    |false=>
     have HTN2:=ac (HTN.o rfl);clear HTS HTN;go_upto_region 9 with (go_at_call 136;refine HCC.o.mono ?_;rintro e w9 ⟨rfl,hb9⟩;have HB9:=ac (HB2.o.trans (hb9.mono HB2.o.size));have HX9:Ma (jZ wr.heap.size w9 wr.heap.size q):=aK HX2.o hb9;clear hb9);clear y0 y1 y2 y3 y4 y5 y6 y7;obtain⟨y0,y1,y2,y3,y4,y5,y6,y7⟩:=HX9.o.at;simp only[Ly] at y0 y1 y2 y3 y4 y5 y6 y7;have HP9:=ac (HPW.o.next HB9.o);obtain⟨c0,c1,c2,c3,c4,c5,c6,c7⟩:=HP9.o.cells8 i hic;have ho9:=HP9.o.own;rw[HLEN.o] at ho9;have z0:=K8 ho9 (i*8);have z1:=K8 ho9 (i*8+1);have z2:=K8 ho9 (i*8+2);have z3:=K8 ho9 (i*8+3);have z4:=K8 ho9 (i*8+4);have z5:=K8 ho9 (i*8+5);have z6:=K8 ho9 (i*8+6);have z7:=K8 ho9 (i*8+7);have HPT:=ac (HPUT.o w9 HB9.o);clear ho9;unfold oB at HPT;go_wp2;go_roundw;case rel=>exact⟨i+1,j+1,cs.set i q,by omega,by omega,by go_num,by go_num,by rw[List.length_set];exact HLEN.o,HTN2.o,HD3.o,HPT.o.1,(HFR.o.trans (ai.of_below (S:=λ_=>False) HB9.o) λ_ _ h=>h.elim).trans HPT.o.2 λk _ e=>by rw[e];rfl⟩
     case measure=>simp[intOf];omega
   .have e:j=qs.length:=by omega
    subst e;have hic:i<cs.length:=by have:=HLEN.o;omega
    have hcap:qs.length<=xc:=by
     rcases HPW.o.own.2 with ⟨h1,_⟩|⟨g2,cap2,af,h1,_,_,hnc,_⟩
     .simp at h1
     .simp only[LB] at h1;have:=HLEN.o;omega
    have hic2:i<qs.length:=by omega
    obtain⟨w3,hcl,hp3,hf3⟩:=HPW.o.clear i hic 0;have HP3:=ac hp3;have HF3:=ac hf3;clear hp3 hf3;go_wp2;go_ret;refine⟨_,rfl,?_,HFR.o.trans HF3.o λk _ e=>by rw[e];rfl⟩;have e:=HTK.o;rw[Lz (Lc _)] at e;rw[<-e];exact HP3.o
theorem cj.pr{p:Int}{B B2:Nat}{w w':World}{x:Mm}{v:Value}{qs:List Pq}(h:cj p B w x)(hp:aZ B2 w v qs)(hf:ai (λk=>v.ownBlock=some k) w w'):cj p B w' x:=
 h.frm hf (dW.of_frm hf λg hg=>hp.kd g hg) λhs=>h.nob (hp.kd _ hs) rfl
def ba(w w':World):Prop:=w.heap.size<=w'.heap.size/\∀k,k<w.heap.size->¬(b8 w 85 k/\b8 w 95 k/\b8 w 92 k)->w'.heap[k]?=w.heap[k]?
theorem ba.of_below{w w':World}(h:Below w.heap.size w w'):ba w w':=⟨h.size,λk hk _=>h.block k hk⟩
theorem ba.refl(w:World):ba w w:=⟨Lc _,λ_ _ _=>rfl⟩
theorem ba.of_frm{S:Nat->Prop}{w w':World}(h:ai S w w')(h1:∀k,S k->b8 w 85 k)(h2:∀k,S k->b8 w 95 k)(h3:∀k,S k->b8 w 92 k):ba w w':=⟨h.size,λk hk hn=>h.block k hk λe=>hn ⟨h1 k e,h2 k e,h3 k e⟩⟩
theorem ba.trans{a b c:World}(h:ba a b)(k:ba b c):ba a c:=by refine⟨Lk h.1 k.1,λx hx hn=>?_⟩;have e:=h.2 x hx hn;rw[<-e];refine k.2 x (Lj hx h.1) λh2=>hn ⟨λaf e2=>h2.1 af ?_,λaf e2=>h2.2.1 af ?_,λaf e2=>h2.2.2 af ?_⟩;all_goals (rw[e];exact e2)
theorem ba.cell{w w':World}(h:ba w w'){b j:Nat}{u:Value}(hn:¬b8 w 85 b)(hc:w.cell? ⟨b,j,none⟩=some u):w'.cell? ⟨b,j,none⟩=some u:=
 (World.cell?_of_block (h.2 b (Lq w ⟨b,j,none⟩ hc) λe=>hn e.1)).trans hc
theorem Ga(p:Int)(B:Nat)(w:World)(mb ob R g:Nat)(dv pv:Value)(us:List Value)(ms:List Mm)(qs:List Pq)(f:Mm)(T:Pq->Bool)(hm:bj p B w mb ob R g dv pv us ms qs)(hB:B<=w.heap.size)(hf:cj p B w f)(hn:qs.length<=500000000000)(hq:∀q∈qs,∃x y,x∈ms/\y∈ms/\q.b1=x.blk/\q.b2=y.blk/\T q=mP x.L y.L f.L q):Calls prog 110 #[.pointer (some ⟨mb,0,none⟩),.pointer (some ⟨f.blk,0,none⟩)] w λe w'=>e=.returned (.tuple #[])/\∃pv',bj p B w' mb ob R g dv pv' us ms (qs.filter λq=>!T q)/\cj p B w' f/\Below B w w'/\ba w w':=by
 obtain⟨w1,hw1⟩:∃w1,w1=w.alloc (.cells #[.pointer (some ⟨f.blk,0,none⟩)] 124):=⟨_,rfl⟩;have HB1:Ma (Below w.heap.size w w1):=by rw[hw1];exact aj
 have HC1:Ma (w1.cell? ⟨w.heap.size,0,none⟩=some (.pointer (some ⟨f.blk,0,none⟩))/\b8 w1 126 w.heap.size):=by rw[hw1];refine⟨by simp[go_sem],λaf e=>?_⟩;rw[show (w.alloc (.cells #[.pointer (some ⟨f.blk,0,none⟩)] 124)).heap[w.heap.size]?=some (.cells #[.pointer (some ⟨f.blk,0,none⟩)] 124 (0,0)) from heap_alloc_new w _] at e;simp only[LA,Obj.cells.injEq] at e;exact absurd e.2.1 (by decide)
 have HM1:=ac (hm.next HB1.o);have HF1:=ac (hf.next HB1.o);have hB1:B<=w1.heap.size:=Lk hB HB1.o.size;have HDL:=ac (F9 B w.heap.size T pv qs w1 HM1.o.prs hB1 hn λW q hfr hqm=>by
  obtain⟨x,y,hx,hy,e1,e2,e3⟩:=hq q hqm;rw[e3];refine F4 p w.heap.size x y f q W ((HM1.o.mks.mem x hx).pr HM1.o.prs hfr).mbr ((HM1.o.mks.mem y hy).pr HM1.o.prs hfr).mbr (HF1.o.pr HM1.o.prs hfr).mbr e1 e2 ?_;refine hfr.cell HC1.o.1 λe=>?_;obtain⟨af,e9⟩:=dp HM1.o.prs.own e;exact HC1.o.2 af e9)
 obtain⟨c0,c1,c2,c3,c4⟩:=HM1.o.cells;have z3:=K8 HM1.o.box 3;have FIN:Ma (∀v' W,aZ B W v' (qs.filter λq=>!T q)->ai (λk=>pv.ownBlock=some k) w1 W->(∃u,W.cell? ⟨mb,3,none⟩=some u)/\W.frozen? ⟨mb,3,none⟩=false/\bj p B (W.setCell ⟨mb,3,none⟩ v') mb ob R g dv v' us ms (qs.filter λq=>!T q)/\cj p B (W.setCell ⟨mb,3,none⟩ v') f/\Below B w (W.setCell ⟨mb,3,none⟩ v')/\ba w (W.setCell ⟨mb,3,none⟩ v')):=λv' W h1 h2=>by
  have hbx:W.ownsRow B 121 5 (jz mb) 1 (ii ob g R dv pv):=dN h2 HM1.o.box λk hk=>bp HM1.o.prs.own hk (by decide);obtain⟨r1,r2,r3⟩:=HM1.o.repair hB1 h2 h1;have hS9:∀{T:TypeId},121≠T->126≠T->∀k,(k=mb\/pv.ownBlock=some k)->b8 w1 T k:=λt1 t2 k hk=>by
   rcases hk with rfl|hk
   .exact bp HM1.o.box rfl t1
   .exact bp HM1.o.prs.own hk t2
  refine⟨⟨_,La hbx 3 (by omega)⟩,K8 hbx 3,r1,?_,(HB1.o.mono hB).trans r3,(ba.of_below HB1.o).trans (ba.of_frm r2 (hS9 (by decide) (by decide)) (hS9 (by decide) (by decide)) (hS9 (by decide) (by decide)))⟩;refine HF1.o.frm r2 (dW.of_frm r2 λk hk=>?_) λhs=>?_
  .rcases hk with rfl|hk
   .exact HM1.o.kd
   .exact HM1.o.prs.kd k hk
  .rcases hs with e|e
   .exact HF1.o.nob HM1.o.kd e
   .exact HF1.o.nob (HM1.o.prs.kd _ e) rfl
 obtain⟨pa,pc,hpv⟩:=HM1.o.prs.sl;rw[hpv] at c3 HDL;clear hm hf hq c0 c1 c2 c4;go_enter func110,ntmps110;go_upto_region 1 with fail;rw[<-hw1];clear hw1;go_wp2_with (go_at_call 135;refine HDL.o.mono ?_;rintro e w2 ⟨v2,rfl,hp2,hf2⟩;rw[<-hpv] at hf2;obtain⟨va2,vc2,hv2⟩:=hp2.sl;subst hv2;have H2:=ac (FIN.o _ w2 hp2 hf2);clear hp2 hf2;obtain⟨u2,d2⟩:=H2.o.1;have z2:=H2.o.2.1);go_end0;exact⟨rfl,_,H2.o.2.2.1,H2.o.2.2.2.1,H2.o.2.2.2.2.1,H2.o.2.2.2.2.2⟩
end Go.Proofs.YteimdcndjjclnaaGreat
