/- Regions that draw. -/
import Derived.Test.YtjkalahhpobefaaGreatKI
set_option maxHeartbeats 4000000
set_option maxRecDepth 100000
namespace Go.Proofs.YtjkalahhpobefaaGreat
set_option linter.all false
open Go.Proofs.Tryz Go.RowKit
structure bX(w:PJ) where
 w':PJ
 h:Io w w'
variable{w:PJ}{P:Program}
theorem fr{id:Nat}{Q:Exit->Act->PJ->Prop}{a:Act}{l:List Oper}(hm:P.follows .mixedOrders=true)(hB:Region.lexB .any l.toArray=true)(h:wpQuiet P l.toArray (λw'=>∃p:bX w,w'=p.w') (λa'=>∀w',(∃p:bX w,w'=p.w')->Q .normal a' w') l a):(Code.region id l.toArray true).wp P Q a w:=
 wp_region_quiet (C:=λw'=>∃p:bX w,w'=p.w') hm hB ⟨⟨w.drew,(Ov _ _).drew⟩,rfl⟩ (by simpa using h)
variable{v:PK}
theorem Calls.below_of{f:FuncId}{args:Array PK}{p:bX w}(h:Calls P f args p.w' λe w'=>e=.returned v/\Below p.w'.heap.size p.w' w'):Calls P f args p.w' λe w''=>e=.returned v/\∃q:bX w,w''=q.w':=
 h.mono λ_ _ ⟨he,hb⟩=>⟨he,⟨_,In p.h hb⟩,rfl⟩
theorem Tryz.infoU16:(prog.info? 84).map (λi=>(i.zero,i.size,i.bytes))=some (some (.int .u16 0),1,2):=by kernel_rfl
def lA(a b d z a2 b2 d2 z2:Int):Bool:=decide (a=a2)&&decide (b=b2)&&decide (d=d2)&&decide (z=z2)
theorem Bb(a b d z a2 b2 d2 z2:Int)(w:PJ):(Op.equalIn 10000 86 (.agg #[.int .u16 a,.int .u16 b,.int .u16 d,.int .u16 z]) (.agg #[.int .u16 a2,.int .u16 b2,.int .u16 d2,.int .u16 z2])).run prog w=.ok (lA a b d z a2 b2 d2 z2) w:=by
 obtain⟨i0,hi,hz0,hz1,hz2⟩:=info_parts Tryz.infoU16;rw[run_equalIn_array w 9999 _ _ underlying86 hi];have hc:prog.cellsOf 84=1:=by kernel_rfl
 rw[hc];have e:∀(x y:Int)(W:PJ),(Op.equalIn 9999 84 (.int .u16 x) (.int .u16 y)).run prog W=.ok (x==y) W:=λx y W=>run_equalIn_int W 9998 84 .u16 .u16 x y underlying84;have p0:∀(x y u v:Int)(W:PJ),(part 84 #[.int .u16 x,.int .u16 y,.int .u16 u,.int .u16 v] 0).run prog W=.ok (.int .u16 x) W:=λ_ _ _ _ _=>by kernel_rfl
 have p1:∀(x y u v:Int)(W:PJ),(part 84 #[.int .u16 x,.int .u16 y,.int .u16 u,.int .u16 v] 1).run prog W=.ok (.int .u16 y) W:=λ_ _ _ _ _=>by kernel_rfl
 have p2:∀(x y u v:Int)(W:PJ),(part 84 #[.int .u16 x,.int .u16 y,.int .u16 u,.int .u16 v] 2).run prog W=.ok (.int .u16 u) W:=λ_ _ _ _ _=>by kernel_rfl
 have p3:∀(x y u v:Int)(W:PJ),(part 84 #[.int .u16 x,.int .u16 y,.int .u16 u,.int .u16 v] 3).run prog W=.ok (.int .u16 v) W:=λ_ _ _ _ _=>by kernel_rfl
 unfold lA;simp only[show List.range 4=[0,1,2,3] from rfl,Op.eqItems,Sem.run_bind];by_cases h1:a=a2<;>by_cases h2:b=b2<;>by_cases h3:d=d2<;>by_cases h4:z=z2<;>simp[p0,p1,p2,p3,e,h1,h2,h3,h4]
def lB(x y f:Ft)(q:Pq):Bool:=decide (x.pl=f.pl)&&eN f.a f.b f.d f.z q.a q.b q.d q.z&& !lA (dj x f) (dk x f) (dp x f) (dq x f) q.a q.b q.d q.z&& !lA (dj y f) (dk y f) (dp y f) (dq y f) q.a q.b q.d q.z
def kB(B:Nat)(w:PJ)(g:Nat)(q:Pq):Prop:=w.ownsRow B 238 8 (.slice (some ⟨g,0,none⟩) 1 1) 1 (aO q)
variable{B:Nat}
theorem lh(hB:B<=w.heap.size)(q:Pq):kB B (w.alloc (.cells #[.pointer (some ⟨q.b1,0,none⟩),.pointer (some ⟨q.b2,0,none⟩),.int .u16 q.a,.int .u16 q.b,.int .u16 q.d,.int .u16 q.z,.int .i64 q.dg,.int .i64 q.k] 238)) w.heap.size q:=World.ownsRow_lit w _ 1 hB (by decide) (by simp)
def iG(w:PJ)(g off:Nat)(q:Pq):Prop:=w.cell? ⟨g,off,none⟩=some (.pointer (some ⟨q.b1,0,none⟩))/\w.cell? ⟨g,off+1,none⟩=some (.pointer (some ⟨q.b2,0,none⟩))/\w.cell? ⟨g,off+2,none⟩=some (.int .u16 q.a)/\w.cell? ⟨g,off+3,none⟩=some (.int .u16 q.b)/\w.cell? ⟨g,off+4,none⟩=some (.int .u16 q.d)/\w.cell? ⟨g,off+5,none⟩=some (.int .u16 q.z)/\w.cell? ⟨g,off+6,none⟩=some (.int .i64 q.dg)/\w.cell? ⟨g,off+7,none⟩=some (.int .i64 q.k)
variable{q:Pq}{g:Nat}{w':PJ}
theorem iG.keep{off:Nat}(h:iG w g off q)(hb:Io w w'):iG w' g off q:=
 ⟨af h.1 hb,af h.2.1 hb,af h.2.2.1 hb,af h.2.2.2.1 hb,af h.2.2.2.2.1 hb,af h.2.2.2.2.2.1 hb,af h.2.2.2.2.2.2.1 hb,af h.2.2.2.2.2.2.2 hb⟩
theorem kB.at(h:kB B w g q):iG w g 0 q:=by
 have hc:∀j,j<8->w.cell? ⟨g,0+j,none⟩=(aO q)[j]?:=λj hj=>by rw[ON];exact Oq h j (by omega)
 exact⟨hc 0 (by omega),hc 1 (by omega),hc 2 (by omega),hc 3 (by omega),hc 4 (by omega),hc 5 (by omega),hc 6 (by omega),hc 7 (by omega)⟩
theorem Ia(p:Int)(fb:Nat)(x y f:Mm)(q:Pq)(w:PJ)(hx:i9 p w x)(hy:i9 p w y)(hf:i9 p w f)(hq1:q.b1=x.blk)(hq2:q.b2=y.blk)(hfb:w.cell? ⟨fb,0,none⟩=some (.pointer (some ⟨f.blk,0,none⟩))):Calls prog 213 #[eI q,.pointer (some ⟨fb,0,none⟩)] w λe w'=>e=.returned (.bool (lB x.L y.L f.L q))/\Io w w':=by
 obtain⟨w1,hw1⟩:∃w1,w1=w.alloc (.cells #[.pointer (some ⟨q.b1,0,none⟩),.pointer (some ⟨q.b2,0,none⟩),.int .u16 q.a,.int .u16 q.b,.int .u16 q.d,.int .u16 q.z,.int .i64 q.dg,.int .i64 q.k] 238):=⟨_,rfl⟩;have HB1:Po (Io w w1):=by rw[hw1];exact ai
 have HX8:Po (kB w.heap.size w1 w.heap.size q):=by rw[hw1];exact lh (Ou _) q
 have HIN:Po (∀W,Calls prog 158 #[.agg #[.int .u16 f.L.a,.int .u16 f.L.b,.int .u16 f.L.d,.int .u16 f.L.z],.agg #[.int .u16 q.a,.int .u16 q.b,.int .u16 q.d,.int .u16 q.z]] W λe w'=>e=.returned (.bool (eN f.L.a f.L.b f.L.d f.L.z q.a q.b q.d q.z))/\Io W w'):=λW=>vI _ _ _ _ _ _ _ _ W;have HL1:Po (∀W,Calls prog 214 #[.agg #[.int .u16 x.L.a,.int .u16 x.L.b,.int .u16 x.L.d,.int .u16 x.L.z],.agg #[.int .u16 f.L.a,.int .u16 f.L.b,.int .u16 f.L.d,.int .u16 f.L.z]] W λe w'=>e=.returned (.agg #[.int .u16 (dj x.L f.L),.int .u16 (dk x.L f.L),.int .u16 (dp x.L f.L),.int .u16 (dq x.L f.L)])/\Io W w'):=λW=>vF _ _ _ _ _ _ _ _ W;have HL2:Po (∀W,Calls prog 214 #[.agg #[.int .u16 y.L.a,.int .u16 y.L.b,.int .u16 y.L.d,.int .u16 y.L.z],.agg #[.int .u16 f.L.a,.int .u16 f.L.b,.int .u16 f.L.d,.int .u16 f.L.z]] W λe w'=>e=.returned (.agg #[.int .u16 (dj y.L f.L),.int .u16 (dk y.L f.L),.int .u16 (dp y.L f.L),.int .u16 (dq y.L f.L)])/\Io W w'):=λW=>vF _ _ _ _ _ _ _ _ W;have eq1:=λW=>Bb (dj x.L f.L) (dk x.L f.L) (dp x.L f.L) (dq x.L f.L) q.a q.b q.d q.z W;have eq2:=λW=>Bb (dj y.L f.L) (dk y.L f.L) (dp y.L f.L) (dq y.L f.L) q.a q.b q.d q.z W;have px:∀P:bX w1,P.w'.cell? ⟨x.blk,1,none⟩=some (.int .u16 x.L.a)/\P.w'.cell? ⟨x.blk,2,none⟩=some (.int .u16 x.L.b)/\P.w'.cell? ⟨x.blk,3,none⟩=some (.int .u16 x.L.d)/\P.w'.cell? ⟨x.blk,4,none⟩=some (.int .u16 x.L.z)/\P.w'.cell? ⟨x.blk,5,none⟩=some (.int .u8 x.L.pl):=λP=>by obtain⟨c0,c1,c2,c3,c4,c5,c6⟩:=((hx.div.below HB1.o).below P.h).cells;simp only[ON] at c0 c1 c2 c3 c4 c5 c6;exact⟨c1,c2,c3,c4,c5⟩
 have py:∀P:bX w1,P.w'.cell? ⟨y.blk,1,none⟩=some (.int .u16 y.L.a)/\P.w'.cell? ⟨y.blk,2,none⟩=some (.int .u16 y.L.b)/\P.w'.cell? ⟨y.blk,3,none⟩=some (.int .u16 y.L.d)/\P.w'.cell? ⟨y.blk,4,none⟩=some (.int .u16 y.L.z):=λP=>by obtain⟨c0,c1,c2,c3,c4,c5,c6⟩:=((hy.div.below HB1.o).below P.h).cells;simp only[ON] at c0 c1 c2 c3 c4 c5 c6;exact⟨c1,c2,c3,c4⟩
 have pf:∀P:bX w1,P.w'.cell? ⟨f.blk,1,none⟩=some (.int .u16 f.L.a)/\P.w'.cell? ⟨f.blk,2,none⟩=some (.int .u16 f.L.b)/\P.w'.cell? ⟨f.blk,3,none⟩=some (.int .u16 f.L.d)/\P.w'.cell? ⟨f.blk,4,none⟩=some (.int .u16 f.L.z)/\P.w'.cell? ⟨f.blk,5,none⟩=some (.int .u8 f.L.pl):=λP=>by obtain⟨c0,c1,c2,c3,c4,c5,c6⟩:=((hf.div.below HB1.o).below P.h).cells;simp only[ON] at c0 c1 c2 c3 c4 c5 c6;exact⟨c1,c2,c3,c4,c5⟩
 have pq:∀P:bX w1,P.w'.cell? ⟨w.heap.size,0,none⟩=some (.pointer (some ⟨x.blk,0,none⟩))/\P.w'.cell? ⟨w.heap.size,1,none⟩=some (.pointer (some ⟨y.blk,0,none⟩))/\P.w'.cell? ⟨w.heap.size,2,none⟩=some (.int .u16 q.a)/\P.w'.cell? ⟨w.heap.size,3,none⟩=some (.int .u16 q.b)/\P.w'.cell? ⟨w.heap.size,4,none⟩=some (.int .u16 q.d)/\P.w'.cell? ⟨w.heap.size,5,none⟩=some (.int .u16 q.z):=λP=>by obtain⟨c0,c1,c2,c3,c4,c5,c6,c7⟩:=HX8.o.at.keep P.h;simp only[ON] at c0 c1 c2 c3 c4 c5 c6 c7;rw[hq1] at c0;rw[hq2] at c1;exact⟨c0,c1,c2,c3,c4,c5⟩
 have pfb:∀P:bX w1,P.w'.cell? ⟨fb,0,none⟩=some (.pointer (some ⟨f.blk,0,none⟩)):=λP=>af (af hfb HB1.o) P.h;have px1:=λP=>(px P).1;have px2:=λP=>(px P).2.1;have px3:=λP=>(px P).2.2.1;have px4:=λP=>(px P).2.2.2.1;have px5:=λP=>(px P).2.2.2.2;have py1:=λP=>(py P).1;have py2:=λP=>(py P).2.1;have py3:=λP=>(py P).2.2.1;have py4:=λP=>(py P).2.2.2;have pf1:=λP=>(pf P).1;have pf2:=λP=>(pf P).2.1;have pf3:=λP=>(pf P).2.2.1;have pf4:=λP=>(pf P).2.2.2.1;have pf5:=λP=>(pf P).2.2.2.2;have pq0:=λP=>(pq P).1;have pq1:=λP=>(pq P).2.1;have pq2:=λP=>(pq P).2.2.1;have pq3:=λP=>(pq P).2.2.2.1;have pq4:=λP=>(pq P).2.2.2.2.1;have pq5:=λP=>(pq P).2.2.2.2.2;unfold lB;generalize eN f.L.a f.L.b f.L.d f.L.z q.a q.b q.d q.z=g2 at HIN⊢;generalize lA (dj x.L f.L) (dk x.L f.L) (dp x.L f.L) (dq x.L f.L) q.a q.b q.d q.z=g3 at eq1⊢;generalize lA (dj y.L f.L) (dk y.L f.L) (dp y.L f.L) (dq y.L f.L) q.a q.b q.d q.z=g4 at eq2⊢;generalize dj x.L f.L=la1 at*;generalize dk x.L f.L=lb1 at*;generalize dp x.L f.L=ld1 at*;generalize dq x.L f.L=lz1 at*;generalize dj y.L f.L=la2 at*;generalize dk y.L f.L=lb2 at*;generalize dp y.L f.L=ld2 at*;generalize dq y.L f.L=lz2 at*;generalize x.L.a=xa at*;generalize x.L.b=xb at*;generalize x.L.d=xd at*;generalize x.L.z=xz at*;generalize y.L.a=ya at*;generalize y.L.b=yb at*;generalize y.L.d=yd at*;generalize y.L.z=yz at*;unfold eI;rw[hq1,hq2];rw[hq1,hq2] at hw1;clear hx hy hf px py pf pq hfb hq1 hq2 HX8;by_cases hpl:x.L.pl=f.L.pl
 .rw[<-hpl] at pf5;rw[hpl,Oy rfl];rw[hpl] at px5 pf5;clear hpl;generalize f.L.pl=fpl at*;cases g2 with
  |false=>
   simp only[Bool.and_false,Bool.false_and];go_enter func213,ntmps213;go_upto_region 1 with fail;rw[<-hw1];clear hw1;have hne:Nonempty (bX w1):=⟨⟨w1,Ov _ _⟩⟩;refine fr (by kernel_rfl) (by kernel_rfl) ?_;repeat (go_big_quiet_step (first|(go_at_call 158;exact Calls.below_of (HIN.o _))|(go_at_call_of 214 xa;exact Calls.below_of (HL1.o _))|(go_at_call_of 214 ya;exact Calls.below_of (HL2.o _))))
   refine wpQuiet_nil ?_;intro _ hw';obtain⟨⟨w9,hb9⟩,rfl⟩:=hw';have HB9:=ae hb9;clear hb9 hne;go_wp2;go_ret;exact⟨rfl,In HB1.o HB9.o⟩
  |true=>
   cases g3 with
   |true=>
    simp only[Bool.not_true,Bool.and_false,Bool.false_and];go_enter func213,ntmps213;go_upto_region 1 with fail;rw[<-hw1];clear hw1;have hne:Nonempty (bX w1):=⟨⟨w1,Ov _ _⟩⟩;refine fr (by kernel_rfl) (by kernel_rfl) ?_;repeat (go_big_quiet_step (first|(go_at_call 158;exact Calls.below_of (HIN.o _))|(go_at_call_of 214 xa;exact Calls.below_of (HL1.o _))|(go_at_call_of 214 ya;exact Calls.below_of (HL2.o _))))
    refine wpQuiet_nil ?_;intro _ hw';obtain⟨⟨w9,hb9⟩,rfl⟩:=hw';have HB9:=ae hb9;clear hb9 hne;go_wp2;go_ret;exact⟨rfl,In HB1.o HB9.o⟩
   |false=>
    cases g4 with
    |true=>
     simp only[Bool.not_true,Bool.not_false,Bool.and_false,Bool.and_true];go_enter func213,ntmps213;go_upto_region 1 with fail;rw[<-hw1];clear hw1;have hne:Nonempty (bX w1):=⟨⟨w1,Ov _ _⟩⟩;refine fr (by kernel_rfl) (by kernel_rfl) ?_;repeat (go_big_quiet_step (first|(go_at_call 158;exact Calls.below_of (HIN.o _))|(go_at_call_of 214 xa;exact Calls.below_of (HL1.o _))|(go_at_call_of 214 ya;exact Calls.below_of (HL2.o _))))
     refine wpQuiet_nil ?_;intro _ hw';obtain⟨⟨w9,hb9⟩,rfl⟩:=hw';have HB9:=ae hb9;clear hb9 hne;go_wp2;go_ret;exact⟨rfl,In HB1.o HB9.o⟩
    |false=>
     simp only[Bool.not_false,Bool.and_true];go_enter func213,ntmps213;go_upto_region 1 with fail;rw[<-hw1];clear hw1;have hne:Nonempty (bX w1):=⟨⟨w1,Ov _ _⟩⟩;refine fr (by kernel_rfl) (by kernel_rfl) ?_;repeat (go_big_quiet_step (first|(go_at_call 158;exact Calls.below_of (HIN.o _))|(go_at_call_of 214 xa;exact Calls.below_of (HL1.o _))|(go_at_call_of 214 ya;exact Calls.below_of (HL2.o _))))
     refine wpQuiet_nil ?_;intro _ hw';obtain⟨⟨w9,hb9⟩,rfl⟩:=hw';have HB9:=ae hb9;clear hb9 hne;go_wp2;go_ret;exact⟨rfl,In HB1.o HB9.o⟩
 .have hdf:decide (x.L.pl=f.L.pl)=false:=Ox hpl;rw[hdf];simp only[Bool.false_and];have hbe:(x.L.pl==f.L.pl)=false:=by simpa using hpl
  generalize x.L.pl=xpl at*;generalize f.L.pl=fpl at*;go_enter func213,ntmps213;go_upto_region 1 with fail;rw[<-hw1];clear hw1;have hne:Nonempty (bX w1):=⟨⟨w1,Ov _ _⟩⟩;refine fr (by kernel_rfl) (by kernel_rfl) ?_;repeat (go_big_quiet_step (first|(go_at_call 158;exact Calls.below_of (HIN.o _))|(go_at_call_of 214 xa;exact Calls.below_of (HL1.o _))|(go_at_call_of 214 ya;exact Calls.below_of (HL2.o _))))
  refine wpQuiet_nil ?_;intro _ hw';obtain⟨⟨w9,hb9⟩,rfl⟩:=hw';have HB9:=ae hb9;clear hb9 hne;go_wp2;go_ret;exact⟨rfl,In HB1.o HB9.o⟩
def mw(w:PJ)(v:PK)(qs:PF):Prop:=∃a c,v=.slice a qs.length c/\∀j (h:j<qs.length),∃b off,a=some ⟨b,off,none⟩/\iG w b (off+j*8) qs[j]
variable{qs:PF}
theorem mw.below(h:mw w v qs)(hb:Io w w'):mw w' v qs:=by obtain⟨a,c,h1,h2⟩:=h;refine⟨a,c,h1,λj hj=>?_⟩;obtain⟨b,off,h3,h4⟩:=h2 j hj;exact⟨b,off,h3,h4.keep hb⟩
theorem Bc:∀(qs:PF)(k j:Nat)(h:k<qs.length),j<8->(bP qs)[k*8+j]?=(aO qs[k])[j]?
 |[],_,_,h,_=>by simp at h
 |q::qs,0,j,_,hj=>by show (aO q++bP qs)[0*8+j]?=_;rw[O4 (by simp[aO];omega)];simp
 |q::qs,k+1,j,h,hj=>by
  show (aO q++bP qs)[(k+1)*8+j]?=_;rw[O9 (by simp[aO];omega)];have e:(k+1)*8+j-(aO q).length=k*8+j:=by simp[aO];omega
  rw[e,Bc qs k j (by simpa using h) hj];simp
theorem bK.rq(h:bK B w v qs):mw w v qs:=by
 obtain⟨a,c,e⟩:=h.sl;refine⟨a,c,e,λj hj=>?_⟩;rcases h.own.2 with ⟨h1,h2⟩|⟨g,cap,ag,h1,hb,hh,_⟩
 .omega
 .rw[e] at h1;simp only[OQ,true_and] at h1;obtain⟨rfl,rfl⟩:=h1;have ho:=h.own;rw[e] at ho;have hc:∀i,i<8->w.cell? ⟨g,0+j*8+i,none⟩=(aO qs[j])[i]?:=λi hi=>by rw[ON,Oq ho (j*8+i) (by omega),Bc qs j i hj hi]
  exact⟨g,0,rfl,hc 0 (by omega),hc 1 (by omega),hc 2 (by omega),hc 3 (by omega),hc 4 (by omega),hc 5 (by omega),hc 6 (by omega),hc 7 (by omega)⟩
def oa(Pb:Pq->Bool->Prop)(qs:PF)(r:Int):Prop:=(r=-1/\∀q∈qs,Pb q false)\/∃i,∃h:i<qs.length,r=i/\Pb qs[i] true/\∀j (hj:j<qs.length),j<i->Pb qs[j] false
theorem Ib(cb:Nat)(Pb:Pq->Bool->Prop)(v:PK)(qs:PF)(w:PJ)(hq:mw w v qs)(hn:qs.length<=2100000000000)(hT:∀W q,Io w W->q∈qs->Calls prog 213 #[eI q,.pointer (some ⟨cb,0,none⟩)] W λe w'=>∃r,e=.returned (.bool r)/\Pb q r/\Io W w'):Calls prog 247 #[v,.func (.func 213) #[] #[.pointer (some ⟨cb,0,none⟩)]] w λe w'=>∃r:Int,e=.returned (.int .i64 r)/\oa Pb qs r/\Io w w':=by
 have HT:=ae hT;have HQ:=ae hq;obtain⟨xa,xc,rfl,_⟩:=hq;clear hT;go_enter func247,ntmps247;go_wp2_with fail;go_loopw [8] (λi wr=>∃m:Nat,m<=qs.length/\i=.int .i64 m/\(∀j (h:j<qs.length),j<m->Pb qs[j] false)/\Io w wr) (λi _=>qs.length-(intOf i).toNat);case atStart=>exact⟨0,OB _,rfl,λj _ h=>by omega,Ov _ _⟩
 case round=>
  obtain⟨m,hm,rfl,hno,hbr⟩:=hrel;have HNO:=ae hno;have HBR:=ae hbr;clear hno hbr;by_cases hm2:m<qs.length
  .obtain⟨a2,c2,e2,h2⟩:=HQ.o.below HBR.o;simp only[OQ,true_and] at e2;obtain⟨rfl,rfl⟩:=e2;obtain⟨b,off,rfl,hpq⟩:=h2 m hm2;obtain⟨f0,f1,f2,f3,f4,f5,f6,f7⟩:=hpq;have HC:=ae (HT.o wr qs[m] HBR.o (OE hm2));have HFI:Po (Pb qs[m] true->oa Pb qs m):=λh=>Pg ⟨m,hm2,rfl,h,λj hj hjm=>HNO.o j hj hjm⟩;have HNX:Po (Pb qs[m] false->∀j (h:j<qs.length),j<m+1->Pb qs[j] false):=λh j hj hjm=>by
    rcases Nat.lt_succ_iff_lt_or_eq.1 hjm with h2|rfl
    .exact HNO.o j hj h2
    .exact h
   unfold eI at HC;clear h2;generalize qs[m]=q at HC HFI HNX f0 f1 f2 f3 f4 f5 f6 f7;go_wp2_with (go_at_call 213;refine HC.o.mono ?_;rintro e w9 ⟨r9,rfl,hp9,hb9⟩;have HB9:=ae hb9;have HP9:=ae hp9;clear hb9 hp9;cases r9)
   .go_roundw;case rel=>exact⟨m+1,by omega,by go_num,HNX.o HP9.o,In HBR.o HB9.o⟩
    case measure=>simp[intOf];omega
   .go_ret;exact⟨m,rfl,HFI.o HP9.o,In HBR.o HB9.o⟩
  .have e:m=qs.length:=by omega
   subst e;have HE:Po (oa Pb qs (-1)):=Pf ⟨rfl,λq hq=>by
    obtain⟨j,hj,rfl⟩:=List.getElem_of_mem hq;exact HNO.o j hj hj⟩
   go_wp2;go_ret;exact⟨-1,rfl,HE.o,HBR.o⟩
theorem Ic(cb:Nat)(Pb:Pq->Bool->Prop)(v:PK)(qs:PF)(w:PJ)(hq:mw w v qs)(hn:qs.length<=2100000000000)(hT:∀W q,Io w W->q∈qs->Calls prog 219 #[eI q,.pointer (some ⟨cb,0,none⟩)] W λe w'=>∃r,e=.returned (.bool r)/\Pb q r/\Io W w'):Calls prog 247 #[v,.func (.func 219) #[] #[.pointer (some ⟨cb,0,none⟩)]] w λe w'=>∃r:Int,e=.returned (.int .i64 r)/\oa Pb qs r/\Io w w':=by
 have HT:=ae hT;have HQ:=ae hq;obtain⟨xa,xc,rfl,_⟩:=hq;clear hT;go_enter func247,ntmps247;go_wp2_with fail;go_loopw [8] (λi wr=>∃m:Nat,m<=qs.length/\i=.int .i64 m/\(∀j (h:j<qs.length),j<m->Pb qs[j] false)/\Io w wr) (λi _=>qs.length-(intOf i).toNat);case atStart=>exact⟨0,OB _,rfl,λj _ h=>by omega,Ov _ _⟩
 case round=>
  obtain⟨m,hm,rfl,hno,hbr⟩:=hrel;have HNO:=ae hno;have HBR:=ae hbr;clear hno hbr;by_cases hm2:m<qs.length
  .obtain⟨a2,c2,e2,h2⟩:=HQ.o.below HBR.o;simp only[OQ,true_and] at e2;obtain⟨rfl,rfl⟩:=e2;obtain⟨b,off,rfl,hpq⟩:=h2 m hm2;obtain⟨f0,f1,f2,f3,f4,f5,f6,f7⟩:=hpq;have HC:=ae (HT.o wr qs[m] HBR.o (OE hm2));have HFI:Po (Pb qs[m] true->oa Pb qs m):=λh=>Pg ⟨m,hm2,rfl,h,λj hj hjm=>HNO.o j hj hjm⟩;have HNX:Po (Pb qs[m] false->∀j (h:j<qs.length),j<m+1->Pb qs[j] false):=λh j hj hjm=>by
    rcases Nat.lt_succ_iff_lt_or_eq.1 hjm with h2|rfl
    .exact HNO.o j hj h2
    .exact h
   unfold eI at HC;clear h2;generalize qs[m]=q at HC HFI HNX f0 f1 f2 f3 f4 f5 f6 f7;go_wp2_with (go_at_call 219;refine HC.o.mono ?_;rintro e w9 ⟨r9,rfl,hp9,hb9⟩;have HB9:=ae hb9;have HP9:=ae hp9;clear hb9 hp9;cases r9)
   .go_roundw;case rel=>exact⟨m+1,by omega,by go_num,HNX.o HP9.o,In HBR.o HB9.o⟩
    case measure=>simp[intOf];omega
   .go_ret;exact⟨m,rfl,HFI.o HP9.o,In HBR.o HB9.o⟩
  .have e:m=qs.length:=by omega
   subst e;have HE:Po (oa Pb qs (-1)):=Pf ⟨rfl,λq hq=>by
    obtain⟨j,hj,rfl⟩:=List.getElem_of_mem hq;exact HNO.o j hj hj⟩
   go_wp2;go_ret;exact⟨-1,rfl,HE.o,HBR.o⟩
theorem Ie(cb:Nat)(Pb:Pq->Bool->Prop)(v:PK)(qs:PF)(w:PJ)(hq:mw w v qs)(hn:qs.length<=2100000000000)(hT:∀W q,Io w W->q∈qs->Calls prog 219 #[eI q,.pointer (some ⟨cb,0,none⟩)] W λe w'=>∃r,e=.returned (.bool r)/\Pb q r/\Io W w'):Calls prog 218 #[v,.func (.func 219) #[] #[.pointer (some ⟨cb,0,none⟩)]] w λe w'=>∃r:Bool,e=.returned (.bool r)/\(r=false->∀q∈qs,Pb q false)/\(r=true->∃q∈qs,Pb q true)/\Io w w':=by
 have HIX:=ae (Ic cb Pb v qs w hq hn hT);obtain⟨xa,xc,rfl,_⟩:=hq;clear hT;go_enter func218,ntmps218;go_wp2_with (go_at_call 247;refine HIX.o.mono ?_;rintro e w9 ⟨r9,rfl,hp9,hb9⟩;have HB9:=ae hb9;have HP9:=ae hp9;clear hb9 hp9);go_ret;refine⟨decide (0<=r9),rfl,λh=>?_,λh=>?_,HB9.o⟩
 .rcases HP9.o with ⟨_,h2⟩|⟨i,hi,h2,_⟩
  .exact h2
  .simp at h;omega
 .rcases HP9.o with ⟨h1,_⟩|⟨i,hi,_,h2,_⟩
  .simp at h;omega
  .exact⟨_,OE hi,h2⟩
theorem lC(q0:Pq)(l:PH)(n:Nat)(x:PK):(aO q0++l).set (n+8) x=aO q0++l.set n x:=rfl
theorem Be:∀(cs:PF)(k:Nat)(_:k<cs.length)(q:Pq),((((((((bP cs).set (k*8) (.pointer (some ⟨q.b1,0,none⟩))).set (k*8+1) (.pointer (some ⟨q.b2,0,none⟩))).set (k*8+2) (.int .u16 q.a)).set (k*8+3) (.int .u16 q.b)).set (k*8+4) (.int .u16 q.d)).set (k*8+5) (.int .u16 q.z)).set (k*8+6) (.int .i64 q.dg)).set (k*8+7) (.int .i64 q.k)=bP (cs.set k q)
 |[],_,h,_=>by simp at h
 |q0::cs,0,_,q=>rfl
 |q0::cs,k+1,h,q=>by
  have e:∀j,(k+1)*8+j=(k*8+j)+8:=λj=>by omega
  have e0:(k+1)*8=k*8+8:=by omega
  show ((((((((aO q0++bP cs).set ((k+1)*8) _).set ((k+1)*8+1) _).set ((k+1)*8+2) _).set ((k+1)*8+3) _).set ((k+1)*8+4) _).set ((k+1)*8+5) _).set ((k+1)*8+6) _).set ((k+1)*8+7) _=aO q0++bP (cs.set k q);rw[e 1,e 2,e 3,e 4,e 5,e 6,e 7,e0,lC,lC,lC,lC,lC,lC,lC,lC,Be cs k (by simpa using h) q]
def pE(w:PJ)(g k:Nat)(q:Pq):PJ:=(((((((w.setCell ⟨g,k*8,none⟩ (.pointer (some ⟨q.b1,0,none⟩))).setCell ⟨g,k*8+1,none⟩ (.pointer (some ⟨q.b2,0,none⟩))).setCell ⟨g,k*8+2,none⟩ (.int .u16 q.a)).setCell ⟨g,k*8+3,none⟩ (.int .u16 q.b)).setCell ⟨g,k*8+4,none⟩ (.int .u16 q.d)).setCell ⟨g,k*8+5,none⟩ (.int .u16 q.z)).setCell ⟨g,k*8+6,none⟩ (.int .i64 q.dg)).setCell ⟨g,k*8+7,none⟩ (.int .i64 q.k)
variable{u:PK}{j:Nat}
theorem kD{Φ:PK->Prop}(h:bU Φ w g)(hu:Φ u):bU Φ (w.setCell ⟨g,j,none⟩ u) g:=by
 intro i x hx;by_cases e:i=j
 .subst e;cases hc:w.cell? ⟨g,i,none⟩ with
  |none=>
   have:(w.setCell ⟨g,i,none⟩ u).cell? ⟨g,i,none⟩=none:=by
    unfold World.cell? World.setCell at*;simp only[Array.getElem?_modify] at*;cases hh:w.heap[g]? with
    |none=>simp[hh] at hc⊢
    |some o=>cases o<;>simp_all
   rw[this] at hx;simp at hx
  |some y=>rw[World.cell?_setCell_same _ _ _ hc] at hx;simp only[OP] at hx;rw[<-hx];exact hu
 .rw[World.cell?_setCell_other] at hx
  .exact h i x hx
  .intro h2;apply e;simpa using h2.symm
variable{cs:PF}{cap n:Nat}
theorem bK.putQ(h:bK B w (.slice (some ⟨g,0,none⟩) n cap) cs)(k:Nat)(hk:k<cs.length)(q:Pq):bK B (pE w g k q) (.slice (some ⟨g,0,none⟩) n cap) (cs.set k q)/\aj (λj=>j=g) w (Go.Proofs.YtjkalahhpobefaaGreat.pE w g k q):=by
 obtain⟨a,c,e⟩:=h.sl;simp only[OQ] at e;obtain⟨_,rfl,_⟩:=e;have h0:=OF h.own (k*8) (.pointer (some ⟨q.b1,0,none⟩));have h1:=OF h0.1 (k*8+1) (.pointer (some ⟨q.b2,0,none⟩));have h2:=OF h1.1 (k*8+2) (.int .u16 q.a);have h3:=OF h2.1 (k*8+3) (.int .u16 q.b);have h4:=OF h3.1 (k*8+4) (.int .u16 q.d);have h5:=OF h4.1 (k*8+5) (.int .u16 q.z);have h6:=OF h5.1 (k*8+6) (.int .i64 q.dg);have h7:=OF h6.1 (k*8+7) (.int .i64 q.k);have f:∀{u v:PJ},u.grownBy v (some g)->aj (λk=>k=g) u v:=λhg=>aj.of_grown hg λx e=>by simpa using e.symm
 refine⟨⟨?_,λg2 hg2=>?_⟩,(((((((f h0.2).trans (f h1.2) λ_ _ h=>h).trans (f h2.2) λ_ _ h=>h).trans (f h3.2) λ_ _ h=>h).trans (f h4.2) λ_ _ h=>h).trans (f h5.2) λ_ _ h=>h).trans (f h6.2) λ_ _ h=>h).trans (f h7.2) λ_ _ h=>h⟩
 .have:=h7.1;rw[Be cs k hk q] at this;rw[List.length_set];exact this
 .simp only[Value.ownBlock,OP] at hg2;subst hg2;have hk0:=h.kd g rfl;unfold Go.Proofs.YtjkalahhpobefaaGreat.pE;exact kD (kD (kD (kD (kD (kD (kD (kD hk0 (λx e=>by cases e)) (λx e=>by cases e)) (λx e=>by cases e)) (λx e=>by cases e)) (λx e=>by cases e)) (λx e=>by cases e)) (λx e=>by cases e)) (λx e=>by cases e)
theorem bK.cells8(h:bK B w (.slice (some ⟨g,0,none⟩) n cap) cs)(k:Nat)(hk:k<cs.length):iG w g (k*8) cs[k]:=by obtain⟨a,c,e,h2⟩:=h.rq;simp only[OQ] at e;obtain⟨rfl,_,rfl⟩:=e;obtain⟨b,off,e2,h3⟩:=h2 k hk;simp only[OP,Addr.mk.injEq,and_true] at e2;obtain⟨rfl,rfl⟩:=e2;rw[ON] at h3;exact h3
theorem Tryz.infoPr:(prog.info? 238).map (λi=>(i.zero,i.size,i.bytes))=some (some (.agg #[.pointer none,.pointer none,.int .u16 0,.int .u16 0,.int .u16 0,.int .u16 0,.int .i64 0,.int .i64 0]),8,40):=by kernel_rfl
theorem Bf(n:Nat):∀x∈(Builtin.zeroCells #[Value.pointer none,.pointer none,.int .u16 0,.int .u16 0,.int .u16 0,.int .u16 0,.int .i64 0,.int .i64 0] n).toList,d8 x/\x.oneCell'=true:=by
 intro x hx;simp[Builtin.zeroCells] at hx;obtain⟨l,hl,hx⟩:=hx;have h8:l%8=0\/l%8=1\/l%8=2\/l%8=3\/l%8=4\/l%8=5\/l%8=6\/l%8=7:=by omega
 rcases h8 with h|h|h|h|h|h|h|h<;>rw[h] at hx<;>subst hx<;>exact⟨λx e=>(by cases e),rfl⟩
theorem bK.clear(h:bK B w (.slice (some ⟨g,0,none⟩) n cap) cs)(i:Nat)(hi:i<cs.length)(ty:TypeId):∃w',(Builtin.clear_ #[104] ty #[.slice (some ⟨g,i*8,none⟩) (n-i) (cap-i)]).run prog w=.ok (.tuple #[]) w'/\bK B w' (.slice (some ⟨g,0,none⟩) i cap) (cs.take i)/\aj (λj=>j=g) w w':=by
 obtain⟨a,c,e⟩:=h.sl;simp only[OQ] at e;obtain⟨_,rfl,_⟩:=e;rcases h.own.2 with ⟨h1,_⟩|⟨g2,cap2,ag,h1,hb,hh,hnc,hcm,hcs,htake⟩
 .simp at h1
 .simp only[OQ,OP,Addr.mk.injEq,and_true,true_and] at h1;obtain⟨rfl,rfl⟩:=h1;obtain⟨i0,hii,hz0,hz1,hz2⟩:=info_parts Tryz.infoPr;have hzl:(Builtin.zeroCells #[Value.pointer none,.pointer none,.int .u16 0,.int .u16 0,.int .u16 0,.int .u16 0,.int .i64 0,.int .i64 0] (cs.length-i)).toList.length=(cs.length-i)*8:=by rw[Array.length_toList,size_zeroCells];rfl
  have hst:=run_storeCells_at (P:=prog) g (i*8) 238 (Builtin.zeroCells #[Value.pointer none,.pointer none,.int .u16 0,.int .u16 0,.int .u16 0,.int .u16 0,.int .i64 0,.int .i64 0] (cs.length-i)).toList 0 ag w hh (by rw[hzl,hcs];omega) (λv hv=>(Bf _ v hv).2);simp only[Nat.add_zero] at hst;obtain⟨m,hm⟩:∃m,cs.length-i=m+1:=⟨cs.length-i-1,by omega⟩;refine⟨w.setRow g (ag.toList.take (i*8)++(Builtin.zeroCells #[Value.pointer none,.pointer none,.int .u16 0,.int .u16 0,.int .u16 0,.int .u16 0,.int .i64 0,.int .i64 0] (cs.length-i)).toList++ag.toList.drop (i*8+(Builtin.zeroCells #[Value.pointer none,.pointer none,.int .u16 0,.int .u16 0,.int .u16 0,.int .u16 0,.int .i64 0,.int .i64 0] (cs.length-i)).toList.length)).toArray,?_,⟨⟨?_,.inr ⟨g,cap,_,?_,hb,setRow_heap w g ag _ _ _ hh,by rw[O7];omega,hcm,?_,?_⟩⟩,λk hk=>?_⟩,⟨rfl,rfl,rfl,by simp,λk _ hk=>setRow_other w g k _ hk⟩⟩
  .have hzv:∀W,(zeroValue 238).run prog W=.ok (.agg #[.pointer none,.pointer none,.int .u16 0,.int .u16 0,.int .u16 0,.int .u16 0,.int .i64 0,.int .i64 0]) W:=λW=>by kernel_rfl
   unfold Builtin.clear_;rw[hm];rw[hm] at hst;simp[run_underlying underlying104,hzv,Value.cells,hst]
  .rw[i6]
  .rw[O7,Nat.min_eq_left (by omega)]
  .simp only[List.size_toArray,OM,O7,List.length_drop,Array.length_toList,hzl];omega
  .rw[O7,Nat.min_eq_left (by omega),List.append_assoc,List.take_append_of_le_length (by rw[O7,Array.length_toList,hcs];have:=hnc;omega),List.take_take,Nat.min_self];have e1:ag.toList.take (i*8)=(bP cs).take (i*8):=by rw[<-htake,List.take_take,Nat.min_eq_left (by omega)]
   rw[e1];have e2:bP cs=bP (cs.take i)++bP (cs.drop i):=by rw[<-nz,List.take_append_drop]
   rw[e2,List.take_left' (by rw[i6,O7,Nat.min_eq_left (by omega)])]
  .simp only[Value.ownBlock,OP] at hk;subst hk;refine kZ (setRow_heap w g ag _ _ _ hh) (λx hx=>?_);have hcur:=uL hh (h.kd g rfl);rw[List.toList_toArray,OK,OK] at hx;rcases hx with (hx|hx)|hx
   .exact hcur x (Pj hx)
   .exact(Bf _ x hx).1
   .exact hcur x (List.mem_of_mem_drop hx)
theorem If{T:Pq->Bool}{i:Nat}(h:i<qs.length)(h1:T qs[i]=true)(h2:∀j (hj:j<qs.length),j<i->T qs[j]=false):(qs.take (i+1)).filter (λq=>!T q)=qs.take i:=by
 rw[List.take_add_one,OI h,List.filter_append];have e1:(qs.take i).filter (λq=>!T q)=qs.take i:=by rw[List.filter_eq_self];intro q hq;obtain⟨j,hj,rfl⟩:=List.getElem_of_mem hq;rw[O7] at hj;rw[List.getElem_take,h2 j (by omega) (by omega)];rfl
 rw[e1];simp[h1]
theorem Ig(B cb:Nat)(T:Pq->Bool)(v:PK)(qs:PF)(w:PJ)(hp:bK B w v qs)(hB:B<=w.heap.size)(hn:qs.length<=2100000000000)(hT:∀W q,aj (λk=>v.ownBlock=some k) w W->q∈qs->Calls prog 213 #[eI q,.pointer (some ⟨cb,0,none⟩)] W λe w'=>e=.returned (.bool (T q))/\Io W w'):Calls prog 212 #[v,.func (.func 213) #[] #[.pointer (some ⟨cb,0,none⟩)]] w λe w'=>∃v',e=.returned v'/\bK B w' v' (qs.filter λq=>!T q)/\aj (λk=>v.ownBlock=some k) w w':=by
 have HIX:=ae (Ib cb (λq r=>r=T q) v qs w hp.rq hn λW q hb hq=>(hT W q (aj.of_below hb) hq).mono λe w' h=>⟨T q,h.1,rfl,h.2⟩);have HT:=ae hT;have HP:=ae hp;obtain⟨xa,xc,rfl⟩:=hp.sl;clear hT hp;go_enter func212,ntmps212;go_upto_region 2 with (go_at_call 247;refine HIX.o.mono ?_;rintro e w1 ⟨r1,rfl,hp1,hb1⟩;have HB1:=ae hb1;have HI1:=ae hp1;clear hb1 hp1);rcases HI1.o with ⟨hr,hall⟩|⟨i0,hi0,hr,ht0,hf0⟩
 .have HALL:=ae hall;subst hr;clear hall HI1;go_wp2;go_ret;refine⟨_,rfl,?_,aj.of_below HB1.o⟩;have e:qs.filter (λq=>!T q)=qs:=by rw[List.filter_eq_self];intro q hq;rw[<-HALL.o q hq];rfl
  rw[e];exact HP.o.next HB1.o
 .have hbe:((i0:Int)== -1)=false:=by simp
  have HFI:=ae (If hi0 ht0.symm λj hj hji=>(hf0 j hj hji).symm);obtain⟨g,hg⟩:∃g,xa=some ⟨g,0,none⟩:=by
   rcases HP.o.own.2 with ⟨h1,h2⟩|⟨g,cap,ag,h1,_⟩
   .omega
   .simp only[OQ] at h1;exact⟨g,h1.1⟩
  subst hg;subst hr;have HP1:=ae (HP.o.next HB1.o);clear HI1 ht0 hf0;go_wp2_with fail;clear hbe;go_loopw [5,6] (λsi sj wr=>∃(i j:Nat)(cs:PF),i<j/\j<=qs.length/\si=.int .i64 i/\sj=.int .i64 j/\cs.length=qs.length/\cs.take i=(qs.take j).filter (λq=>!T q)/\cs.drop j=qs.drop j/\bK B wr (.slice (some ⟨g,0,none⟩) qs.length xc) cs/\aj (λk=>(Value.slice (some ⟨g,0,none⟩) qs.length xc).ownBlock=some k) w wr) (λ_ sj _=>qs.length-(intOf sj).toNat);case atStart=>exact⟨i0,i0+1,qs,by omega,by omega,rfl,by go_num,rfl,HFI.o.symm,rfl,HP1.o,aj.of_below HB1.o⟩
  case round=>
   obtain⟨i,j,cs,hij,hjn,rfl,rfl,hlen,htk,hdr,hpw,hfr⟩:=hrel;have HPW:=ae hpw;have HFR:=ae hfr;have HTK:=ae htk;have HDR:=ae hdr;have HLEN:=ae hlen;clear hpw hfr htk hdr hlen;by_cases hj2:j<qs.length
   .have hjc:j<cs.length:=by have:=HLEN.o;omega
    have hic:i<cs.length:=by have:=HLEN.o;omega
    have ecs:cs[j]=qs[j]:=by
     have h1:(cs.drop j)[0]?=(qs.drop j)[0]?:=by rw[HDR.o]
     rw[List.getElem?_drop,List.getElem?_drop,Nat.add_zero,OI hjc,OI hj2] at h1;simpa using h1
    have hpq:=HPW.o.cells8 j hjc;rw[ecs] at hpq;obtain⟨f0,f1,f2,f3,f4,f5,f6,f7⟩:=hpq;have HTN:Po (T qs[j]=false->(cs.set i qs[j]).take (i+1)=(qs.take (j+1)).filter (λq=>!T q)):=λh=>by rw[List.take_add_one (l:=qs),OI hj2,List.filter_append,<-HTK.o,List.take_add_one];rw[List.take_set_of_le (Ou _),List.getElem?_set_self (by omega)];simp[h]
    have HTS:Po (T qs[j]=true->cs.take i=(qs.take (j+1)).filter (λq=>!T q)):=λh=>by rw[List.take_add_one (l:=qs),OI hj2,List.filter_append,<-HTK.o];simp[h]
    have HD2:Po (cs.drop (j+1)=qs.drop (j+1)):=by show _=_;rw[<-List.drop_drop,<-List.drop_drop,HDR.o]
    have HD3:Po ((cs.set i qs[j]).drop (j+1)=qs.drop (j+1)):=by show _=_;rw[List.drop_set_of_lt (by omega)];exact HD2.o
    have HPUT:=ae (λW (hb:Io wr W)=>(HPW.o.next hb).putQ i hic qs[j]);have HC:=ae (HT.o · qs[j] · (OE hj2))
    obtain⟨w2,hw2⟩:∃w2,w2=wr.alloc (.cells #[.pointer (some ⟨qs[j].b1,0,none⟩),.pointer (some ⟨qs[j].b2,0,none⟩),.int .u16 qs[j].a,.int .u16 qs[j].b,.int .u16 qs[j].d,.int .u16 qs[j].z,.int .i64 qs[j].dg,.int .i64 qs[j].k] 238):=⟨_,rfl⟩;have HB2:Po (Io wr w2):=by rw[hw2];exact ai
    have HX2:Po (kB wr.heap.size w2 wr.heap.size qs[j]):=by rw[hw2];exact lh (Ou _) _
    have HF2:Po (aj (λk=>(Value.slice (some ⟨g,0,none⟩) qs.length xc).ownBlock=some k) w w2):=HFR.o.trans (aj.of_below (S:=λ_=>False) HB2.o) λ_ _ h=>h.elim;have HCC:=ae (HC.o w2 HF2.o);unfold eI at HCC;generalize hqj:qs[j]=q at*;clear hqj ecs;have hjI:(j:Int)<(qs.length:Int):=by omega
    have hiI:(i:Int)<(qs.length:Int):=by omega
    go_upto_region 8 with fail;rw[<-hw2];clear hw2 f0 f1 f2 f3 f4 f5 f6 f7;obtain⟨y0,y1,y2,y3,y4,y5,y6,y7⟩:=HX2.o.at;simp only[ON] at y0 y1 y2 y3 y4 y5 y6 y7;generalize hTq:T q=tq at HCC HTN HTS;clear hTq HC;cases tq with
    |true=>
     have HTS2:=ae (HTS.o rfl);clear HTS HTN;go_wp2_with (go_at_call 213;refine HCC.o.mono ?_;rintro e w9 ⟨rfl,hb9⟩;have HB9:=ae (In HB2.o hb9);clear hb9);go_roundw;case rel=>exact⟨i,j+1,cs,by omega,by omega,rfl,by go_num,HLEN.o,HTS2.o,HD2.o,HPW.o.next HB9.o,HFR.o.trans (aj.of_below (S:=λ_=>False) HB9.o) λ_ _ h=>h.elim⟩
     case measure=>simp[intOf];omega
    |false=>
     have HTN2:=ae (HTN.o rfl);clear HTS HTN;go_upto_region 9 with (go_at_call 213;refine HCC.o.mono ?_;rintro e w9 ⟨rfl,hb9⟩;have HB9:=ae (In HB2.o hb9);have HX9:Po (kB wr.heap.size w9 wr.heap.size q):=aF HX2.o hb9;clear hb9);clear y0 y1 y2 y3 y4 y5 y6 y7;obtain⟨y0,y1,y2,y3,y4,y5,y6,y7⟩:=HX9.o.at;simp only[ON] at y0 y1 y2 y3 y4 y5 y6 y7;have HP9:=ae (HPW.o.next HB9.o);obtain⟨c0,c1,c2,c3,c4,c5,c6,c7⟩:=HP9.o.cells8 i hic;have ho9:=HP9.o.own;rw[HLEN.o] at ho9;have z0:=Oo ho9 (i*8);have z1:=Oo ho9 (i*8+1);have z2:=Oo ho9 (i*8+2);have z3:=Oo ho9 (i*8+3);have z4:=Oo ho9 (i*8+4);have z5:=Oo ho9 (i*8+5);have z6:=Oo ho9 (i*8+6);have z7:=Oo ho9 (i*8+7);have HPT:=ae (HPUT.o w9 HB9.o);clear ho9;unfold pE at HPT;go_wp2;go_roundw;case rel=>exact⟨i+1,j+1,cs.set i q,by omega,by omega,by go_num,by go_num,by rw[List.length_set];exact HLEN.o,HTN2.o,HD3.o,HPT.o.1,(HFR.o.trans (aj.of_below (S:=λ_=>False) HB9.o) λ_ _ h=>h.elim).trans HPT.o.2 λk _ e=>by rw[e];rfl⟩
     case measure=>simp[intOf];omega
   .have e:j=qs.length:=by omega
    subst e;have hic:i<cs.length:=by have:=HLEN.o;omega
    have hcap:qs.length<=xc:=by
     rcases HPW.o.own.2 with ⟨h1,_⟩|⟨g2,cap2,ag,h1,_,_,hnc,_⟩
     .simp at h1
     .simp only[OQ] at h1;have:=HLEN.o;omega
    have hic2:i<qs.length:=by omega
    obtain⟨w3,hcl,hp3,hf3⟩:=HPW.o.clear i hic 0;have HP3:=ae hp3;have HF3:=ae hf3;clear hp3 hf3;go_wp2;go_ret;refine⟨_,rfl,?_,HFR.o.trans HF3.o λk _ e=>by rw[e];rfl⟩;have e:=HTK.o;rw[OO (Ou _)] at e;rw[<-e];exact HP3.o
theorem b9.pr{p:Int}{B2:Nat}{x:Mm}(h:b9 p B w x)(hp:bK B2 w v qs)(hf:aj (λk=>v.ownBlock=some k) w w'):b9 p B w' x:=
 h.frm hf (dy.of_frm hf λg hg=>hp.kd g hg) λhs=>h.nob (hp.kd _ hs) rfl
def bq(w w':PJ):Prop:=w.heap.size<=w'.heap.size/\∀k,k<w.heap.size->¬(cq w 72 k/\cq w 88 k/\cq w 79 k)->w'.heap[k]?=w.heap[k]?
theorem bq.of_below(h:Io w w'):bq w w':=⟨h.size,λk hk _=>h.block k hk⟩
theorem bq.refl(w:PJ):bq w w:=⟨Ou _,λ_ _ _=>rfl⟩
theorem bq.of_frm{S:Nat->Prop}(h:aj S w w')(h1:∀k,S k->cq w 72 k)(h2:∀k,S k->cq w 88 k)(h3:∀k,S k->cq w 79 k):bq w w':=⟨h.size,λk hk hn=>h.block k hk λe=>hn ⟨h1 k e,h2 k e,h3 k e⟩⟩
theorem bq.trans{a b c:PJ}(h:bq a b)(k:bq b c):bq a c:=by refine⟨OA h.1 k.1,λx hx hn=>?_⟩;have e:=h.2 x hx hn;rw[<-e];refine k.2 x (Oz hx h.1) λh2=>hn ⟨λag e2=>h2.1 ag ?_,λag e2=>h2.2.1 ag ?_,λag e2=>h2.2.2 ag ?_⟩;all_goals (rw[e];exact e2)
theorem bq.cell(h:bq w w'){b:Nat}(hn:¬cq w 72 b)(hc:w.cell? ⟨b,j,none⟩=some u):w'.cell? ⟨b,j,none⟩=some u:=
 (World.cell?_of_block (h.2 b (OG w ⟨b,j,none⟩ hc) λe=>hn e.1)).trans hc
theorem Ih(p:Int)(B:Nat)(w:PJ)(mb ob R g:Nat)(dv pv:PK)(us:PH)(ms:PD)(qs:PF)(f:Mm)(T:Pq->Bool)(hm:bh p B w mb ob R g dv pv us ms qs)(hB:B<=w.heap.size)(hf:b9 p B w f)(hn:qs.length<=2100000000000)(hq:∀q∈qs,∃x y,x∈ms/\y∈ms/\q.b1=x.blk/\q.b2=y.blk/\T q=lB x.L y.L f.L q):Calls prog 181 #[.pointer (some ⟨mb,0,none⟩),.pointer (some ⟨f.blk,0,none⟩)] w λe w'=>e=.returned (.tuple #[])/\∃pv',bh p B w' mb ob R g dv pv' us ms (qs.filter λq=>!T q)/\b9 p B w' f/\Below B w w'/\bq w w':=by
 obtain⟨w1,hw1⟩:∃w1,w1=w.alloc (.cells #[.pointer (some ⟨f.blk,0,none⟩)] 81):=⟨_,rfl⟩;have HB1:Po (Io w w1):=by rw[hw1];exact ai
 have HC1:Po (w1.cell? ⟨w.heap.size,0,none⟩=some (.pointer (some ⟨f.blk,0,none⟩))/\cq w1 238 w.heap.size):=by rw[hw1];refine⟨by simp[go_sem],λag e=>?_⟩;rw[show (w.alloc (.cells #[.pointer (some ⟨f.blk,0,none⟩)] 81)).heap[w.heap.size]?=some (.cells #[.pointer (some ⟨f.blk,0,none⟩)] 81 (0,0)) from heap_alloc_new w _] at e;simp only[OP,Obj.cells.injEq] at e;exact absurd e.2.1 (by decide)
 have HM1:=ae (hm.next HB1.o);have HF1:=ae (hf.next HB1.o);have hB1:B<=w1.heap.size:=OA hB HB1.o.size;have HDL:=ae (Ig B w.heap.size T pv qs w1 HM1.o.prs hB1 hn λW q hfr hqm=>by
  obtain⟨x,y,hx,hy,e1,e2,e3⟩:=hq q hqm;rw[e3];refine Ia p w.heap.size x y f q W ((HM1.o.mks.mem x hx).pr HM1.o.prs hfr).mbr ((HM1.o.mks.mem y hy).pr HM1.o.prs hfr).mbr (HF1.o.pr HM1.o.prs hfr).mbr e1 e2 ?_;refine hfr.cell HC1.o.1 λe=>?_;obtain⟨ag,e9⟩:=cF HM1.o.prs.own e;exact HC1.o.2 ag e9)
 obtain⟨c0,c1,c2,c3,c4⟩:=HM1.o.cells;have z3:=Oo HM1.o.box 3;have FIN:Po (∀v' W,bK B W v' (qs.filter λq=>!T q)->aj (λk=>pv.ownBlock=some k) w1 W->(∃u,W.cell? ⟨mb,3,none⟩=some u)/\W.frozen? ⟨mb,3,none⟩=false/\bh p B (W.setCell ⟨mb,3,none⟩ v') mb ob R g dv v' us ms (qs.filter λq=>!T q)/\b9 p B (W.setCell ⟨mb,3,none⟩ v') f/\Below B w (W.setCell ⟨mb,3,none⟩ v')/\bq w (W.setCell ⟨mb,3,none⟩ v')):=λv' W h1 h2=>by
  have hbx:W.ownsRow B 107 5 (jT mb) 1 (iH ob g R dv pv):=dB h2 HM1.o.box λk hk=>bj HM1.o.prs.own hk (by decide);obtain⟨r1,r2,r3⟩:=HM1.o.repair hB1 h2 h1;have hS9:∀{T:TypeId},107≠T->238≠T->∀k,(k=mb\/pv.ownBlock=some k)->cq w1 T k:=λt1 t2 k hk=>by
   rcases hk with rfl|hk
   .exact bj HM1.o.box rfl t1
   .exact bj HM1.o.prs.own hk t2
  refine⟨⟨_,Oq hbx 3 (by omega)⟩,Oo hbx 3,r1,?_,(HB1.o.mono hB).trans r3,(bq.of_below HB1.o).trans (bq.of_frm r2 (hS9 (by decide) (by decide)) (hS9 (by decide) (by decide)) (hS9 (by decide) (by decide)))⟩;refine HF1.o.frm r2 (dy.of_frm r2 λk hk=>?_) λhs=>?_
  .rcases hk with rfl|hk
   .exact HM1.o.kd
   .exact HM1.o.prs.kd k hk
  .rcases hs with e|e
   .exact HF1.o.nob HM1.o.kd e
   .exact HF1.o.nob (HM1.o.prs.kd _ e) rfl
 obtain⟨pa,pc,hpv⟩:=HM1.o.prs.sl;rw[hpv] at c3 HDL;clear hm hf hq c0 c1 c2 c4;go_enter func181,ntmps181;go_upto_region 1 with fail;rw[<-hw1];clear hw1;go_wp2_with (go_at_call 212;refine HDL.o.mono ?_;rintro e w2 ⟨v2,rfl,hp2,hf2⟩;rw[<-hpv] at hf2;obtain⟨va2,vc2,hv2⟩:=hp2.sl;subst hv2;have H2:=ae (FIN.o _ w2 hp2 hf2);clear hp2 hf2;obtain⟨u2,d2⟩:=H2.o.1;have z2:=H2.o.2.1);go_end0;exact⟨rfl,_,H2.o.2.2.1,H2.o.2.2.2.1,H2.o.2.2.2.2.1,H2.o.2.2.2.2.2⟩
end Go.Proofs.YtjkalahhpobefaaGreat
