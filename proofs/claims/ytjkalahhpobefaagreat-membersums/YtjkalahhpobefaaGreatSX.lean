/- Rows of vectors, put. -/
import Derived.Test.YtjkalahhpobefaaGreatSU
set_option maxHeartbeats 4000000
set_option maxRecDepth 100000
namespace Go.Proofs.YtjkalahhpobefaaGreat
set_option linter.all false
open Go.Proofs.Tryz Go.RowKit Go.Sort
variable{P:Program}
theorem LK(w:PJ)(base:Nat)(t ty e:TypeId)(i:TypeInfo)(ht:P.underlying t=some (.slice e))(hi:P.info? e=some i)(hz:i.zero=some (.slice none 0 0))(hsize:i.size=1)(hby:i.bytes=24)(v:PK)(n:Nat)(xs:PH)(hown:w.ownsRow base e 1 v n xs)(hk:∀g,v.ownBlock=some g->cG w g)(a:Addr)(m c:Nat)(news:PH)(hl:news.length=m)(hu:∀u∈news,∃a n c,u=.slice a n c)(hnew:∀j x,news[j]?=some x->w.cell? (a.add j)=some x)(hm0:0<m)(hn:n<=2100000)(hm:m<=2100000)(hbase:base<=w.heap.size):∃v' w',(Builtin.append_ #[t,t] ty #[v,.slice (some a) m c]).run P w=.ok v' w'/\w'.ownsRow base e 1 v' (n+m) (xs++news)/\w.grownBy w' v.ownBlock/\(∀g,v'.ownBlock=some g->cG w' g):=by
 have hone:∀x∈news,x.oneCell'=true:=by intro x hx;obtain⟨_,_,_,e⟩:=hu x hx;rw[e];rfl
 obtain⟨v',w',hr,h2,h3,_⟩:=run_append_own (P:=P) w base t ty e i (.slice none 0 0) 1 24 ht hi hz hsize hby rfl (by decide) v n xs hown a m c news (by omega) hnew hone (by unfold maxLen;omega) (by omega) hbase;refine⟨v',w',hr,h2,h3,?_⟩;have hzero:∀(m:Nat),∀x∈(Builtin.zeroCells (Value.cells (.slice none 0 0)) m).toList,∃a n c,x=.slice a n c:=by intro m x hx;simp[Builtin.zeroCells,Value.cells] at hx;obtain⟨l,_,hx⟩:=hx;rw[Nat.mod_one] at hx;exact⟨none,0,0,by rw[<-hx];rfl⟩
 rcases hown.2 with ⟨rfl,rfl⟩|⟨g,cap,ag,rfl,hbg,hg,hnc,hcm,hcs,htake⟩
 .have hr2:=run_append_nil (P:=P) w t ty e i (.slice none 0 0) ht hi hz a m c news (by rw[hsize];omega) hnew (by omega) (by omega) (by rw[hby];omega);rw[hr] at hr2;simp only[Result.ok.injEq] at hr2;obtain⟨rfl,rfl⟩:=hr2;intro g hg;simp only[Value.ownBlock,OP] at hg;subst hg;refine sH (w:=w.drew) (λx hx=>?_);rw[Array.toList_append,OK] at hx;rcases hx with hx|hx
  .exact hu x (by simpa using hx)
  .exact hzero _ x hx
 .have hcur:=wD hg (hk g rfl);by_cases hroom:n+m<=cap
  .have hr2:=run_append_room (P:=P) w t ty e i ht hi g n cap ag hg a m c news (by rw[hsize];omega) hnew hone hroom (by rw[hsize,hcs];simp;omega);rw[hr] at hr2;simp only[Result.ok.injEq] at hr2;obtain⟨rfl,rfl⟩:=hr2;intro g2 hg2;simp only[Value.ownBlock,OP] at hg2;subst hg2;refine r8 (setRow_heap w g ag _ e _ hg) (λx hx=>?_);rw[List.toList_toArray,OK,OK] at hx;rcases hx with (hx|hx)|hx
   .exact hcur x (Pj hx)
   .exact hu x hx
   .exact hcur x (List.mem_of_mem_drop hx)
  .have holds:∀j x,xs[j]?=some x->w.cell? (((PN g 0):Addr).add j)=some x:=hown.cells (g:=g) rfl;have hr2:=run_append_grow (P:=P) w t ty e i (.slice none 0 0) ht hi hz (PN g 0) n cap xs (by rw[hsize];exact hown.1) holds a m c news (by rw[hsize];omega) hnew (by omega) (by omega) (growslice_fits (by omega) (by rw[hby];omega));rw[hr] at hr2;simp only[Result.ok.injEq] at hr2;obtain⟨rfl,rfl⟩:=hr2;intro g2 hg2;simp only[Value.ownBlock,OP] at hg2;subst hg2;refine sH (w:=w.drew) (λx hx=>?_);rw[Array.toList_append,Array.toList_append,OK,OK] at hx;rcases hx with (hx|hx)|hx
   .rw[List.toList_toArray,<-htake] at hx;exact hcur x (Pj hx)
   .exact hu x (by simpa using hx)
   .exact hzero _ x hx
variable{l:PC}{us:PH}{v:PK}{w:PJ}{B:Nat}
theorem LL(h:aM B w v us l):∀u∈us,∃a n c,u=.slice a n c:=λu hu=>by obtain⟨i,hi,rfl⟩:=Pm.1 hu;have hl:=h.len;have hf:=h.fvs i (by omega);rw[OH,OI hi] at hf;obtain⟨a,c,e,_⟩:=hf;exact⟨a,_,c,e⟩
theorem aM.app{B2:Nat}{w2:PJ}{s x:PK}{us2:PH}{l2:PC}(h:aM B w s us l)(k:aM B2 w x us2 l2)(ho:w2.ownsRow B 79 1 v (l.length+l2.length) (us++us2))(hg:w.grownBy w2 s.ownBlock)(hk:∀g,v.ownBlock=some g->cG w2 g):aM B w2 v (us++us2) (l++l2):=by
 have hf:aj (λk=>s.ownBlock=some k) w w2:=aj.of_grown hg λg e=>e;have hn:∀g,s.ownBlock=some g->bU io w g:=λg hg=>kJ (h.kind g hg);refine⟨by simp[h.len,k.len],by rw[OM];exact ho,hk,λi hi=>?_⟩;by_cases hi2:i<l.length
 .rw[OH,OH,O4 (by rw[h.len];exact hi2),O4 hi2,<-OH,<-OH];exact fN hf hn (h.fvs i hi2)
 .rw[OH,OH,O9 (by rw[h.len];omega),O9 (by omega),h.len,<-OH,<-OH];rw[OM] at hi;exact fN hf hn (k.fvs _ (by omega))
theorem CR{ops:Array Oper}{rest:List Oper}{o:Oper}{a:Act}{Q:Exit->Act->PJ->Prop}(hgd:o.guard=none)(s x:Operand)(t:TypeId)(ho:o.op=.call {callee:=.builtin .append,args:=#[s,x],argTypes:=#[t,t]})(B B2:Nat)(i:TypeInfo)(ht:P.underlying t=some (.slice 79))(hi:P.info? 79=some i)(hz:i.zero=some (.slice none 0 0))(hsize:i.size=1)(hby:i.bytes=24)(sv:PK)(us us2:PH)(l l2:PC)(xa:Option Addr)(xc:Nat)(hs:a.eval s=sv)(hx:a.eval x=.slice xa l2.length xc)(h:aM B w sv us l)(k:aM B2 w (.slice xa l2.length xc) us2 l2)(hn:l.length<=2100000)(hm:l2.length<=2100000)(hbase:B<=w.heap.size)(hK:∀v' w',aM B w' v' (us++us2) (l++l2)->w.grownBy w' sv.ownBlock->wpList P ops Q rest (a.put o.dst v') w'):wpList P ops Q (o::rest) a w:=by
 refine wpList_plain hgd λK hK'=>?_;by_cases hm0:l2.length=0
 .have e1:l2=[]:=List.eq_nil_of_length_eq_zero hm0;subst e1;have e2:us2=[]:=List.eq_nil_of_length_eq_zero (by rw[k.len];rfl);subst e2;have hr:=rL (P:=P) w B t o.type 79 i 1 ht hi sv l.length xc xa us h.own;unfold Oper.wp execOp;simp only[List.length_nil] at hx;simp only[ho,resolve,invoke,builtin,Sem.run_bind,Sem.run_pure,Result.andThen_ok,List.map_toArray,List.map_cons,List.map_nil,hs,hx,hr];exact hK' _ _ (hK sv w (by simpa using h) ⟨rfl,rfl,rfl,Ou _,λ_ _ _=>rfl⟩)
 .obtain⟨g,c,e,_,_,_⟩:=k.at 0 (by omega);simp only[OQ,true_and] at e;obtain⟨rfl,rfl⟩:=e;have hc:=World.ownsRow.cells k.own (g:=g) rfl;obtain⟨v',w',hr,h2,h3,h4⟩:=LK (P:=P) w B t o.type 79 i ht hi hz hsize hby sv l.length us h.own h.kind (PN g 0) l2.length xc us2 k.len (LL k) hc (by omega) hn hm hbase;unfold Oper.wp execOp;simp only[ho,resolve,invoke,builtin,Sem.run_bind,Sem.run_pure,Result.andThen_ok,List.map_toArray,List.map_cons,List.map_nil,hs,hx,hr];exact hK' _ _ (hK v' w' (h.app k h2 h3 h4) h3)
structure p7(p:Int)(N R:Nat)(lss:PA)(rows rows':PC):Prop where
 tr:iQ (am 1 N N 0) (am 1 N N 1) (am 1 N N 2) (dE R lss.length) R lss rows
 ok:∀f∈rows',∃L r,f=L::r/\dX p N R lss.length L r/\bp p (rows.map aK) λφ=>aq φ (L::r)
 top:mK p R (rows.map aK) rows'
 len:rows'.length<=2100000
theorem LN(p o:Int)(N R:Nat)(lv gv:PK)(lss:PA)(gus:PH)(w:PJ)(hc:gD p o N R lss)(hl:fQ w lv lss)(hg:aM 0 w gv gus (iu 1 lss.length)):Calls prog 81 #[aI p N 1 1,PO R,lv,gv] w λe w'=>∃v us rows rows',e=.returned v/\aM w.heap.size w' v us (dV R rows'++eF R rows')/\Io w w'/\p7 p N R lss rows rows':=by
 have hR3:=hc.hx.hw;have hR0:=hc.r0;obtain⟨w1,hw1⟩:∃w1,w1=w.alloc (.cells #[PO p,PO N,PO 1,PO 1] 23):=⟨_,rfl⟩;have HB1:Po (Io w w1):=by rw[hw1];exact ai
 have HST1:=ae (LF p o N R lv gv lss gus w1 hc (hl.below HB1.o) (hg.next HB1.o));obtain⟨la,lc,rfl,_⟩:=hl.wl;obtain⟨ga,gc,hgv⟩:=cl hg.own;rw[lL] at hgv;subst hgv;obtain⟨i1,hi,hz0,hz1,hz2⟩:=info_parts Tryz.infoFvL;have HIV:=ae (Ow hi (Ow hz0 (Ow hz1 hz2)));have hRI:(0:Int)<(R:Int):=by omega
 have hwR:IntKind.i64.wrap (R:Int)=R:=by rw[IntKind.wrap_i64];omega
 clear hi hz0 hz1 hz2 hl hg hc;unfold aI at HST1⊢;go_enter func81,ntmps81;go_wp2_with fail;refine wp_loop_rounds 2 ?_;rw[rounds_succ];rw[<-hw1];obtain⟨c0,c1,c2,c3⟩:w1.cell? (PN w.heap.size 0)=some (PO p)/\w1.cell? (PN w.heap.size 1)=some (PO N)/\w1.cell? (PN w.heap.size 2)=some (PO 1)/\w1.cell? (PN w.heap.size 3)=some (PO 1):=by rw[hw1];simp[go_sem]
 clear hw1;go_wp2_with (first|(go_at_call 115;refine HST1.o.mono ?_;rintro e w2 ⟨s1,s2,u1,u2,rows,rows',rfl,q0,q1,q2,q3,q4,q5,q6⟩;obtain⟨a1,d1,hs1⟩:=cl q1.own;obtain⟨a2,d2,hs2⟩:=cl q2.own;subst hs1;subst hs2;have HR1:=ae q1;have HR2:=ae q2;have HB12:=ae q3;have HBS:Po (p7 p N R lss rows rows'):=⟨q0,q4,q5,q6⟩;clear q0 q1 q2 q3 q4 q5 q6)|(at_builtin;refine CR rfl (.tmp 37) (.tmp 38) 76 rfl w2.heap.size w1.heap.size i1 underlying76 HIV.o.1 HIV.o.2.1 HIV.o.2.2.1 HIV.o.2.2.2 (.slice none 0 0) [] u1 [] (dV R rows') a1 d1 rfl rfl (aM.nil _ _) HR1.o (by simp) (by have:=(sS R rows').1;have:=HBS.o.len;omega) (Ou _) ?_;intro v3 w3 r1 r2;rw[List.nil_append,List.nil_append] at r1;obtain⟨a3,c3',hv3⟩:=cl r1.own;have HB23:Po (Io w2 w3):=(aj.of_grown (S:=λ_=>False) r2 (λg e=>by simp[Value.ownBlock] at e)).to_below (Ou _) (λk hk=>hk.elim);have HR3:=ae r1;have HR23:=ae (HR2.o.next HB23.o);subst hv3;clear r1 r2));rw[rounds_succ];go_wp2_with (at_builtin;refine CR rfl (.tmp 40) (.tmp 41) 76 rfl w2.heap.size w1.heap.size i1 underlying76 HIV.o.1 HIV.o.2.1 HIV.o.2.2.1 HIV.o.2.2.2 (.slice a3 (dV R rows').length c3') u1 u2 (dV R rows') (eF R rows') a2 d2 rfl rfl HR3.o HR23.o (by have:=(sS R rows').1;have:=HBS.o.len;omega) (by have:=(sS R rows').2;have:=HBS.o.len;omega) HB23.o.size ?_;intro v4 w4 r1 r2;have HR4:=ae r1;have HB24:=ae (eS HR3.o.own HB23.o r2 (Ou _));clear r1 r2);go_ret;have hb2:Io w w2:=In HB1.o HB12.o;exact⟨_,_,rows,rows',rfl,HR4.o.low hb2.size,In hb2 HB24.o,HBS.o⟩
variable{f:PB}
theorem LO{k:Int}{g:PB}(h:f.Perm g):ao k f=ao k g:=by
 induction h with
 |nil=>rfl
 |cons x _ ih=>simp only[ao];rw[ih]
 |swap x y l=>simp only[ao];omega
 |trans _ _ i1 i2=>rw[i1,i2]
variable{R:Nat}
theorem CS{p o:Int}{N:Nat}{lss:PA}(h:gD p o N R lss){rows rows2:PC}(h1:iQ (am 1 N N 0) (am 1 N N 1) (am 1 N N 2) (dE R lss.length) R lss rows)(h2:iQ (am 1 N N 0) (am 1 N N 1) (am 1 N N 2) (dE R lss.length) R lss rows2):rows=rows2:=by
 have l1:=h1.len;have l2:=h2.len;apply List.ext_getElem
 .omega
 .intro j a b;have hj:j<lss.length:=by omega
  obtain⟨f1,e1,p1,k1⟩:=h1.at_ j hj;obtain⟨f2,e2,p2,k2⟩:=h2.at_ j hj;have hmem:lss.getD j []∈lss:=by rw[OH,OI hj];exact OE hj
  rw[oB R (Ou _)] at p1 p2;have v1:=(pY (n:=lss.length) (F:=0) (show (3:Int)<=9700 by omega) h.hx.acx (h.vok _ hmem) p1 k1).1;have v2:=(pY (n:=lss.length) (F:=0) (show (3:Int)<=9700 by omega) h.hx.acx (h.vok _ hmem) p2 k2).1;have e:f1=f2:=wV h.hx.acx (by omega) (by omega) v2 v1 λk=>⟨0,by rw[LO (p1.trans p2.symm)];omega⟩;rw[OH,OI a] at e1;rw[OH,OI b] at e2;have e1':rows[j]=_:=e1;have e2':rows2[j]=_:=e2;rw[e1',e2',e]
def gW(R:Nat)(l:PC):PC:=(l.filter λf=>lM R f)++l.filter λf=>!lM R f
theorem LP(R:Nat)(l:PC):dV R l++eF R l=(gW R l).map (cZ R):=by unfold gW dV eF;rw[O0]
theorem xg:f∈gW R l↔f∈l:=by unfold gW;rw[OK,O5,O5];cases lM R f<;>simp
theorem xh(R:Nat):∀l:PC,(gW R l).length=l.length
 |[]=>rfl
 |f::l=>by have ih:=xh R l;unfold gW at ih⊢;rw[OM] at ih⊢;cases h:lM R f<;>simp[h]<;>omega
theorem LQ(p o:Int)(N R ob:Nat)(sv lv:PK)(lss:PA)(w:PJ)(hc:gD p o N R lss)(hl:fQ w lv lss)(hob:aQ w ob p (am 1 N N 0) (am 1 N N 1) (am 1 N N 2) sv)(hsl:Sl w sv (dE R lss.length)):Calls prog 42 #[PL ob,aI p N 1 1,PO R,lv] w λe w'=>∃v us rows rows',e=.returned v/\aM w.heap.size w' v us (gW R rows')/\Io w w'/\p7 p N R lss rows rows':=by
 have hx:=hc.hx;have hp:=dY hx.pr;have hR3:=hx.hw;have hn4:=hx.hn;obtain⟨w1,hw1⟩:∃w1,w1=w.alloc (.cells #[PO p,PO N,PO 1,PO 1] 23):=⟨_,rfl⟩;have HB1:Po (Io w w1):=by rw[hw1];exact ai
 have K4:Po (w1.cell? (PN w.heap.size 0)=some (PO p)/\w1.cell? (PN w.heap.size 1)=some (PO N)/\w1.cell? (PN w.heap.size 2)=some (PO 1)/\w1.cell? (PN w.heap.size 3)=some (PO 1)):=by show _/\_;rw[hw1];simp[go_sem]
 have HC:=ae hc;have HTR:Po (Calls prog 80 #[PL ob,lv,PO 0,PO R] w1 λe w'=>∃a c us rows,e=.returned (.slice a lss.length c)/\aM w1.heap.size w' (.slice a lss.length c) us rows/\iQ (am 1 N N 0) (am 1 N N 1) (am 1 N N 2) (dE R lss.length) R lss rows/\Io w1 w'):=by
  refine(CO ob R N p _ _ _ sv lv (dE R lss.length) lss w1 (hob.below HB1.o) (hsl.below HB1.o) (wY hR3 hn4) (dZ 1 N 0) (dZ 1 N 1) (dZ 1 N 2) HC.o.hx.n0 HC.o.hx.n3 HC.o.r0 hR3 hn4 (wX R lss.length) HC.o.len (λg hg f hf=>⟨(HC.o.tms g hg f hf).1,λt ht=>?_⟩) (hl.below HB1.o)).mono ?_
  .have h:=(HC.o.tms g hg f hf).2 t ht;exact⟨h.1,λx hx=>by have:=h.2.1 x hx;omega,h.2.2⟩
  .rintro e w' ⟨v,us,rows,rfl,⟨a,c,rfl⟩,q1,q2,q3,q4⟩;exact⟨a,c,us,rows,rfl,q1,q2,q3⟩
 have HUN:=ae (fun(W:PJ)=>Lk p 1 1 N lss.length W hp (Pf rfl) (Pf rfl) hx.n3 (by omega));have HWA:Po (∀W gv gus,Io w W->aM 0 W gv gus (iu 1 lss.length)->Calls prog 81 #[aI p N 1 1,PO R,lv,gv] W λe w'=>∃v us rows rows',e=.returned v/\aM W.heap.size w' v us (dV R rows'++eF R rows')/\Io W w'/\p7 p N R lss rows rows'):=λW gv gus hb h=>LN p o N R lv gv lss gus W HC.o (hl.below hb) h;have HOB:Po (∀W,Io w W->aQ W ob p (am 1 N N 0) (am 1 N N 1) (am 1 N N 2) sv):=λW hb=>hob.below hb;have HHX:=ae hx;obtain⟨i1,hi,hz0,hz1,hz2⟩:=info_parts Tryz.infoFvL;have HIV:=ae (Ow hi (Ow hz0 (Ow hz1 hz2)));obtain⟨la,lc,rfl,_⟩:=hl.wl;unfold aI at HUN HWA⊢;clear hob hsl hl hc hx hi hz0 hz1 hz2;go_enter func42,ntmps42;go_upto_region 1 with fail;rw[<-hw1];clear hw1;go_upto_region 3 with (go_at_call 80;refine HTR.o.mono ?_;rintro e w2 ⟨ra,rc,rus,rows,rfl,q1,q2,q3⟩;have HR2:=ae q1;have HTA:=ae q2;have HB12:=ae q3;have HB2:=ae (In HB1.o q3);clear q1 q2 q3);have KEEP:Po (∀W,Io w2 W->(W.cell? (PN w.heap.size 0)=some (PO p)/\W.cell? (PN w.heap.size 1)=some (PO N)/\W.cell? (PN w.heap.size 2)=some (PO 1)/\W.cell? (PN w.heap.size 3)=some (PO 1))):=λW hb=>by obtain⟨f0,f1,f2,f3⟩:=K4.o;have h:=In HB12.o hb;exact⟨af f0 h,af f1 h,af f2 h,af f3 h⟩
 have HU2:Po (∀W,Io w2 W->Calls prog 82 #[.agg #[PO p,PO N,PO 1,PO 1],PO lss.length] W λe w'=>∃a c us,e=.returned (.slice a lss.length c)/\aM 0 w' (.slice a lss.length c) us (iu 1 lss.length)/\Io w2 w'):=λW hb=>by refine(HUN.o W).mono ?_;rintro e w' ⟨uv,us,rfl,q1,q2,q3⟩;obtain⟨a,c,e⟩:=cl q1.own;rw[lL] at e;subst e;exact⟨a,c,us,rfl,q1.low (OB _),In hb q2⟩
 have HB0:Po (Io w2 w2.drew):=(Ov _ _).drew;go_region_held (λW=>W.cell? (PN w.heap.size 0)=some (PO p)/\W.cell? (PN w.heap.size 1)=some (PO N)/\W.cell? (PN w.heap.size 2)=some (PO 1)/\W.cell? (PN w.heap.size 3)=some (PO 1))
  (first|with_reducible exact KEEP.o _ HB0.o|with_reducible exact KEEP.o _ HB3.o|with_reducible exact KEEP.o _ HB4.o)
  (first|(go_at_call 82;refine(HU2.o _ HB0.o).mono ?_;rintro e w3 ⟨ga,gc,gus,rfl,q1,q3⟩;have HB3:=ae q3;have HWA3:=ae (HWA.o w3 _ gus (In HB2.o q3) q1);clear q1 q3)|(go_at_call 81;refine HWA3.o.mono ?_;rintro e w4 ⟨v4,us4,rowsB,rows',rfl,q1,q2,q3⟩;rw[LP] at q1;obtain⟨a4,c4,hv4⟩:=cl q1.own;rw[OS] at hv4;subst hv4;have HR4:=ae q1;have HB4:=ae (In HB3.o q2);have HBS:=ae q3;clear q1 q2 q3))
 all_goals
  have HB04:Po (Io w w4):=In HB2.o HB4.o;have HEQ:Po (rowsB=rows):=CS HC.o HBS.o.tr HTA.o;have heq:=HEQ.o;subst heq;have HRT:=ae (wZ HC.o HTA.o);have HOK:Po (∀f∈gW R rows',∃L r,f=L::r/\dX p N R lss.length L r/\bp p (rowsB.map aK) λφ=>aq φ (L::r)):=λf hf=>HBS.o.ok f (xg.1 hf);have HPL:Po ((gW R rows').length<=2100000):=by have:=HBS.o.len;have:=xh R rows';show _<=_;omega
  generalize hpt:gW R rows'=pt at HR4 HOK HPL⊢;have HPT:=ae hpt;clear hpt;go_wp2_with fail;go_loopw [10,26] (λs10 s26 wr=>∃(m:Nat)(us:PH),m<=pt.length/\s26=PO m/\(∃a c,s10=.slice a m c)/\aM w4.heap.size wr s10 us (pt.take m)/\Io w4 wr) (λ_ s26 _=>pt.length-(intOf s26).toNat);case atStart=>exact⟨0,[],OB _,rfl,⟨none,0,rfl⟩,aM.nil _ _,Ov _ _⟩
  case round=>
   rename PJ=>wr;obtain⟨m,us,hm,rfl,⟨sa,sc,rfl⟩,hrw,hbr⟩:=hrel;have HRW:=ae hrw;have HBR:=ae hbr;clear hrw hbr;by_cases hm2:m<pt.length
   .have hmI:(m:Int)<(pt.length:Int):=by omega
    have hpl:=HPL.o;obtain⟨gb,gcc,hgs,_,_,hgc,_⟩:=HR4.o.at m (by rw[OS];exact hm2);rw[OS] at hgs;simp only[OQ,true_and] at hgs;obtain⟨rfl,rfl⟩:=hgs;have hfu:=HR4.o.fvs m (by rw[OS];exact hm2);rw[ww (cZ R) pt m hm2] at hfu;have HTK:Po (pt.take (m+1)=pt.take m++[pt.getD m []]):=sI pt m hm2;have HTL:Po ((pt.take m).length=m):=by show _=_;rw[O7];omega
    obtain⟨L,r,hLr,hmb,haf⟩:=HOK.o (pt.getD m []) (by rw[OH,OI hm2];exact OE hm2);rw[hLr] at hfu HTK;generalize us4.getD m aL=uu at hfu hgc;have hgc:=af hgc HBR.o;have hro:=sO hmb;have hv:=hmb.vc.wide hro.1 hro.2.1;have HBW:Po (Io w wr):=In HB04.o HBR.o;have HRS:Po (nR wr (.slice ra lss.length rc) rowsB):=(HR2.o.next (In HB4.o HBR.o)).rws;have HCB:=ae (CI p N R lss.length HHX.o.acx ob sv uu (.slice ra lss.length rc) (cZ R (L::r)) rowsB wr (HOB.o wr HBW.o) (hfu.below HBR.o) HRS.o HRT.o.row HRT.o.len HRT.o.un 9602 (Int.le_refl _) (Lg HHX.o.acx (by omega) (by omega) hv) (by have h1:=CU R (L::r);have h2:=jR HHX.o.acx (E:=4801) (F:=9602) (by omega) (by omega) _ hv.dn hv.gd;omega) (L::r) (hv.wide (by omega) (by omega)) haf (λj y=>⟨0,by rw[CF λt ht=>(hv.gd t ht).pl0];omega⟩));obtain⟨ua,uc,rfl,_⟩:=hfu;generalize hfl:(L::r)=f at HCB HTK hgc;clear hfl hmb haf hro hv hLr;go_wp2_with (first|(go_at_call 83;refine HCB.o.mono ?_;rintro e w5 ⟨u5,rfl,q1,q2⟩;obtain⟨xa,xc,hx5⟩:=cE q1;have HF5:=ae (xf q1 hx5);have HR5:=ae ((HRW.o.next q2).next (ai (A:=.cells #[.slice xa f.length xc] 79)));have HB5:=ae ((In HBR.o q2).alloc (In HBR.o q2).size (.cells #[.slice xa f.length xc] 79));subst hx5;clear q1 q2)|(at_builtin;refine pU rfl (.tmp 30) (.tmp 35) 76 rfl w4.heap.size 79 i1 underlying76 HIV.o.1 HIV.o.2.1 HIV.o.2.2.1 HIV.o.2.2.2 _ m us rfl (by have h:=HR5.o.own;rw[HTL.o] at h;exact h) HR5.o.kind (PN w5.heap.size 0) 1 (.slice xa f.length xc) ⟨_,_,_,rfl⟩ rfl (by simp[go_sem]) (by omega) HB5.o.size ?_;intro v6 w6 r1 r2 r3;obtain⟨va6,vc6,hv6⟩:=cE r1;have HR6:=ae (HR5.o.add (HF5.o.below ai) (by rw[HTL.o];exact r1) r2 r3);have HB6:=ae (eS HR5.o.own HB5.o r2 (Ou _));subst hv6;clear r1 r2 r3));go_roundw;case rel=>exact⟨m+1,_,by omega,by go_num,⟨va6,vc6,rfl⟩,by rw[HTK.o];exact HR6.o,HB6.o⟩
    case measure=>simp[intOf];omega
   .have e:m=pt.length:=by omega
    subst e;go_wp2;go_ret;have h1:=HRW.o;rw[OO (Ou _)] at h1;exact⟨_,us,rowsB,rows',rfl,by rw[HPT.o];exact h1.low HB04.o.size,In HB04.o HBR.o,HBS.o⟩
end Go.Proofs.YtjkalahhpobefaaGreat
namespace Go.Proofs.YtjkalahhpobefaaGreat
set_option linter.all false
open Go.Proofs.Tryz Go.RowKit
variable{f:PB}
theorem td(φ:C4.Tt->Int){g:PB}(h:f.Perm g):aq φ f=aq φ g:=by
 induction h with
 |nil=>rfl
 |cons x _ ih=>rw[cV,cV,ih]
 |swap x y l=>rw[cV,cV,cV,cV];omega
 |trans _ _ i1 i2=>rw[i1,i2]
theorem kL{t:C4.Tt}(h:∀u∈f,ah u≠t):aq (Gb.dl t) f=0:=by refine Gb.jl λx hx=>?_;obtain⟨u,hu,rfl⟩:=OR.1 hx;unfold Gb.dl;exact OV (h u hu)
def f9(p:Int)(N R:Nat)(rows:PC)(g:Lt):Prop:=∃Y:Gb.Fn C4.Tt,bp p (rows.map aK) Y/\∀t:C4.Tt,t.2.2.2.2=0->t.1<R->p∣Y (Gb.dl t)-aq (Gb.dl t) (dG 1 1 N g R)
abbrev jG(N R:Nat)(lss:PA)(rows:PC):Prop:=iQ (am 1 N N 0) (am 1 N N 1) (am 1 N N 2) (dE R lss.length) R lss rows
def lO(p:Int)(N R:Nat)(lss:PA)(g:Lt):Prop:=∃rows,jG N R lss rows/\f9 p N R rows g
variable{g:Lt}{rows:PC}{lss:PA}{N R:Nat}{p o:Int}
theorem oD(h:gD p o N R lss)(ht:jG N R lss rows):lO p N R lss g↔f9 p N R rows g:=by refine⟨fun⟨rows2,h2,h3⟩=>?_,λh3=>⟨rows,ht,h3⟩⟩;rw[CS h ht h2];exact h3
variable{s:C4.Tt}{w:Nat}
theorem Do{t:C4.Tt}(h:gr w s t)(ht:¬t.1<w):¬s.1<w:=λhs=>by unfold gr C4.L6 rQ at h;simp only at h;rw[OW hs,OV ht] at h;rcases h with h|⟨_,h|⟨h,_⟩⟩<;>omega
theorem th(h:gr w s s):False:=by unfold gr C4.L6 at h;omega
theorem Mz{r t:C4.Tt}(h:gr w r s)(k:gr w s t):gr w r t:=by unfold gr C4.L6 at*;omega
variable{t:Ft}
theorem ti(h:0<=t.pl):(ah t).1<w↔t.pl<w:=by show t.pl.toNat<w↔_;omega
variable{acc fs:PB}{K E F:Int}{rs:PC}{n:Nat}
theorem MA(hx:ch p N R n)(hp:fs.Perm (dG 1 1 N g R))(hE:E<=9700)(hF:F<=9700){rows2:PC}(h:LA p (rs.map aK) N R n E F (λφ=>aq φ fs) K acc none rows)(hn:Nx p rows none rows2)(ha:∀t∈acc,¬t.pl<R):f9 p N R rs g:=by refine⟨_,(ph hx hE hF h hn).2 rfl,λs hz hs=>⟨0,?_⟩⟩;have e:aq (Gb.dl s) acc=0:=kL λu hu e=>ha u hu ((ti (h.av.gd u hu).pl0).1 (by rw[e];exact hs));show aq (Gb.dl s) fs-aq (Gb.dl s) acc-aq (Gb.dl s) (dG 1 1 N g R)=p*0;rw[e,td _ hp];omega
theorem MB(hx:ch p N R n)(hp:fs.Perm (dG 1 1 N g R))(hE:E<=9700)(hF:F<=9700)(h:LA p (rs.map aK) N R n E F (λφ=>aq φ fs) K [] (some t) rows)(ht:¬t.pl<R):f9 p N R rs g:=by
 obtain⟨g1,c0,c1,_,hlt⟩:=h.tr t rfl;refine⟨_,h.made,λs hz hs=>⟨0,?_⟩⟩;have ht2:¬(ah t).1<R:=λh=>ht ((ti g1.pl0).1 h);have e1:Gb.dl s (ah t)=0:=OV λe=>ht2 (by rw[e];exact hs);have e2:aq (Gb.dl s) rows.flatten=0:=kL λu hu e=>by obtain⟨f,hf,hu⟩:=List.mem_flatten.1 hu;exact Do (vV hx hE hF hE hF (h.ok.gd f hf u hu).1 g1 (hlt f hf u hu)) ht2 (by rw[e];exact hs)
 simp only[fp,fl];rw[e1,e2,td _ hp,Int.mul_zero];omega
theorem MC{L:Ft}(h:C4.bR.dv (ah L) (ah t))(h1:0<=L.pl/\0<=t.pl)(ha:0<=t.a)(hb:0<=t.b)(hd:0<=t.d)(hz:L.z=0/\t.z=0):cA L t=true:=by obtain⟨e1,e2⟩:=h;have e1:L.pl.toNat=t.pl.toNat:=e1;unfold C4.cj ah at e2;simp only at e2;unfold cA eN;simp only[Bool.and_eq_true,decide_eq_true_eq];omega
variable{ms:PD}
theorem Dp(hx:ch p N R n)(hp:fs.Perm (dG 1 1 N g R))(hE:E<=9700)(hF:F<=9700)(h:LA p (rs.map aK) N R n E F (λφ=>aq φ fs) K acc (some t) rows)(ha:∀t∈acc,¬t.pl<R)(ht:t.pl<R)(hms:jQ p (rs.map aK) N R n ms)(hgo:∀x∈ms,x.gone=false)(htop:mK p R (rs.map aK) (ms.map jf))(hf:eP ms t=none):¬f9 p N R rs g:=fun⟨Y,hY,hc⟩=>by
 obtain⟨g1,c0,c1,_,hlt⟩:=h.tr t rfl;have ht2:(ah t).1<R:=(ti g1.pl0).2 ht;have hz:(ah t).2.2.2.2=0:=by show t.z.toNat=0;rw[g1.z];rfl
 have hac:∀s:C4.Tt,s.1<R->aq (Gb.dl s) acc=0:=λs hs=>kL λu hu e=>ha u hu ((ti (h.av.gd u hu).pl0).1 (by rw[e];exact hs));have hZ:=hY.add (h.made.scl (-1));have hrow:∀s:C4.Tt,(s=ah t\/gr R (ah t) s)->aq (Gb.dl s) rows.flatten=0:=λs hs=>kL λu hu e=>by
  obtain⟨f,hf,hu⟩:=List.mem_flatten.1 hu;have hl:=vV hx hE hF hE hF (h.ok.gd f hf u hu).1 g1 (hlt f hf u hu);rw[e] at hl;rcases hs with rfl|hs
  .exact th hl
  .exact th (Mz hl hs)
 have hcf:∀s:C4.Tt,s.2.2.2.2=0->s.1<R->(s=ah t\/gr R (ah t) s)->p∣(Y (Gb.dl s)+-1*(aq (Gb.dl s) fs-(aq (Gb.dl s) acc+fp (Gb.dl s) (some t)+aq (Gb.dl s) rows.flatten)))-t.c*Gb.dl s (ah t):=λs h1 h2 h3=>by obtain⟨z,e⟩:=hc s h1 h2;refine⟨z,?_⟩;rw[hrow s h3,hac s h2,<-e,td _ hp];simp only[fp];omega
 obtain⟨L,r,hL,hdv⟩:=htop _ hZ (ah t) hz ht2 (λhd=>by
  have h9:=hcf (ah t) hz ht2 (Pf rfl);have e:Gb.dl (ah t) (ah t)=1:=OW rfl;rw[e,Int.mul_one] at h9;have h8:=Int.dvd_sub hd h9;have e2:(Y (Gb.dl (ah t))+-1*(aq (Gb.dl (ah t)) fs-(aq (Gb.dl (ah t)) acc+fp (Gb.dl (ah t)) (some t)+aq (Gb.dl (ah t)) rows.flatten)))-((Y (Gb.dl (ah t))+-1*(aq (Gb.dl (ah t)) fs-(aq (Gb.dl (ah t)) acc+fp (Gb.dl (ah t)) (some t)+aq (Gb.dl (ah t)) rows.flatten)))-t.c)=t.c:=by omega
  rw[e2] at h8;have:=Int.le_of_dvd c0 h8;omega) λu h1 h2 h3=>by
  have h9:=hcf u h1 h2 (Pg h3);have e:Gb.dl u (ah t)=0:=OV λe=>by rw[e] at h3;exact th h3
  rw[e,Int.mul_zero,Int.sub_zero] at h9;exact h9
 obtain⟨x,hxm,e⟩:=OR.1 hL;unfold jf at e;simp only[List.cons.injEq] at e;obtain⟨rfl,rfl⟩:=e;have gL:=(hms x hxm).1.vc.gd x.L (by simp);have hin:=MC hdv ⟨gL.pl0,g1.pl0⟩ g1.a g1.b g1.d ⟨gL.z,g1.z⟩;have hpl:x.L.pl=t.pl:=by unfold cA at hin;simp only[Bool.and_eq_true,decide_eq_true_eq] at hin;exact hin.1
 unfold eP at hf;rw[List.find?_eq_none] at hf;have h0:=g1.pl0;refine hf x (O5.2 ⟨hxm,by simp only[decide_eq_true_eq];omega⟩) ?_;unfold eQ;rw[hgo x hxm,hin];rfl
theorem MD{ra:List (List (Int×C4.Tt))}(hx:ch p N w n)(hms:jQ p ra N w n ms)(hR:kW E F){X:Gb.Fn C4.Tt}(cn:Ft->Bool):mj p (am 1 N N 0) (am 1 N N 1) (am 1 N N 2) (bk N w n E F) ms (λrows acc=>LA p ra N w n E F X K acc none rows/\∀t∈acc,cn t=true) (λt rows acc=>LA p ra N w n E F X K acc (some t) rows/\∀t∈acc,cn t=true) (λ_ t=>cn t) where
 next:=λrows acc t rows2 _ hJ hn=>⟨(ph hx (by have:=hR.1;omega) (by have:=hR.2.1;omega) hJ.1 hn).1,hJ.2⟩
 left:=λt rows acc _ _ _ _ _ hI hf hc=>⟨zO hI.1,λu hu=>by
  rcases OK.1 hu with hu|hu
  .exact hI.2 u hu
  .rw[OL] at hu;rw[hu];exact hc⟩
 take:=λt rows acc x bt rows' g c0 c1 hlt hr hI hf hby hr2 hcnt=>by have hxm:x∈ms:=(O5.1 (List.mem_of_find?_eq_some hf)).1;have hgo:=List.find?_some hf;unfold eQ at hgo;simp only[Bool.and_eq_true] at hgo;obtain⟨hm,hmm⟩:=hms x hxm;have hb:=uB g (hm.vc.gd x.L (by simp)) hgo.2 hby.a hby.b hby.d hby.z;have hs:=uC hx hR (more:=bC 1 (aD N bt)) (c:=bt.c) g hm hb ⟨hby.c0,hby.c1⟩ rfl;refine⟨zP hx (by have:=hR.1;omega) (by have:=hR.2.1;omega) (c:=bt.c) hI.1 hm hmm hb hby.cc hr2 hs λk=>?_,hI.2⟩;have:=hcnt k;rw[kX hx.n0 hx.n3] at this;exact this
def tE(i:Nat)(e:PI):C4.Tt:=(i,(e.getD 0 0).toNat,(e.getD 1 0).toNat,(e.getD 2 0).toNat,0)
def mE(e:PI):C4.Mt:=((e.getD 0 0).toNat,(e.getD 1 0).toNat,(e.getD 2 0).toNat,0)
variable{a:PI}
theorem oE(h:∀x∈a,0<=x)(k:Nat):0<=a.getD k 0:=by
 by_cases hk:k<a.length
 .rw[OH,OI hk];exact h _ (OE hk)
 .rw[OH,OJ (by omega)];exact Int.le_refl _
variable{b:PI}
theorem xw(h:a.length=b.length)(k:Nat):(aP (·+·) a b).getD k 0=a.getD k 0+b.getD k 0:=by
 by_cases hk:k<a.length
 .exact Am _ a b h k hk
 .rw[OH,OH,OH,OJ (by rw[kC _ _ _ h];omega),OJ (by omega),OJ (by omega)];rfl
theorem MG{i:Nat}(hl:a.length=b.length)(ha:∀x∈a,0<=x)(hb:∀x∈b,0<=x):tE i (aP (·+·) a b)=C4.aw (mE a) (tE i b):=by have a0:=oE ha 0;have a1:=oE ha 1;have a2:=oE ha 2;have b0:=oE hb 0;have b1:=oE hb 1;have b2:=oE hb 2;obtain⟨x0,e0⟩:=Int.eq_ofNat_of_zero_le a0;obtain⟨x1,e1⟩:=Int.eq_ofNat_of_zero_le a1;obtain⟨x2,e2⟩:=Int.eq_ofNat_of_zero_le a2;obtain⟨y0,f0⟩:=Int.eq_ofNat_of_zero_le b0;obtain⟨y1,f1⟩:=Int.eq_ofNat_of_zero_le b1;obtain⟨y2,f2⟩:=Int.eq_ofNat_of_zero_le b2;unfold tE mE C4.aw C4.bH;rw[xw hl,xw hl,xw hl,e0,e1,e2,f0,f1,f2];simp only[Prod.mk.injEq,true_and,<-Int.natCast_add,Int.toNat_natCast,and_true]
def cK(φ:C4.Tt->Int)(g:Lt):Nat->Int
 |0=>0
 |i+1=>cK φ g i+az (λe=>φ (tE i e)) (g.getD i [])
theorem Du(N i:Nat)(φ:C4.Tt->Int):∀f:LT,aq φ (f.map (dW 1 1 N i))=az (λe=>φ (tE i e)) f
 |[]=>rfl
 |t::f=>by
  rw[List.map_cons,cV,Du N i φ f];have e:ah (dW 1 1 N i t)=tE i t.2:=by show (((i:Int)).toNat,_,_,_,_)=_;rw[Int.toNat_natCast];rfl
  rw[e];rfl
theorem xy(N:Nat)(φ:C4.Tt->Int)(g:Lt):∀m,aq φ (dG 1 1 N g m)=cK φ g m
 |0=>rfl
 |m+1=>by simp only[dG,cK];rw[ku,xy N φ g m,Du]
theorem xA{p o:Int}{v w:Lt}(hl:v.length=w.length)(φ:C4.Tt->Int):∀m,m<=v.length->p∣cK φ (eh p o v w) m-(cK φ v m+cK φ w m)
 |0,_=>⟨0,by simp[cK]⟩
 |m+1,hm=>by obtain⟨a,ha⟩:=xA (p:=p) (o:=o) hl φ m (by omega);obtain⟨b,hb⟩:=BO (p:=p) (o:=o) (φ:=λe=>φ (tE m e)) hl (show m<v.length by omega);refine⟨a+b,?_⟩;simp only[cK];rw[Int.mul_add];omega
theorem xB:f9 p N R rows g↔∃Y:Gb.Fn C4.Tt,bp p (rows.map aK) Y/\∀t:C4.Tt,t.2.2.2.2=0->t.1<R->p∣Y (Gb.dl t)-cK (Gb.dl t) g R:=by unfold f9;simp only[xy]
variable{v:Lt}
theorem MH{w:Lt}(hv:v.length=R)(hw:w.length=R)(h:f9 p N R rows v)(k:f9 p N R rows w):f9 p N R rows (eh p o v w):=by rw[xB] at*;obtain⟨Y,hY,h1⟩:=h;obtain⟨Z,hZ,h2⟩:=k;refine⟨_,hY.add hZ,λt ht hR=>?_⟩;obtain⟨a,ha⟩:=h1 t ht hR;obtain⟨b,hb⟩:=h2 t ht hR;obtain⟨c,hc⟩:=xA (p:=p) (o:=o) (v:=v) (w:=w) (by omega) (Gb.dl t) R (by omega);refine⟨a+b-c,?_⟩;rw[Int.mul_sub,Int.mul_add];omega
theorem MI{w:Lt}(hv:v.length=R)(hw:w.length=R)(h:f9 p N R rows v)(k:f9 p N R rows (eh p o v w)):f9 p N R rows w:=by rw[xB] at*;obtain⟨Y,hY,h1⟩:=h;obtain⟨Z,hZ,h2⟩:=k;refine⟨_,hZ.add (hY.scl (-1)),λt ht hR=>?_⟩;obtain⟨a,ha⟩:=h1 t ht hR;obtain⟨b,hb⟩:=h2 t ht hR;obtain⟨c,hc⟩:=xA (p:=p) (o:=o) (v:=v) (w:=w) (by omega) (Gb.dl t) R (by omega);refine⟨b-a+c,?_⟩;rw[Int.mul_add,Int.mul_sub];omega
def qa(φ:C4.Tt->Int)(row:PB)(q:LT):Int:=az (λa=>aq (λs=>φ (C4.aw (mE a) s)) row) q
theorem Dw{p:Int}{ra:List (List (Int×C4.Tt))}{row:PB}(h:bp p ra λφ=>aq φ row):∀q:LT,bp p ra λφ=>qa φ row q
 |[]=>bp.zero λφ=>⟨0,by simp[qa,az]⟩
 |b::q=>((h.shift (m:=mE b.2) rfl).scl b.1).add (Dw h q)
def Dz(R:Nat)(φ:C4.Tt->Int):Prop:=∀s:C4.Tt,¬s.1<R->φ s=0
theorem MJ(hc:gD p o N R lss)(ht:jG N R lss rows){m:Nat}(hm:m<lss.length){φ:C4.Tt->Int}(hφ:Dz R φ)(q:LT):qa φ (rows.getD m []) q=az (λa=>cK (λs=>φ (C4.aw (mE a) s)) (lss.getD m []) R) q:=by
 obtain⟨fs,e,hp,_⟩:=ht.at_ m hm;rw[oB R (Ou _)] at hp;unfold qa;refine ps λb _=>?_;rw[e,ku,td _ hp,xy,cV,fl];have e2:φ (C4.aw (mE b.2) (ah (dI ((dE R lss.length).getD (R+m) 0) ((R+m:Nat):Int))))=0:=hφ _ (by
  show¬(((R+m:Nat):Int)).toNat<R;omega)
 rw[e2];omega
theorem DA{p:Int}{N:Nat}{g:Lt}{q:LT}(hg:∀i,∀t∈g.getD i [],t.2.length=N/\∀x∈t.2,0<=x)(hq:∀b∈q,b.2.length=N/\∀x∈b.2,0<=x)(φ:C4.Tt->Int):∀k,p∣az (λa=>cK (λs=>φ (C4.aw (mE a) s)) g k) q-cK φ ((List.range k).map λi=>aH p q (g.getD i [])) k
 |0=>⟨0,by simp only[cK];rw[AB];omega⟩
 |k+1=>by
  obtain⟨a,ha⟩:=DA (p:=p) hg hq φ k;obtain⟨b,hb⟩:=nG p (λe=>φ (tE k e)) (g.getD k []) q;have e1:az (λa=>az (λb=>φ (tE k (aP (·+·) a b))) (g.getD k [])) q=az (λa=>az (λe=>φ (C4.aw (mE a) (tE k e))) (g.getD k [])) q:=by refine ps λx hx=>ps λt ht=>?_;rw[MG (by rw[(hq x hx).1,(hg k t ht).1]) (hq x hx).2 (hg k t ht).2]
  rw[e1] at hb;have e2:cK φ ((List.range (k+1)).map λi=>aH p q (g.getD i [])) (k+1)=cK φ ((List.range k).map λi=>aH p q (g.getD i [])) k+az (λe=>φ (tE k e)) (aH p q (g.getD k [])):=by
   simp only[cK];have e3:((List.range (k+1)).map λi=>aH p q (g.getD i [])).getD k []=aH p q (g.getD k []):=by rw[OH];simp
   have e4:∀j,j<=k->cK φ ((List.range (k+1)).map λi=>aH p q (g.getD i [])) j=cK φ ((List.range k).map λi=>aH p q (g.getD i [])) j:=λj=>by
    induction j with
    |zero=>intro _;rfl
    |succ j ih=>
     intro hj;simp only[cK];rw[ih (by omega)];have f1:((List.range (k+1)).map λi=>aH p q (g.getD i [])).getD j []=aH p q (g.getD j []):=by rw[OH,List.getElem?_map,List.getElem?_range (by omega)];rfl
     have f2:((List.range k).map λi=>aH p q (g.getD i [])).getD j []=aH p q (g.getD j []):=by rw[OH,List.getElem?_map,List.getElem?_range (by omega)];rfl
     rw[f1,f2]
   rw[e3,e4 k (Ou _)]
  rw[e2];have e5:az (λa=>cK (λs=>φ (C4.aw (mE a) s)) g (k+1)) q=az (λa=>cK (λs=>φ (C4.aw (mE a) s)) g k) q+az (λa=>az (λe=>φ (C4.aw (mE a) (tE k e))) (g.getD k [])) q:=by simp only[cK];rw[AC]
  rw[e5];refine⟨a-b,?_⟩;rw[Int.mul_sub];omega
def oF(φ:C4.Tt->Int)(rows:PC)(cs:Lt):Nat->Int
 |0=>0
 |m+1=>oF φ rows cs m+qa φ (rows.getD m []) (cs.getD m [])
theorem DB{p:Int}{ra:List (List (Int×C4.Tt))}{rows:PC}{cs:Lt}:∀m,(∀i,i<m->bp p ra λφ=>aq φ (rows.getD i []))->bp p ra λφ=>oF φ rows cs m
 |0,_=>bp.zero λφ=>⟨0,by simp[oF]⟩
 |m+1,h=>(DB m λi hi=>h i (by omega)).add (Dw (h m (by omega)) (cs.getD m []))
theorem DC{p:Int}{lss:PA}{cs:Lt}{φ:C4.Tt->Int}{v:Lt}{m:Nat}:∀k,(∀i,i<k->p∣az (λe=>φ (tE i e)) (v.getD i [])-mk p (λe=>φ (tE i e)) lss cs i (m+1))->∀{u:Lt},(∀i,i<k->p∣az (λe=>φ (tE i e)) (u.getD i [])-mk p (λe=>φ (tE i e)) lss cs i m)->p∣cK φ v k-(cK φ u k+cK φ ((List.range k).map λi=>aH p (cs.getD m []) ((lss.getD m []).getD i [])) k)
 |0,_,_,_=>⟨0,by simp[cK]⟩
 |k+1,h,u,h2=>by
  obtain⟨a,ha⟩:=DC k (λi hi=>h i (by omega)) (u:=u) λi hi=>h2 i (by omega);obtain⟨b,hb⟩:=h k (by omega);obtain⟨c,hc⟩:=h2 k (by omega);simp only[mk] at hb;have e2:cK φ ((List.range (k+1)).map λi=>aH p (cs.getD m []) ((lss.getD m []).getD i [])) (k+1)=cK φ ((List.range k).map λi=>aH p (cs.getD m []) ((lss.getD m []).getD i [])) k+az (λe=>φ (tE k e)) (aH p (cs.getD m []) ((lss.getD m []).getD k [])):=by
   simp only[cK];have e3:((List.range (k+1)).map λi=>aH p (cs.getD m []) ((lss.getD m []).getD i [])).getD k []=aH p (cs.getD m []) ((lss.getD m []).getD k []):=by rw[OH];simp
   have e4:∀j,j<=k->cK φ ((List.range (k+1)).map λi=>aH p (cs.getD m []) ((lss.getD m []).getD i [])) j=cK φ ((List.range k).map λi=>aH p (cs.getD m []) ((lss.getD m []).getD i [])) j:=λj=>by
    induction j with
    |zero=>intro _;rfl
    |succ j ih=>
     intro hj;simp only[cK];rw[ih (by omega)];have f1:((List.range (k+1)).map λi=>aH p (cs.getD m []) ((lss.getD m []).getD i [])).getD j []=aH p (cs.getD m []) ((lss.getD m []).getD j []):=by rw[OH,List.getElem?_map,List.getElem?_range (by omega)];rfl
     have f2:((List.range k).map λi=>aH p (cs.getD m []) ((lss.getD m []).getD i [])).getD j []=aH p (cs.getD m []) ((lss.getD m []).getD j []):=by rw[OH,List.getElem?_map,List.getElem?_range (by omega)];rfl
     rw[f1,f2]
   rw[e3,e4 k (Ou _)]
  rw[e2];simp only[cK];refine⟨a+b-c,?_⟩;rw[Int.mul_sub,Int.mul_add];omega
theorem DD{p o:Int}{N R:Nat}{lss:PA}{rows:PC}(hc:gD p o N R lss)(ht:jG N R lss rows){cs:Lt}(hq:∀m,∀b∈cs.getD m [],b.2.length=N/\∀x∈b.2,0<=x){φ:C4.Tt->Int}(hφ:Dz R φ):∀k,k<=lss.length->p∣oF φ rows cs k-cK φ (cr p o R cs lss k) R
 |0,hk=>by
  have h1:∀j,j<=R->cK φ (cr p o R cs lss 0) j=0:=λj=>by
   induction j with
   |zero=>intro _;rfl
   |succ j ih=>
    intro hj;simp only[cK];rw[ih (by omega)];have e:(cr p o R cs lss 0).getD j []=[]:=by simp only[cr];rw[OH,List.getElem?_replicate_of_lt (by omega)];rfl
    rw[e];rfl
  exact⟨0,by rw[h1 R (Ou _)];simp[oF]⟩
 |k+1,hk=>by
  obtain⟨a,ha⟩:=DD hc ht hq hφ k (by omega);have hm:lss.getD k []∈lss:=by rw[OH,OI (show k<lss.length by omega)];exact OE _
  have hv:=hc.vok _ hm;obtain⟨b,hb⟩:=DA (p:=p) (N:=N) (g:=lss.getD k []) (q:=cs.getD k []) (λi t ht=>⟨(hv.canon i).len t ht,hv.nn i t ht⟩) (hq k) φ R;obtain⟨c,hcc⟩:=DC (p:=p) (lss:=lss) (cs:=cs) (φ:=φ) (v:=cr p o R cs lss (k+1)) (m:=k) R (λi hi=>(wj hc.len (λe=>φ (tE i e)) i hi (k+1) hk).2) (u:=cr p o R cs lss k) λi hi=>(wj hc.len (λe=>φ (tE i e)) i hi k (by omega)).2;simp only[oF];rw[MJ hc ht (by omega) hφ];refine⟨a+b-c,?_⟩;rw[Int.mul_sub,Int.mul_add];omega
theorem xC(hc:gD p o N R lss)(ht:jG N R lss rows){cs:Lt}(hq:∀m,∀b∈cs.getD m [],b.2.length=N/\∀x∈b.2,0<=x):f9 p N R rows (cr p o R cs lss lss.length):=by rw[xB];have hr:=wZ hc ht;refine⟨_,DB (rows:=rows) (cs:=cs) lss.length λi hi=>hr.made hi,λt hz hR=>DD hc ht hq (λs hs=>OV λe=>hs (by rw[e];exact hR)) _ (Ou _)⟩
abbrev l3:PA:=[[[(1,[1,0])]]]
abbrev g3:Lt:=[[(3,[1,1])]]
def Y4:Ft:=⟨-288230307432235009,0,1,0,0,1,4⟩
def R3:List (Int×C4.Tt):=[(1,(0,1,0,0,0)),(1,(1,0,0,0,0))]
theorem MK:dG 1 1 2 [[(1,[1,0])]] 1=[⟨68719476991,1,0,0,0,0,1⟩]:=by rfl
theorem ML:dG 1 1 2 g3 1=[⟨137438953471,1,1,0,0,0,3⟩]:=by rfl
theorem MM:dI ((dE 1 1).getD (1+0) 0) ((1+0:Nat):Int)=⟨-288230376151711489,0,0,0,0,1,1⟩:=by rfl
theorem mt(ht:jG 2 1 l3 rows):rows.map aK=[R3]:=by
 have hl:=ht.len;obtain⟨fs,e,hp,_⟩:=ht.at_ 0 (by simp);rw[oB 1 (Ou _)] at hp;have hp2:fs.Perm (dG 1 1 2 [[(1,[1,0])]] 1):=hp;rw[MK] at hp2;have hfs:=List.perm_singleton.1 hp2;subst hfs;have e2:rows.getD 0 []=[⟨68719476991,1,0,0,0,0,1⟩]++[dI ((dE 1 1).getD (1+0) 0) ((1+0:Nat):Int)]:=e;rw[MM] at e2
 match rows,hl,e2 with
 |[r],_,e2=>have e3:r=[⟨68719476991,1,0,0,0,0,1⟩]++[⟨-288230376151711489,0,0,0,0,1,1⟩]:=e2;rw[e3];rfl
theorem tj(φ:C4.Tt->Int):∀rp:List (Int×C4.Mt×Nat),(∀r∈rp,r.2.2<1)->cP [R3] φ rp=Gb.ln (λx:C4.Mt×Nat=>φ (C4.aw x.1 (0,1,0,0,0))+φ (C4.aw x.1 (1,0,0,0,0))) rp
 |[],_=>rfl
 |r::rp,h=>by
  have h0:=h r (by simp);have e:r.2.2=0:=by omega
  simp only[cP,Gb.ln];rw[tj φ rp λx hx=>h x (by simp[hx]),e];simp only[List.getD_cons_zero,R3,Gb.ln];grind
theorem DE{τ:Type}(f g:τ->Int):∀l:List (Int×τ),(∀x,f x=g x)->Gb.ln f l=Gb.ln g l
 |[],_=>rfl
 |x::l,h=>by simp only[Gb.ln];rw[DE f g l h,h]
theorem DF{Z:Gb.Fn C4.Tt}(h:bp 7 [R3] Z)(a b c d:Nat):(7:Int)∣Z (Gb.dl (1,a,b,c,d))-Z (Gb.dl (0,a+1,b,c,d)):=by
 obtain⟨rp,h1,h2⟩:=h;obtain⟨x,hx⟩:=h2 (Gb.dl (1,a,b,c,d));obtain⟨y,hy⟩:=h2 (Gb.dl (0,a+1,b,c,d));have e:cP [R3] (Gb.dl (1,a,b,c,d)) rp=cP [R3] (Gb.dl (0,a+1,b,c,d)) rp:=by
  have hr:∀r∈rp,r.2.2<1:=λr hr=>by have:=(h1 r hr).2;simpa using this
  rw[tj _ rp hr,tj _ rp hr];refine DE _ _ rp λz=>?_;obtain⟨⟨m1,m2,m3,m4⟩,j⟩:=z;unfold Gb.dl C4.aw C4.bH;simp only[Prod.mk.injEq,true_and];split<;>split<;>split<;>split<;>omega
 rw[e] at hx;exact⟨x-y,by omega⟩
theorem DG:cM 7 2 1 1 3 4804 [Y4]:=by
 refine⟨List.pairwise_singleton _ _,λt ht=>?_,λt ht=>?_⟩
 .rw[OL] at ht;subst ht;simp[Y4]
 .rw[OL] at ht;subst ht;refine⟨by decide+kernel,by simp[Y4],by simp[Y4],by simp[Y4],by simp[Y4],by simp[Y4],by simp[Y4],λh=>by omega,by simp[Y4],λh=>by simp[Y4] at h,λh=>by simp[Y4]⟩
theorem MN(hx:ch 7 2 1 1)(ht:jG 2 1 l3 rows)(hp:fs.Perm (dG 1 1 2 g3 1))(hm:bp 7 (rows.map aK) λφ=>aq φ fs-aq φ acc)(hv:cM 7 2 1 1 3 4804 acc)(ha:∀t∈acc,¬t.pl<1):acc=[Y4]:=by
 rw[ML] at hp;have hfs:=List.perm_singleton.1 hp;subst hfs;rw[mt ht] at hm;have hco:∀t:C4.Tt,(7:Int)∣aq (Gb.dl t) acc-aq (Gb.dl t) [Y4]:=λt=>by
  obtain⟨pl,a,b,c,d⟩:=t;have ey:aq (Gb.dl (pl,a,b,c,d)) [Y4]=4*(if pl=1/\a=0/\b=1/\c=0/\d=0 then 1 else 0):=by
   rw[cV,fl];have e:ah Y4=(1,0,1,0,0):=by decide
   rw[e];unfold Gb.dl;have:((1,0,1,0,0):C4.Tt)=(pl,a,b,c,d)↔(pl=1/\a=0/\b=1/\c=0/\d=0):=by simp only[Prod.mk.injEq];omega
   simp only[this];show 4*_+0=_;omega
  rw[ey];by_cases h0:pl=1
  .subst h0;obtain⟨z,hz⟩:=DF hm a b c d;have e1:aq (Gb.dl (0,a+1,b,c,d)) acc=0:=kL λu hu e=>ha u hu (by
    have h1:u.pl.toNat=0:=congrArg Prod.fst e;have:=(hv.gd u hu).pl0;omega)
   have e2:aq (Gb.dl (1,a,b,c,d)) [⟨137438953471,1,1,0,0,0,3⟩]=0:=kL λu hu e=>by rw[OL] at hu;subst hu;have h1:=congrArg Prod.fst e;simp[ah] at h1
   have e3:aq (Gb.dl (0,a+1,b,c,d)) [⟨137438953471,1,1,0,0,0,3⟩]=3*(if 1=1/\a=0/\b=1/\c=0/\d=0 then 1 else 0):=by
    rw[cV,fl];have e:ah ⟨137438953471,1,1,0,0,0,3⟩=(0,1,1,0,0):=by decide
    rw[e];unfold Gb.dl;have:((0,1,1,0,0):C4.Tt)=(0,a+1,b,c,d)↔(1=1/\a=0/\b=1/\c=0/\d=0):=by
     simp only[Prod.mk.injEq,true_and];constructor
     .rintro ⟨h1,rfl,rfl,rfl⟩;exact⟨by omega,rfl,rfl,rfl⟩
     .rintro ⟨rfl,rfl,rfl,rfl⟩;exact⟨rfl,rfl,rfl,rfl⟩
    simp only[this];show 3*_+0=_;omega
   rw[e1,e2,e3] at hz;refine⟨-z-(if 1=1/\a=0/\b=1/\c=0/\d=0 then 1 else 0),?_⟩;omega
  .rw[OV (λh=>h0 h.1)];have e1:aq (Gb.dl (pl,a,b,c,d)) acc=0:=kL λu hu e=>by have h1:u.pl.toNat=pl:=congrArg Prod.fst e;have g:=hv.gd u hu;have:=g.pl0;have:=g.pl;have:=ha u hu;omega
   rw[e1];exact⟨0,by omega⟩
 refine wV hx (by omega) (by omega) DG hv λk=>?_;rw[pW hv.gd,pW DG.gd];have hz:=wS (p:=7) _ ((aK acc)++(aK [Y4]).map λr=>(-r.1,r.2)) (Ou _) (λt=>by
  rw[pL,pV];obtain⟨z,hz⟩:=hco t;exact⟨z,hz⟩) (jF 2 1 k)
 rw[pL,pV] at hz;obtain⟨z,hz⟩:=hz;exact⟨z,hz⟩
theorem MO(hx:ch 7 2 1 1)(ht:jG 2 1 l3 rows)(hms:jQ 7 (rows.map aK) 2 1 1 ms):∀x∈ms,x.L.pl<1:=λx hx2=>by
 apply O3;intro hn;obtain⟨hm,haf⟩:=hms x hx2;have gL:=hm.vc.gd x.L (by simp);have hbd:=hm.bd;rw[mt ht] at haf;have hpl:(ah x.L).1=1:=by show x.L.pl.toNat=1;have:=gL.pl;have:=gL.pl0;omega
 have hlt:∀u∈x.r,gr 1 (ah u) (ah x.L):=λu hu=>vV hx hbd.1 hbd.2 hbd.1 hbd.2 (hm.vc.gd u (by simp[hu])) gL (hm.vc.dn.head u hu);have hno:¬(ah x.L).1<1:=by omega
 obtain⟨⟨pl,a,b,c,d⟩,hq⟩:∃q,ah x.L=q:=⟨_,rfl⟩;rw[hq] at hpl hlt hno;have hpl:pl=1:=hpl;subst hpl;obtain⟨z,hz⟩:=DF haf a b c d;have e1:aq (Gb.dl (0,a+1,b,c,d)) (x.L::x.r)=0:=kL λu hu e=>by
  rcases OY.1 hu with rfl|hu
  .rw[hq] at e;have:=congrArg Prod.fst e;simp at this
  .have h1:=Do (hlt u hu) hno;rw[e] at h1;exact h1 (Nat.lt_succ_self 0)
 have e2:aq (Gb.dl (1,a,b,c,d)) (x.L::x.r)=x.L.c:=by
  have e3:aq (Gb.dl (1,a,b,c,d)) x.r=0:=kL λu hu e=>by have h1:=hlt u hu;rw[e] at h1;exact th h1
  rw[cV,e3,hq];unfold Gb.dl;rw[OW rfl];omega
 rw[e1,e2] at hz;have:=hm.vc.co x.L (by simp);omega
end Go.Proofs.YtjkalahhpobefaaGreat
