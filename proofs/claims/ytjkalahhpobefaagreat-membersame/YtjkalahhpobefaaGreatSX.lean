/- Rows of vectors, put. -/
import Derived.Test.YtjkalahhpobefaaGreatSU
set_option maxHeartbeats 4000000
set_option maxRecDepth 100000
namespace Go.Proofs.YtjkalahhpobefaaGreat
set_option linter.all false
open Go.Proofs.Tryz Go.RowKit Go.Sort
variable{P:Program}
theorem Lh(w:OQ)(base:Nat)(t ty e:TypeId)(i:TypeInfo)(ht:P.underlying t=some (.slice e))(hi:P.info? e=some i)(hz:i.zero=some (.slice none 0 0))(hsize:i.size=1)(hby:i.bytes=24)(v:OR)(n:Nat)(xs:OO)(hown:w.ownsRow base e 1 v n xs)(hk:∀g,v.ownBlock=some g->cK w g)(a:Addr)(m c:Nat)(news:OO)(hl:news.length=m)(hu:∀u∈news,∃a n c,u=.slice a n c)(hnew:∀j x,news[j]?=some x->w.cell? (a.add j)=some x)(hm0:0<m)(hn:n<=2100000)(hm:m<=2100000)(hbase:base<=w.heap.size):∃v' w',(Builtin.append_ #[t,t] ty #[v,.slice (some a) m c]).run P w=.ok v' w'/\w'.ownsRow base e 1 v' (n+m) (xs++news)/\w.grownBy w' v.ownBlock/\(∀g,v'.ownBlock=some g->cK w' g):=by
 have hone:∀x∈news,x.oneCell'=true:=by intro x hx;obtain⟨_,_,_,e⟩:=hu x hx;rw[e];rfl
 obtain⟨v',w',hr,h2,h3,_⟩:=run_append_own (P:=P) w base t ty e i (.slice none 0 0) 1 24 ht hi hz hsize hby rfl (by decide) v n xs hown a m c news (by omega) hnew hone (by unfold maxLen;omega) (by omega) hbase;refine⟨v',w',hr,h2,h3,?_⟩;have hzero:∀(m:Nat),∀x∈(Builtin.zeroCells (Value.cells (.slice none 0 0)) m).toList,∃a n c,x=.slice a n c:=by intro m x hx;simp[Builtin.zeroCells,Value.cells] at hx;obtain⟨l,_,hx⟩:=hx;rw[Nat.mod_one] at hx;exact⟨none,0,0,by rw[<-hx];rfl⟩
 rcases hown.2 with ⟨rfl,rfl⟩|⟨g,cap,ag,rfl,hbg,hg,hnc,hcm,hcs,htake⟩
 .have hr2:=run_append_nil (P:=P) w t ty e i (.slice none 0 0) ht hi hz a m c news (by rw[hsize];omega) hnew (by omega) (by omega) (by rw[hby];omega);rw[hr] at hr2;simp only[Result.ok.injEq] at hr2;obtain⟨rfl,rfl⟩:=hr2;intro g hg;simp only[Value.ownBlock,N7] at hg;subst hg;refine sk (w:=w.drew) (λx hx=>?_);rw[Array.toList_append,N1] at hx;rcases hx with hx|hx
  .exact hu x (by simpa using hx)
  .exact hzero _ x hx
 .have hcur:=wu hg (hk g rfl);by_cases hroom:n+m<=cap
  .have hr2:=run_append_room (P:=P) w t ty e i ht hi g n cap ag hg a m c news (by rw[hsize];omega) hnew hone hroom (by rw[hsize,hcs];simp;omega);rw[hr] at hr2;simp only[Result.ok.injEq] at hr2;obtain⟨rfl,rfl⟩:=hr2;intro g2 hg2;simp only[Value.ownBlock,N7] at hg2;subst hg2;refine sd (setRow_heap w g ag _ e _ hg) (λx hx=>?_);rw[List.toList_toArray,N1,N1] at hx;rcases hx with (hx|hx)|hx
   .exact hcur x (OA hx)
   .exact hu x hx
   .exact hcur x (List.mem_of_mem_drop hx)
  .have holds:∀j x,xs[j]?=some x->w.cell? (((OV g 0):Addr).add j)=some x:=hown.cells (g:=g) rfl;have hr2:=run_append_grow (P:=P) w t ty e i (.slice none 0 0) ht hi hz (OV g 0) n cap xs (by rw[hsize];exact hown.1) holds a m c news (by rw[hsize];omega) hnew (by omega) (by omega) (growslice_fits (by omega) (by rw[hby];omega));rw[hr] at hr2;simp only[Result.ok.injEq] at hr2;obtain⟨rfl,rfl⟩:=hr2;intro g2 hg2;simp only[Value.ownBlock,N7] at hg2;subst hg2;refine sk (w:=w.drew) (λx hx=>?_);rw[Array.toList_append,Array.toList_append,N1,N1] at hx;rcases hx with (hx|hx)|hx
   .rw[List.toList_toArray,<-htake] at hx;exact hcur x (OA hx)
   .exact hu x (by simpa using hx)
   .exact hzero _ x hx
variable{l:OJ}{us:OO}{v:OR}{w:OQ}{B:Nat}
theorem Li(h:aM B w v us l):∀u∈us,∃a n c,u=.slice a n c:=λu hu=>by obtain⟨i,hi,rfl⟩:=OC.1 hu;have hl:=h.len;have hf:=h.fvs i (by omega);rw[NY,NZ hi] at hf;obtain⟨a,c,e,_⟩:=hf;exact⟨a,_,c,e⟩
theorem aM.app{B2:Nat}{w2:OQ}{s x:OR}{us2:OO}{l2:OJ}(h:aM B w s us l)(k:aM B2 w x us2 l2)(ho:w2.ownsRow B 79 1 v (l.length+l2.length) (us++us2))(hg:w.grownBy w2 s.ownBlock)(hk:∀g,v.ownBlock=some g->cK w2 g):aM B w2 v (us++us2) (l++l2):=by
 have hf:am (λk=>s.ownBlock=some k) w w2:=am.of_grown hg λg e=>e;have hn:∀g,s.ownBlock=some g->bW io w g:=λg hg=>kF (h.kind g hg);refine⟨by simp[h.len,k.len],by rw[N3];exact ho,hk,λi hi=>?_⟩;by_cases hi2:i<l.length
 .rw[NY,NY,Ol (by rw[h.len];exact hi2),Ol hi2,<-NY,<-NY];exact fM hf hn (h.fvs i hi2)
 .rw[NY,NY,Ot (by rw[h.len];omega),Ot (by omega),h.len,<-NY,<-NY];rw[N3] at hi;exact fM hf hn (k.fvs _ (by omega))
theorem CR{ops:Array Oper}{rest:List Oper}{o:Oper}{a:Act}{Q:Exit->Act->OQ->Prop}(hgd:o.guard=none)(s x:Operand)(t:TypeId)(ho:o.op=.call {callee:=.builtin .append,args:=#[s,x],argTypes:=#[t,t]})(B B2:Nat)(i:TypeInfo)(ht:P.underlying t=some (.slice 79))(hi:P.info? 79=some i)(hz:i.zero=some (.slice none 0 0))(hsize:i.size=1)(hby:i.bytes=24)(sv:OR)(us us2:OO)(l l2:OJ)(xa:Option Addr)(xc:Nat)(hs:a.eval s=sv)(hx:a.eval x=.slice xa l2.length xc)(h:aM B w sv us l)(k:aM B2 w (.slice xa l2.length xc) us2 l2)(hn:l.length<=2100000)(hm:l2.length<=2100000)(hbase:B<=w.heap.size)(hK:∀v' w',aM B w' v' (us++us2) (l++l2)->w.grownBy w' sv.ownBlock->wpList P ops Q rest (a.put o.dst v') w'):wpList P ops Q (o::rest) a w:=by
 refine wpList_plain hgd λK hK'=>?_;by_cases hm0:l2.length=0
 .have e1:l2=[]:=List.eq_nil_of_length_eq_zero hm0;subst e1;have e2:us2=[]:=List.eq_nil_of_length_eq_zero (by rw[k.len];rfl);subst e2;have hr:=rC (P:=P) w B t o.type 79 i 1 ht hi sv l.length xc xa us h.own;unfold Oper.wp execOp;simp only[List.length_nil] at hx;simp only[ho,resolve,invoke,builtin,Sem.run_bind,Sem.run_pure,Result.andThen_ok,List.map_toArray,List.map_cons,List.map_nil,hs,hx,hr];exact hK' _ _ (hK sv w (by simpa using h) ⟨rfl,rfl,rfl,NL _,λ_ _ _=>rfl⟩)
 .obtain⟨g,c,e,_,_,_⟩:=k.at 0 (by omega);simp only[N8,true_and] at e;obtain⟨rfl,rfl⟩:=e;have hc:=World.ownsRow.cells k.own (g:=g) rfl;obtain⟨v',w',hr,h2,h3,h4⟩:=Lh (P:=P) w B t o.type 79 i ht hi hz hsize hby sv l.length us h.own h.kind (OV g 0) l2.length xc us2 k.len (Li k) hc (by omega) hn hm hbase;unfold Oper.wp execOp;simp only[ho,resolve,invoke,builtin,Sem.run_bind,Sem.run_pure,Result.andThen_ok,List.map_toArray,List.map_cons,List.map_nil,hs,hx,hr];exact hK' _ _ (hK v' w' (h.app k h2 h3 h4) h3)
structure pQ(p:Int)(N R:Nat)(lss:OH)(rows rows':OJ):Prop where
 tr:iR (ao 1 N N 0) (ao 1 N N 1) (ao 1 N N 2) (dI R lss.length) R lss rows
 ok:∀f∈rows',∃L r,f=L::r/\d8 p N R lss.length L r/\bq p (rows.map aK) λφ=>au φ (L::r)
 top:mF p R (rows.map aK) rows'
 len:rows'.length<=2100000
theorem Lj(p o:Int)(N R:Nat)(lv gv:OR)(lss:OH)(gus:OO)(w:OQ)(hc:gE p o N R lss)(hl:fH w lv lss)(hg:aM 0 w gv gus (iy 1 lss.length)):Calls prog 81 #[aI p N 1 1,OW R,lv,gv] w λe w'=>∃v us rows rows',e=.returned v/\aM w.heap.size w' v us (dZ R rows'++eD R rows')/\LT w w'/\pQ p N R lss rows rows':=by
 have hR3:=hc.hx.hw;have hR0:=hc.r0;obtain⟨w1,hw1⟩:∃w1,w1=w.alloc (.cells #[OW p,OW N,OW 1,OW 1] 23):=⟨_,rfl⟩;have HB1:OE (LT w w1):=by rw[hw1];exact ai
 have HST1:=ae (Lf p o N R lv gv lss gus w1 hc (hl.below HB1.o) (hg.next HB1.o));obtain⟨la,lc,rfl,_⟩:=hl.wl;obtain⟨ga,gc,hgv⟩:=ct hg.own;rw[lH] at hgv;subst hgv;obtain⟨i1,hi,hz0,hz1,hz2⟩:=info_parts Tryz.infoFvL;have HIV:=ae (NN hi (NN hz0 (NN hz1 hz2)));have hRI:(0:Int)<(R:Int):=by omega
 have hwR:IntKind.i64.wrap (R:Int)=R:=by rw[IntKind.wrap_i64];omega
 clear hi hz0 hz1 hz2 hl hg hc;unfold aI at HST1⊢;go_enter func81,ntmps81;go_wp2_with fail;refine wp_loop_rounds 2 ?_;rw[rounds_succ];rw[<-hw1];obtain⟨c0,c1,c2,c3⟩:w1.cell? (OV w.heap.size 0)=some (OW p)/\w1.cell? (OV w.heap.size 1)=some (OW N)/\w1.cell? (OV w.heap.size 2)=some (OW 1)/\w1.cell? (OV w.heap.size 3)=some (OW 1):=by rw[hw1];simp[go_sem]
 clear hw1;go_wp2_with (first|(go_at_call 115;refine HST1.o.mono ?_;rintro e w2 ⟨s1,s2,u1,u2,rows,rows',rfl,q0,q1,q2,q3,q4,q5,q6⟩;obtain⟨a1,d1,hs1⟩:=ct q1.own;obtain⟨a2,d2,hs2⟩:=ct q2.own;subst hs1;subst hs2;have HR1:=ae q1;have HR2:=ae q2;have HB12:=ae q3;have HBS:OE (pQ p N R lss rows rows'):=⟨q0,q4,q5,q6⟩;clear q0 q1 q2 q3 q4 q5 q6)|(at_builtin;refine CR rfl (.tmp 37) (.tmp 38) 76 rfl w2.heap.size w1.heap.size i1 underlying76 HIV.o.1 HIV.o.2.1 HIV.o.2.2.1 HIV.o.2.2.2 (.slice none 0 0) [] u1 [] (dZ R rows') a1 d1 rfl rfl (aM.nil _ _) HR1.o (by simp) (by have:=(sC R rows').1;have:=HBS.o.len;omega) (NL _) ?_;intro v3 w3 r1 r2;rw[List.nil_append,List.nil_append] at r1;obtain⟨a3,c3',hv3⟩:=ct r1.own;have HB23:OE (LT w2 w3):=(am.of_grown (S:=λ_=>False) r2 (λg e=>by simp[Value.ownBlock] at e)).to_below (NL _) (λk hk=>hk.elim);have HR3:=ae r1;have HR23:=ae (HR2.o.next HB23.o);subst hv3;clear r1 r2));rw[rounds_succ];go_wp2_with (at_builtin;refine CR rfl (.tmp 40) (.tmp 41) 76 rfl w2.heap.size w1.heap.size i1 underlying76 HIV.o.1 HIV.o.2.1 HIV.o.2.2.1 HIV.o.2.2.2 (.slice a3 (dZ R rows').length c3') u1 u2 (dZ R rows') (eD R rows') a2 d2 rfl rfl HR3.o HR23.o (by have:=(sC R rows').1;have:=HBS.o.len;omega) (by have:=(sC R rows').2;have:=HBS.o.len;omega) HB23.o.size ?_;intro v4 w4 r1 r2;have HR4:=ae r1;have HB24:=ae (eR HR3.o.own HB23.o r2 (NL _));clear r1 r2);go_ret;have hb2:LT w w2:=Io HB1.o HB12.o;exact⟨_,_,rows,rows',rfl,HR4.o.low hb2.size,Io hb2 HB24.o,HBS.o⟩
variable{f:OI}
theorem Lk{k:Int}{g:OI}(h:f.Perm g):aq k f=aq k g:=by
 induction h with
 |nil=>rfl
 |cons x _ ih=>simp only[aq];rw[ih]
 |swap x y l=>simp only[aq];omega
 |trans _ _ i1 i2=>rw[i1,i2]
variable{R:Nat}
theorem CS{p o:Int}{N:Nat}{lss:OH}(h:gE p o N R lss){rows rows2:OJ}(h1:iR (ao 1 N N 0) (ao 1 N N 1) (ao 1 N N 2) (dI R lss.length) R lss rows)(h2:iR (ao 1 N N 0) (ao 1 N N 1) (ao 1 N N 2) (dI R lss.length) R lss rows2):rows=rows2:=by
 have l1:=h1.len;have l2:=h2.len;apply List.ext_getElem
 .omega
 .intro j a b;have hj:j<lss.length:=by omega
  obtain⟨f1,e1,p1,k1⟩:=h1.at_ j hj;obtain⟨f2,e2,p2,k2⟩:=h2.at_ j hj;have hmem:lss.getD j []∈lss:=by rw[NY,NZ hj];exact NV hj
  rw[ou R (NL _)] at p1 p2;have v1:=(pK (n:=lss.length) (F:=0) (show (3:Int)<=9700 by omega) h.hx.acx (h.vok _ hmem) p1 k1).1;have v2:=(pK (n:=lss.length) (F:=0) (show (3:Int)<=9700 by omega) h.hx.acx (h.vok _ hmem) p2 k2).1;have e:f1=f2:=wF h.hx.acx (by omega) (by omega) v2 v1 λk=>⟨0,by rw[Lk (p1.trans p2.symm)];omega⟩;rw[NY,NZ a] at e1;rw[NY,NZ b] at e2;have e1':rows[j]=_:=e1;have e2':rows2[j]=_:=e2;rw[e1',e2',e]
def gY(R:Nat)(l:OJ):OJ:=(l.filter λf=>lI R f)++l.filter λf=>!lI R f
theorem Ll(R:Nat)(l:OJ):dZ R l++eD R l=(gY R l).map (di R):=by unfold gY dZ eD;rw[Oi]
theorem wT:f∈gY R l↔f∈l:=by unfold gY;rw[N1,Om,Om];cases lI R f<;>simp
theorem wU(R:Nat):∀l:OJ,(gY R l).length=l.length
 |[]=>rfl
 |f::l=>by have ih:=wU R l;unfold gY at ih⊢;rw[N3] at ih⊢;cases h:lI R f<;>simp[h]<;>omega
theorem Lm(p o:Int)(N R ob:Nat)(sv lv:OR)(lss:OH)(w:OQ)(hc:gE p o N R lss)(hl:fH w lv lss)(hob:aQ w ob p (ao 1 N N 0) (ao 1 N N 1) (ao 1 N N 2) sv)(hsl:Sl w sv (dI R lss.length)):Calls prog 42 #[OS ob,aI p N 1 1,OW R,lv] w λe w'=>∃v us rows rows',e=.returned v/\aM w.heap.size w' v us (gY R rows')/\LT w w'/\pQ p N R lss rows rows':=by
 have hx:=hc.hx;have hp:=dS hx.pr;have hR3:=hx.hw;have hn4:=hx.hn;obtain⟨w1,hw1⟩:∃w1,w1=w.alloc (.cells #[OW p,OW N,OW 1,OW 1] 23):=⟨_,rfl⟩;have HB1:OE (LT w w1):=by rw[hw1];exact ai
 have K4:OE (w1.cell? (OV w.heap.size 0)=some (OW p)/\w1.cell? (OV w.heap.size 1)=some (OW N)/\w1.cell? (OV w.heap.size 2)=some (OW 1)/\w1.cell? (OV w.heap.size 3)=some (OW 1)):=by show _/\_;rw[hw1];simp[go_sem]
 have HC:=ae hc;have HTR:OE (Calls prog 80 #[OS ob,lv,OW 0,OW R] w1 λe w'=>∃a c us rows,e=.returned (.slice a lss.length c)/\aM w1.heap.size w' (.slice a lss.length c) us rows/\iR (ao 1 N N 0) (ao 1 N N 1) (ao 1 N N 2) (dI R lss.length) R lss rows/\LT w1 w'):=by
  refine(CO ob R N p _ _ _ sv lv (dI R lss.length) lss w1 (hob.below HB1.o) (hsl.below HB1.o) (wQ hR3 hn4) (d9 1 N 0) (d9 1 N 1) (d9 1 N 2) HC.o.hx.n0 HC.o.hx.n3 HC.o.r0 hR3 hn4 (wP R lss.length) HC.o.len (λg hg f hf=>⟨(HC.o.tms g hg f hf).1,λt ht=>?_⟩) (hl.below HB1.o)).mono ?_
  .have h:=(HC.o.tms g hg f hf).2 t ht;exact⟨h.1,λx hx=>by have:=h.2.1 x hx;omega,h.2.2⟩
  .rintro e w' ⟨v,us,rows,rfl,⟨a,c,rfl⟩,q1,q2,q3,q4⟩;exact⟨a,c,us,rows,rfl,q1,q2,q3⟩
 have HUN:=ae (fun(W:OQ)=>KT p 1 1 N lss.length W hp (Ox rfl) (Ox rfl) hx.n3 (by omega));have HWA:OE (∀W gv gus,LT w W->aM 0 W gv gus (iy 1 lss.length)->Calls prog 81 #[aI p N 1 1,OW R,lv,gv] W λe w'=>∃v us rows rows',e=.returned v/\aM W.heap.size w' v us (dZ R rows'++eD R rows')/\LT W w'/\pQ p N R lss rows rows'):=λW gv gus hb h=>Lj p o N R lv gv lss gus W HC.o (hl.below hb) h;have HOB:OE (∀W,LT w W->aQ W ob p (ao 1 N N 0) (ao 1 N N 1) (ao 1 N N 2) sv):=λW hb=>hob.below hb;have HHX:=ae hx;obtain⟨i1,hi,hz0,hz1,hz2⟩:=info_parts Tryz.infoFvL;have HIV:=ae (NN hi (NN hz0 (NN hz1 hz2)));obtain⟨la,lc,rfl,_⟩:=hl.wl;unfold aI at HUN HWA⊢;clear hob hsl hl hc hx hi hz0 hz1 hz2;go_enter func42,ntmps42;go_upto_region 1 with fail;rw[<-hw1];clear hw1;go_upto_region 3 with (go_at_call 80;refine HTR.o.mono ?_;rintro e w2 ⟨ra,rc,rus,rows,rfl,q1,q2,q3⟩;have HR2:=ae q1;have HTA:=ae q2;have HB12:=ae q3;have HB2:=ae (Io HB1.o q3);clear q1 q2 q3);have KEEP:OE (∀W,LT w2 W->(W.cell? (OV w.heap.size 0)=some (OW p)/\W.cell? (OV w.heap.size 1)=some (OW N)/\W.cell? (OV w.heap.size 2)=some (OW 1)/\W.cell? (OV w.heap.size 3)=some (OW 1))):=λW hb=>by obtain⟨f0,f1,f2,f3⟩:=K4.o;have h:=Io HB12.o hb;exact⟨af f0 h,af f1 h,af f2 h,af f3 h⟩
 have HU2:OE (∀W,LT w2 W->Calls prog 82 #[.agg #[OW p,OW N,OW 1,OW 1],OW lss.length] W λe w'=>∃a c us,e=.returned (.slice a lss.length c)/\aM 0 w' (.slice a lss.length c) us (iy 1 lss.length)/\LT w2 w'):=λW hb=>by refine(HUN.o W).mono ?_;rintro e w' ⟨uv,us,rfl,q1,q2,q3⟩;obtain⟨a,c,e⟩:=ct q1.own;rw[lH] at e;subst e;exact⟨a,c,us,rfl,q1.low (NS _),Io hb q2⟩
 have HB0:OE (LT w2 w2.drew):=(NM _ _).drew;go_region_held (λW=>W.cell? (OV w.heap.size 0)=some (OW p)/\W.cell? (OV w.heap.size 1)=some (OW N)/\W.cell? (OV w.heap.size 2)=some (OW 1)/\W.cell? (OV w.heap.size 3)=some (OW 1))
  (first|with_reducible exact KEEP.o _ HB0.o|with_reducible exact KEEP.o _ HB3.o|with_reducible exact KEEP.o _ HB4.o)
  (first|(go_at_call 82;refine(HU2.o _ HB0.o).mono ?_;rintro e w3 ⟨ga,gc,gus,rfl,q1,q3⟩;have HB3:=ae q3;have HWA3:=ae (HWA.o w3 _ gus (Io HB2.o q3) q1);clear q1 q3)|(go_at_call 81;refine HWA3.o.mono ?_;rintro e w4 ⟨v4,us4,rowsB,rows',rfl,q1,q2,q3⟩;rw[Ll] at q1;obtain⟨a4,c4,hv4⟩:=ct q1.own;rw[Oa] at hv4;subst hv4;have HR4:=ae q1;have HB4:=ae (Io HB3.o q2);have HBS:=ae q3;clear q1 q2 q3))
 all_goals
  have HB04:OE (LT w w4):=Io HB2.o HB4.o;have HEQ:OE (rowsB=rows):=CS HC.o HBS.o.tr HTA.o;have heq:=HEQ.o;subst heq;have HRT:=ae (wR HC.o HTA.o);have HOK:OE (∀f∈gY R rows',∃L r,f=L::r/\d8 p N R lss.length L r/\bq p (rowsB.map aK) λφ=>au φ (L::r)):=λf hf=>HBS.o.ok f (wT.1 hf);have HPL:OE ((gY R rows').length<=2100000):=by have:=HBS.o.len;have:=wU R rows';show _<=_;omega
  generalize hpt:gY R rows'=pt at HR4 HOK HPL⊢;have HPT:=ae hpt;clear hpt;go_wp2_with fail;go_loopw [10,26] (λs10 s26 wr=>∃(m:Nat)(us:OO),m<=pt.length/\s26=OW m/\(∃a c,s10=.slice a m c)/\aM w4.heap.size wr s10 us (pt.take m)/\LT w4 wr) (λ_ s26 _=>pt.length-(intOf s26).toNat);case atStart=>exact⟨0,[],NS _,rfl,⟨none,0,rfl⟩,aM.nil _ _,NM _ _⟩
  case round=>
   rename OQ=>wr;obtain⟨m,us,hm,rfl,⟨sa,sc,rfl⟩,hrw,hbr⟩:=hrel;have HRW:=ae hrw;have HBR:=ae hbr;clear hrw hbr;by_cases hm2:m<pt.length
   .have hmI:(m:Int)<(pt.length:Int):=by omega
    have hpl:=HPL.o;obtain⟨gb,gcc,hgs,_,_,hgc,_⟩:=HR4.o.at m (by rw[Oa];exact hm2);rw[Oa] at hgs;simp only[N8,true_and] at hgs;obtain⟨rfl,rfl⟩:=hgs;have hfu:=HR4.o.fvs m (by rw[Oa];exact hm2);rw[wg (di R) pt m hm2] at hfu;have HTK:OE (pt.take (m+1)=pt.take m++[pt.getD m []]):=sn pt m hm2;have HTL:OE ((pt.take m).length=m):=by show _=_;rw[Oo];omega
    obtain⟨L,r,hLr,hmb,haf⟩:=HOK.o (pt.getD m []) (by rw[NY,NZ hm2];exact NV hm2);rw[hLr] at hfu HTK;generalize us4.getD m aL=uu at hfu hgc;have hgc:=af hgc HBR.o;have hro:=su hmb;have hv:=hmb.vc.wide hro.1 hro.2.1;have HBW:OE (LT w wr):=Io HB04.o HBR.o;have HRS:OE (nL wr (.slice ra lss.length rc) rowsB):=(HR2.o.next (Io HB4.o HBR.o)).rws;have HCB:=ae (CJ p N R lss.length HHX.o.acx ob sv uu (.slice ra lss.length rc) (di R (L::r)) rowsB wr (HOB.o wr HBW.o) (hfu.below HBR.o) HRS.o HRT.o.row HRT.o.len HRT.o.un 9602 (Int.le_refl _) (KP HHX.o.acx (by omega) (by omega) hv) (by have h1:=CU R (L::r);have h2:=jO HHX.o.acx (E:=4801) (F:=9602) (by omega) (by omega) _ hv.dn hv.gd;omega) (L::r) (hv.wide (by omega) (by omega)) haf (λj y=>⟨0,by rw[CG λt ht=>(hv.gd t ht).pl0];omega⟩));obtain⟨ua,uc,rfl,_⟩:=hfu;generalize hfl:(L::r)=f at HCB HTK hgc;clear hfl hmb haf hro hv hLr;go_wp2_with (first|(go_at_call 83;refine HCB.o.mono ?_;rintro e w5 ⟨u5,rfl,q1,q2⟩;obtain⟨xa,xc,hx5⟩:=cQ q1;have HF5:=ae (wS q1 hx5);have HR5:=ae ((HRW.o.next q2).next (ai (A:=.cells #[.slice xa f.length xc] 79)));have HB5:=ae ((Io HBR.o q2).alloc (Io HBR.o q2).size (.cells #[.slice xa f.length xc] 79));subst hx5;clear q1 q2)|(at_builtin;refine pJ rfl (.tmp 30) (.tmp 35) 76 rfl w4.heap.size 79 i1 underlying76 HIV.o.1 HIV.o.2.1 HIV.o.2.2.1 HIV.o.2.2.2 _ m us rfl (by have h:=HR5.o.own;rw[HTL.o] at h;exact h) HR5.o.kind (OV w5.heap.size 0) 1 (.slice xa f.length xc) ⟨_,_,_,rfl⟩ rfl (by simp[go_sem]) (by omega) HB5.o.size ?_;intro v6 w6 r1 r2 r3;obtain⟨va6,vc6,hv6⟩:=cQ r1;have HR6:=ae (HR5.o.add (HF5.o.below ai) (by rw[HTL.o];exact r1) r2 r3);have HB6:=ae (eR HR5.o.own HB5.o r2 (NL _));subst hv6;clear r1 r2 r3));go_roundw;case rel=>exact⟨m+1,_,by omega,by go_num,⟨va6,vc6,rfl⟩,by rw[HTK.o];exact HR6.o,HB6.o⟩
    case measure=>simp[intOf];omega
   .have e:m=pt.length:=by omega
    subst e;go_wp2;go_ret;have h1:=HRW.o;rw[N5 (NL _)] at h1;exact⟨_,us,rowsB,rows',rfl,by rw[HPT.o];exact h1.low HB04.o.size,Io HB04.o HBR.o,HBS.o⟩
end Go.Proofs.YtjkalahhpobefaaGreat
namespace Go.Proofs.YtjkalahhpobefaaGreat
set_option linter.all false
open Go.Proofs.Tryz Go.RowKit
variable{f:OI}
theorem sF(φ:C4.Tt->Int){g:OI}(h:f.Perm g):au φ f=au φ g:=by
 induction h with
 |nil=>rfl
 |cons x _ ih=>rw[cY,cY,ih]
 |swap x y l=>rw[cY,cY,cY,cY];omega
 |trans _ _ i1 i2=>rw[i1,i2]
theorem kG{t:C4.Tt}(h:∀u∈f,ah u≠t):au (Gb.dl t) f=0:=by refine Gb.jj λx hx=>?_;obtain⟨u,hu,rfl⟩:=N9.1 hx;unfold Gb.dl;exact Oc (h u hu)
def jC(p:Int)(N R:Nat)(rows:OJ)(g:OG):Prop:=∃Y:Gb.Fn C4.Tt,bq p (rows.map aK) Y/\∀t:C4.Tt,t.2.2.2.2=0->t.1<R->p∣Y (Gb.dl t)-au (Gb.dl t) (dH 1 1 N g R)
abbrev jD(N R:Nat)(lss:OH)(rows:OJ):Prop:=iR (ao 1 N N 0) (ao 1 N N 1) (ao 1 N N 2) (dI R lss.length) R lss rows
def lJ(p:Int)(N R:Nat)(lss:OH)(g:OG):Prop:=∃rows,jD N R lss rows/\jC p N R rows g
variable{g:OG}{rows:OJ}{lss:OH}{N R:Nat}{p o:Int}
theorem Ln(h:gE p o N R lss)(ht:jD N R lss rows):lJ p N R lss g↔jC p N R rows g:=by refine⟨fun⟨rows2,h2,h3⟩=>?_,λh3=>⟨rows,ht,h3⟩⟩;rw[CS h ht h2];exact h3
variable{s:C4.Tt}{w:Nat}
theorem CV{t:C4.Tt}(h:gq w s t)(ht:¬t.1<w):¬s.1<w:=λhs=>by unfold gq C4.L6 rH at h;simp only at h;rw[Oe hs,Oc ht] at h;rcases h with h|⟨_,h|⟨h,_⟩⟩<;>omega
theorem sG(h:gq w s s):False:=by unfold gq C4.L6 at h;omega
theorem Lo{r t:C4.Tt}(h:gq w r s)(k:gq w s t):gq w r t:=by unfold gq C4.L6 at*;omega
variable{t:Ft}
theorem sH(h:0<=t.pl):(ah t).1<w↔t.pl<w:=by show t.pl.toNat<w↔_;omega
variable{acc fs:OI}{K E F:Int}{rs:OJ}{n:Nat}
theorem Lp(hx:ci p N R n)(hp:fs.Perm (dH 1 1 N g R))(hE:E<=9700)(hF:F<=9700){rows2:OJ}(h:LA p (rs.map aK) N R n E F (λφ=>au φ fs) K acc none rows)(hn:Nx p rows none rows2)(ha:∀t∈acc,¬t.pl<R):jC p N R rs g:=by refine⟨_,(oX hx hE hF h hn).2 rfl,λs hz hs=>⟨0,?_⟩⟩;have e:au (Gb.dl s) acc=0:=kG λu hu e=>ha u hu ((sH (h.av.gd u hu).pl0).1 (by rw[e];exact hs));show au (Gb.dl s) fs-au (Gb.dl s) acc-au (Gb.dl s) (dH 1 1 N g R)=p*0;rw[e,sF _ hp];omega
theorem Lq(hx:ci p N R n)(hp:fs.Perm (dH 1 1 N g R))(hE:E<=9700)(hF:F<=9700)(h:LA p (rs.map aK) N R n E F (λφ=>au φ fs) K [] (some t) rows)(ht:¬t.pl<R):jC p N R rs g:=by
 obtain⟨g1,c0,c1,_,hlt⟩:=h.tr t rfl;refine⟨_,h.made,λs hz hs=>⟨0,?_⟩⟩;have ht2:¬(ah t).1<R:=λh=>ht ((sH g1.pl0).1 h);have e1:Gb.dl s (ah t)=0:=Oc λe=>ht2 (by rw[e];exact hs);have e2:au (Gb.dl s) rows.flatten=0:=kG λu hu e=>by obtain⟨f,hf,hu⟩:=List.mem_flatten.1 hu;exact CV (vL hx hE hF hE hF (h.ok.gd f hf u hu).1 g1 (hlt f hf u hu)) ht2 (by rw[e];exact hs)
 simp only[fw,fp];rw[e1,e2,sF _ hp,Int.mul_zero];omega
theorem Lr{L:Ft}(h:C4.bT.dv (ah L) (ah t))(h1:0<=L.pl/\0<=t.pl)(ha:0<=t.a)(hb:0<=t.b)(hd:0<=t.d)(hz:L.z=0/\t.z=0):cF L t=true:=by obtain⟨e1,e2⟩:=h;have e1:L.pl.toNat=t.pl.toNat:=e1;unfold C4.cl ah at e2;simp only at e2;unfold cF eM;simp only[Bool.and_eq_true,decide_eq_true_eq];omega
variable{ms:OK}
theorem CW(hx:ci p N R n)(hp:fs.Perm (dH 1 1 N g R))(hE:E<=9700)(hF:F<=9700)(h:LA p (rs.map aK) N R n E F (λφ=>au φ fs) K acc (some t) rows)(ha:∀t∈acc,¬t.pl<R)(ht:t.pl<R)(hms:jN p (rs.map aK) N R n ms)(hgo:∀x∈ms,x.gone=false)(htop:mF p R (rs.map aK) (ms.map jc))(hf:eO ms t=none):¬jC p N R rs g:=fun⟨Y,hY,hc⟩=>by
 obtain⟨g1,c0,c1,_,hlt⟩:=h.tr t rfl;have ht2:(ah t).1<R:=(sH g1.pl0).2 ht;have hz:(ah t).2.2.2.2=0:=by show t.z.toNat=0;rw[g1.z];rfl
 have hac:∀s:C4.Tt,s.1<R->au (Gb.dl s) acc=0:=λs hs=>kG λu hu e=>ha u hu ((sH (h.av.gd u hu).pl0).1 (by rw[e];exact hs));have hZ:=hY.add (h.made.scl (-1));have hrow:∀s:C4.Tt,(s=ah t\/gq R (ah t) s)->au (Gb.dl s) rows.flatten=0:=λs hs=>kG λu hu e=>by
  obtain⟨f,hf,hu⟩:=List.mem_flatten.1 hu;have hl:=vL hx hE hF hE hF (h.ok.gd f hf u hu).1 g1 (hlt f hf u hu);rw[e] at hl;rcases hs with rfl|hs
  .exact sG hl
  .exact sG (Lo hl hs)
 have hcf:∀s:C4.Tt,s.2.2.2.2=0->s.1<R->(s=ah t\/gq R (ah t) s)->p∣(Y (Gb.dl s)+-1*(au (Gb.dl s) fs-(au (Gb.dl s) acc+fw (Gb.dl s) (some t)+au (Gb.dl s) rows.flatten)))-t.c*Gb.dl s (ah t):=λs h1 h2 h3=>by obtain⟨z,e⟩:=hc s h1 h2;refine⟨z,?_⟩;rw[hrow s h3,hac s h2,<-e,sF _ hp];simp only[fw];omega
 obtain⟨L,r,hL,hdv⟩:=htop _ hZ (ah t) hz ht2 (λhd=>by
  have h9:=hcf (ah t) hz ht2 (Ox rfl);have e:Gb.dl (ah t) (ah t)=1:=Oe rfl;rw[e,Int.mul_one] at h9;have h8:=Int.dvd_sub hd h9;have e2:(Y (Gb.dl (ah t))+-1*(au (Gb.dl (ah t)) fs-(au (Gb.dl (ah t)) acc+fw (Gb.dl (ah t)) (some t)+au (Gb.dl (ah t)) rows.flatten)))-((Y (Gb.dl (ah t))+-1*(au (Gb.dl (ah t)) fs-(au (Gb.dl (ah t)) acc+fw (Gb.dl (ah t)) (some t)+au (Gb.dl (ah t)) rows.flatten)))-t.c)=t.c:=by omega
  rw[e2] at h8;have:=Int.le_of_dvd c0 h8;omega) λu h1 h2 h3=>by
  have h9:=hcf u h1 h2 (Oy h3);have e:Gb.dl u (ah t)=0:=Oc λe=>by rw[e] at h3;exact sG h3
  rw[e,Int.mul_zero,Int.sub_zero] at h9;exact h9
 obtain⟨x,hxm,e⟩:=N9.1 hL;unfold jc at e;simp only[List.cons.injEq] at e;obtain⟨rfl,rfl⟩:=e;have gL:=(hms x hxm).1.vc.gd x.L (by simp);have hin:=Lr hdv ⟨gL.pl0,g1.pl0⟩ g1.a g1.b g1.d ⟨gL.z,g1.z⟩;have hpl:x.L.pl=t.pl:=by unfold cF at hin;simp only[Bool.and_eq_true,decide_eq_true_eq] at hin;exact hin.1
 unfold eO at hf;rw[List.find?_eq_none] at hf;have h0:=g1.pl0;refine hf x (Om.2 ⟨hxm,by simp only[decide_eq_true_eq];omega⟩) ?_;unfold eP;rw[hgo x hxm,hin];rfl
theorem Ls{ra:List (List (Int×C4.Tt))}(hx:ci p N w n)(hms:jN p ra N w n ms)(hR:kS E F){X:Gb.Fn C4.Tt}(cn:Ft->Bool):l9 p (ao 1 N N 0) (ao 1 N N 1) (ao 1 N N 2) (bi N w n E F) ms (λrows acc=>LA p ra N w n E F X K acc none rows/\∀t∈acc,cn t=true) (λt rows acc=>LA p ra N w n E F X K acc (some t) rows/\∀t∈acc,cn t=true) (λ_ t=>cn t) where
 next:=λrows acc t rows2 _ hJ hn=>⟨(oX hx (by have:=hR.1;omega) (by have:=hR.2.1;omega) hJ.1 hn).1,hJ.2⟩
 left:=λt rows acc _ _ _ _ _ hI hf hc=>⟨zB hI.1,λu hu=>by
  rcases N1.1 hu with hu|hu
  .exact hI.2 u hu
  .rw[N2] at hu;rw[hu];exact hc⟩
 take:=λt rows acc x bt rows' g c0 c1 hlt hr hI hf hby hr2 hcnt=>by have hxm:x∈ms:=(Om.1 (List.mem_of_find?_eq_some hf)).1;have hgo:=List.find?_some hf;unfold eP at hgo;simp only[Bool.and_eq_true] at hgo;obtain⟨hm,hmm⟩:=hms x hxm;have hb:=uj g (hm.vc.gd x.L (by simp)) hgo.2 hby.a hby.b hby.d hby.z;have hs:=uk hx hR (more:=bG 1 (aD N bt)) (c:=bt.c) g hm hb ⟨hby.c0,hby.c1⟩ rfl;refine⟨zC hx (by have:=hR.1;omega) (by have:=hR.2.1;omega) (c:=bt.c) hI.1 hm hmm hb hby.cc hr2 hs λk=>?_,hI.2⟩;have:=hcnt k;rw[kT hx.n0 hx.n3] at this;exact this
def tE(i:Nat)(e:OP):C4.Tt:=(i,(e.getD 0 0).toNat,(e.getD 1 0).toNat,(e.getD 2 0).toNat,0)
def mE(e:OP):C4.Mt:=((e.getD 0 0).toNat,(e.getD 1 0).toNat,(e.getD 2 0).toNat,0)
variable{a:OP}
theorem ow(h:∀x∈a,0<=x)(k:Nat):0<=a.getD k 0:=by
 by_cases hk:k<a.length
 .rw[NY,NZ hk];exact h _ (NV hk)
 .rw[NY,N0 (by omega)];exact Int.le_refl _
variable{b:OP}
theorem wV(h:a.length=b.length)(k:Nat):(aP (·+·) a b).getD k 0=a.getD k 0+b.getD k 0:=by
 by_cases hk:k<a.length
 .exact Ac _ a b h k hk
 .rw[NY,NY,NY,N0 (by rw[ky _ _ _ h];omega),N0 (by omega),N0 (by omega)];rfl
theorem Lu{i:Nat}(hl:a.length=b.length)(ha:∀x∈a,0<=x)(hb:∀x∈b,0<=x):tE i (aP (·+·) a b)=C4.aw (mE a) (tE i b):=by have a0:=ow ha 0;have a1:=ow ha 1;have a2:=ow ha 2;have b0:=ow hb 0;have b1:=ow hb 1;have b2:=ow hb 2;obtain⟨x0,e0⟩:=Int.eq_ofNat_of_zero_le a0;obtain⟨x1,e1⟩:=Int.eq_ofNat_of_zero_le a1;obtain⟨x2,e2⟩:=Int.eq_ofNat_of_zero_le a2;obtain⟨y0,f0⟩:=Int.eq_ofNat_of_zero_le b0;obtain⟨y1,f1⟩:=Int.eq_ofNat_of_zero_le b1;obtain⟨y2,f2⟩:=Int.eq_ofNat_of_zero_le b2;unfold tE mE C4.aw C4.bK;rw[wV hl,wV hl,wV hl,e0,e1,e2,f0,f1,f2];simp only[Prod.mk.injEq,true_and,<-Int.natCast_add,Int.toNat_natCast,and_true]
def dj(φ:C4.Tt->Int)(g:OG):Nat->Int
 |0=>0
 |i+1=>dj φ g i+az (λe=>φ (tE i e)) (g.getD i [])
theorem CX(N i:Nat)(φ:C4.Tt->Int):∀f:Lt,au φ (f.map (dY 1 1 N i))=az (λe=>φ (tE i e)) f
 |[]=>rfl
 |t::f=>by
  rw[List.map_cons,cY,CX N i φ f];have e:ah (dY 1 1 N i t)=tE i t.2:=by show (((i:Int)).toNat,_,_,_,_)=_;rw[Int.toNat_natCast];rfl
  rw[e];rfl
theorem wW(N:Nat)(φ:C4.Tt->Int)(g:OG):∀m,au φ (dH 1 1 N g m)=dj φ g m
 |0=>rfl
 |m+1=>by simp only[dH,dj];rw[kq,wW N φ g m,CX]
theorem Lv:jC p N R rows g↔∃Y:Gb.Fn C4.Tt,bq p (rows.map aK) Y/\∀t:C4.Tt,t.2.2.2.2=0->t.1<R->p∣Y (Gb.dl t)-dj (Gb.dl t) g R:=by unfold jC;simp only[wW]
def pR(φ:C4.Tt->Int)(row:OI)(q:Lt):Int:=az (λa=>au (λs=>φ (C4.aw (mE a) s)) row) q
theorem CY{p:Int}{ra:List (List (Int×C4.Tt))}{row:OI}(h:bq p ra λφ=>au φ row):∀q:Lt,bq p ra λφ=>pR φ row q
 |[]=>bq.zero λφ=>⟨0,by simp[pR,az]⟩
 |b::q=>((h.shift (m:=mE b.2) rfl).scl b.1).add (CY h q)
def CZ(R:Nat)(φ:C4.Tt->Int):Prop:=∀s:C4.Tt,¬s.1<R->φ s=0
theorem Lw(hc:gE p o N R lss)(ht:jD N R lss rows){m:Nat}(hm:m<lss.length){φ:C4.Tt->Int}(hφ:CZ R φ)(q:Lt):pR φ (rows.getD m []) q=az (λa=>dj (λs=>φ (C4.aw (mE a) s)) (lss.getD m []) R) q:=by
 obtain⟨fs,e,hp,_⟩:=ht.at_ m hm;rw[ou R (NL _)] at hp;unfold pR;refine o9 λb _=>?_;rw[e,kq,sF _ hp,wW,cY,fp];have e2:φ (C4.aw (mE b.2) (ah (dK ((dI R lss.length).getD (R+m) 0) ((R+m:Nat):Int))))=0:=hφ _ (by
  show¬(((R+m:Nat):Int)).toNat<R;omega)
 rw[e2];omega
theorem C0{p:Int}{N:Nat}{g:OG}{q:Lt}(hg:∀i,∀t∈g.getD i [],t.2.length=N/\∀x∈t.2,0<=x)(hq:∀b∈q,b.2.length=N/\∀x∈b.2,0<=x)(φ:C4.Tt->Int):∀k,p∣az (λa=>dj (λs=>φ (C4.aw (mE a) s)) g k) q-dj φ ((List.range k).map λi=>aH p q (g.getD i [])) k
 |0=>⟨0,by simp only[dj];rw[Ar];omega⟩
 |k+1=>by
  obtain⟨a,ha⟩:=C0 (p:=p) hg hq φ k;obtain⟨b,hb⟩:=nz p (λe=>φ (tE k e)) (g.getD k []) q;have e1:az (λa=>az (λb=>φ (tE k (aP (·+·) a b))) (g.getD k [])) q=az (λa=>az (λe=>φ (C4.aw (mE a) (tE k e))) (g.getD k [])) q:=by refine o9 λx hx=>o9 λt ht=>?_;rw[Lu (by rw[(hq x hx).1,(hg k t ht).1]) (hq x hx).2 (hg k t ht).2]
  rw[e1] at hb;have e2:dj φ ((List.range (k+1)).map λi=>aH p q (g.getD i [])) (k+1)=dj φ ((List.range k).map λi=>aH p q (g.getD i [])) k+az (λe=>φ (tE k e)) (aH p q (g.getD k [])):=by
   simp only[dj];have e3:((List.range (k+1)).map λi=>aH p q (g.getD i [])).getD k []=aH p q (g.getD k []):=by rw[NY];simp
   have e4:∀j,j<=k->dj φ ((List.range (k+1)).map λi=>aH p q (g.getD i [])) j=dj φ ((List.range k).map λi=>aH p q (g.getD i [])) j:=λj=>by
    induction j with
    |zero=>intro _;rfl
    |succ j ih=>
     intro hj;simp only[dj];rw[ih (by omega)];have f1:((List.range (k+1)).map λi=>aH p q (g.getD i [])).getD j []=aH p q (g.getD j []):=by rw[NY,List.getElem?_map,List.getElem?_range (by omega)];rfl
     have f2:((List.range k).map λi=>aH p q (g.getD i [])).getD j []=aH p q (g.getD j []):=by rw[NY,List.getElem?_map,List.getElem?_range (by omega)];rfl
     rw[f1,f2]
   rw[e3,e4 k (NL _)]
  rw[e2];have e5:az (λa=>dj (λs=>φ (C4.aw (mE a) s)) g (k+1)) q=az (λa=>dj (λs=>φ (C4.aw (mE a) s)) g k) q+az (λa=>az (λe=>φ (C4.aw (mE a) (tE k e))) (g.getD k [])) q:=by simp only[dj];rw[As]
  rw[e5];refine⟨a-b,?_⟩;rw[Int.mul_sub];omega
def ox(φ:C4.Tt->Int)(rows:OJ)(cs:OG):Nat->Int
 |0=>0
 |m+1=>ox φ rows cs m+pR φ (rows.getD m []) (cs.getD m [])
theorem C1{p:Int}{ra:List (List (Int×C4.Tt))}{rows:OJ}{cs:OG}:∀m,(∀i,i<m->bq p ra λφ=>au φ (rows.getD i []))->bq p ra λφ=>ox φ rows cs m
 |0,_=>bq.zero λφ=>⟨0,by simp[ox]⟩
 |m+1,h=>(C1 m λi hi=>h i (by omega)).add (CY (h m (by omega)) (cs.getD m []))
theorem C2{p:Int}{lss:OH}{cs:OG}{φ:C4.Tt->Int}{v:OG}{m:Nat}:∀k,(∀i,i<k->p∣az (λe=>φ (tE i e)) (v.getD i [])-mk p (λe=>φ (tE i e)) lss cs i (m+1))->∀{u:OG},(∀i,i<k->p∣az (λe=>φ (tE i e)) (u.getD i [])-mk p (λe=>φ (tE i e)) lss cs i m)->p∣dj φ v k-(dj φ u k+dj φ ((List.range k).map λi=>aH p (cs.getD m []) ((lss.getD m []).getD i [])) k)
 |0,_,_,_=>⟨0,by simp[dj]⟩
 |k+1,h,u,h2=>by
  obtain⟨a,ha⟩:=C2 k (λi hi=>h i (by omega)) (u:=u) λi hi=>h2 i (by omega);obtain⟨b,hb⟩:=h k (by omega);obtain⟨c,hc⟩:=h2 k (by omega);simp only[mk] at hb;have e2:dj φ ((List.range (k+1)).map λi=>aH p (cs.getD m []) ((lss.getD m []).getD i [])) (k+1)=dj φ ((List.range k).map λi=>aH p (cs.getD m []) ((lss.getD m []).getD i [])) k+az (λe=>φ (tE k e)) (aH p (cs.getD m []) ((lss.getD m []).getD k [])):=by
   simp only[dj];have e3:((List.range (k+1)).map λi=>aH p (cs.getD m []) ((lss.getD m []).getD i [])).getD k []=aH p (cs.getD m []) ((lss.getD m []).getD k []):=by rw[NY];simp
   have e4:∀j,j<=k->dj φ ((List.range (k+1)).map λi=>aH p (cs.getD m []) ((lss.getD m []).getD i [])) j=dj φ ((List.range k).map λi=>aH p (cs.getD m []) ((lss.getD m []).getD i [])) j:=λj=>by
    induction j with
    |zero=>intro _;rfl
    |succ j ih=>
     intro hj;simp only[dj];rw[ih (by omega)];have f1:((List.range (k+1)).map λi=>aH p (cs.getD m []) ((lss.getD m []).getD i [])).getD j []=aH p (cs.getD m []) ((lss.getD m []).getD j []):=by rw[NY,List.getElem?_map,List.getElem?_range (by omega)];rfl
     have f2:((List.range k).map λi=>aH p (cs.getD m []) ((lss.getD m []).getD i [])).getD j []=aH p (cs.getD m []) ((lss.getD m []).getD j []):=by rw[NY,List.getElem?_map,List.getElem?_range (by omega)];rfl
     rw[f1,f2]
   rw[e3,e4 k (NL _)]
  rw[e2];simp only[dj];refine⟨a+b-c,?_⟩;rw[Int.mul_sub,Int.mul_add];omega
theorem C3{p o:Int}{N R:Nat}{lss:OH}{rows:OJ}(hc:gE p o N R lss)(ht:jD N R lss rows){cs:OG}(hq:∀m,∀b∈cs.getD m [],b.2.length=N/\∀x∈b.2,0<=x){φ:C4.Tt->Int}(hφ:CZ R φ):∀k,k<=lss.length->p∣ox φ rows cs k-dj φ (cB p o R cs lss k) R
 |0,hk=>by
  have h1:∀j,j<=R->dj φ (cB p o R cs lss 0) j=0:=λj=>by
   induction j with
   |zero=>intro _;rfl
   |succ j ih=>
    intro hj;simp only[dj];rw[ih (by omega)];have e:(cB p o R cs lss 0).getD j []=[]:=by simp only[cB];rw[NY,List.getElem?_replicate_of_lt (by omega)];rfl
    rw[e];rfl
  exact⟨0,by rw[h1 R (NL _)];simp[ox]⟩
 |k+1,hk=>by
  obtain⟨a,ha⟩:=C3 hc ht hq hφ k (by omega);have hm:lss.getD k []∈lss:=by rw[NY,NZ (show k<lss.length by omega)];exact NV _
  have hv:=hc.vok _ hm;obtain⟨b,hb⟩:=C0 (p:=p) (N:=N) (g:=lss.getD k []) (q:=cs.getD k []) (λi t ht=>⟨(hv.canon i).len t ht,hv.nn i t ht⟩) (hq k) φ R;obtain⟨c,hcc⟩:=C2 (p:=p) (lss:=lss) (cs:=cs) (φ:=φ) (v:=cB p o R cs lss (k+1)) (m:=k) R (λi hi=>(we hc.len (λe=>φ (tE i e)) i hi (k+1) hk).2) (u:=cB p o R cs lss k) λi hi=>(we hc.len (λe=>φ (tE i e)) i hi k (by omega)).2;simp only[ox];rw[Lw hc ht (by omega) hφ];refine⟨a+b-c,?_⟩;rw[Int.mul_sub,Int.mul_add];omega
theorem C5(hc:gE p o N R lss)(ht:jD N R lss rows){cs:OG}(hq:∀m,∀b∈cs.getD m [],b.2.length=N/\∀x∈b.2,0<=x):jC p N R rows (cB p o R cs lss lss.length):=by rw[Lv];have hr:=wR hc ht;refine⟨_,C1 (rows:=rows) (cs:=cs) lss.length λi hi=>hr.made hi,λt hz hR=>C3 hc ht hq (λs hs=>Oc λe=>hs (by rw[e];exact hR)) _ (NL _)⟩
abbrev l3:OH:=[[[(1,[1,0])]]]
abbrev g3:OG:=[[(3,[1,1])]]
def Y4:Ft:=⟨-288230307432235009,0,1,0,0,1,4⟩
def R3:List (Int×C4.Tt):=[(1,(0,1,0,0,0)),(1,(1,0,0,0,0))]
theorem Lx:dH 1 1 2 [[(1,[1,0])]] 1=[⟨68719476991,1,0,0,0,0,1⟩]:=by rfl
theorem Ly:dH 1 1 2 g3 1=[⟨137438953471,1,1,0,0,0,3⟩]:=by rfl
theorem Lz:dK ((dI 1 1).getD (1+0) 0) ((1+0:Nat):Int)=⟨-288230376151711489,0,0,0,0,1,1⟩:=by rfl
theorem mi(ht:jD 2 1 l3 rows):rows.map aK=[R3]:=by
 have hl:=ht.len;obtain⟨fs,e,hp,_⟩:=ht.at_ 0 (by simp);rw[ou 1 (NL _)] at hp;have hp2:fs.Perm (dH 1 1 2 [[(1,[1,0])]] 1):=hp;rw[Lx] at hp2;have hfs:=List.perm_singleton.1 hp2;subst hfs;have e2:rows.getD 0 []=[⟨68719476991,1,0,0,0,0,1⟩]++[dK ((dI 1 1).getD (1+0) 0) ((1+0:Nat):Int)]:=e;rw[Lz] at e2
 match rows,hl,e2 with
 |[r],_,e2=>have e3:r=[⟨68719476991,1,0,0,0,0,1⟩]++[⟨-288230376151711489,0,0,0,0,1,1⟩]:=e2;rw[e3];rfl
theorem sI(φ:C4.Tt->Int):∀rp:List (Int×C4.Mt×Nat),(∀r∈rp,r.2.2<1)->cU [R3] φ rp=Gb.ln (λx:C4.Mt×Nat=>φ (C4.aw x.1 (0,1,0,0,0))+φ (C4.aw x.1 (1,0,0,0,0))) rp
 |[],_=>rfl
 |r::rp,h=>by
  have h0:=h r (by simp);have e:r.2.2=0:=by omega
  simp only[cU,Gb.ln];rw[sI φ rp λx hx=>h x (by simp[hx]),e];simp only[List.getD_cons_zero,R3,Gb.ln];grind
theorem C6{τ:Type}(f g:τ->Int):∀l:List (Int×τ),(∀x,f x=g x)->Gb.ln f l=Gb.ln g l
 |[],_=>rfl
 |x::l,h=>by simp only[Gb.ln];rw[C6 f g l h,h]
theorem C7{Z:Gb.Fn C4.Tt}(h:bq 7 [R3] Z)(a b c d:Nat):(7:Int)∣Z (Gb.dl (1,a,b,c,d))-Z (Gb.dl (0,a+1,b,c,d)):=by
 obtain⟨rp,h1,h2⟩:=h;obtain⟨x,hx⟩:=h2 (Gb.dl (1,a,b,c,d));obtain⟨y,hy⟩:=h2 (Gb.dl (0,a+1,b,c,d));have e:cU [R3] (Gb.dl (1,a,b,c,d)) rp=cU [R3] (Gb.dl (0,a+1,b,c,d)) rp:=by
  have hr:∀r∈rp,r.2.2<1:=λr hr=>by have:=(h1 r hr).2;simpa using this
  rw[sI _ rp hr,sI _ rp hr];refine C6 _ _ rp λz=>?_;obtain⟨⟨m1,m2,m3,m4⟩,j⟩:=z;unfold Gb.dl C4.aw C4.bK;simp only[Prod.mk.injEq,true_and];split<;>split<;>split<;>split<;>omega
 rw[e] at hx;exact⟨x-y,by omega⟩
theorem C8:cR 7 2 1 1 3 4804 [Y4]:=by
 refine⟨List.pairwise_singleton _ _,λt ht=>?_,λt ht=>?_⟩
 .rw[N2] at ht;subst ht;simp[Y4]
 .rw[N2] at ht;subst ht;refine⟨by decide+kernel,by simp[Y4],by simp[Y4],by simp[Y4],by simp[Y4],by simp[Y4],by simp[Y4],λh=>by omega,by simp[Y4],λh=>by simp[Y4] at h,λh=>by simp[Y4]⟩
theorem LB(hx:ci 7 2 1 1)(ht:jD 2 1 l3 rows)(hp:fs.Perm (dH 1 1 2 g3 1))(hm:bq 7 (rows.map aK) λφ=>au φ fs-au φ acc)(hv:cR 7 2 1 1 3 4804 acc)(ha:∀t∈acc,¬t.pl<1):acc=[Y4]:=by
 rw[Ly] at hp;have hfs:=List.perm_singleton.1 hp;subst hfs;rw[mi ht] at hm;have hco:∀t:C4.Tt,(7:Int)∣au (Gb.dl t) acc-au (Gb.dl t) [Y4]:=λt=>by
  obtain⟨pl,a,b,c,d⟩:=t;have ey:au (Gb.dl (pl,a,b,c,d)) [Y4]=4*(if pl=1/\a=0/\b=1/\c=0/\d=0 then 1 else 0):=by
   rw[cY,fp];have e:ah Y4=(1,0,1,0,0):=by decide
   rw[e];unfold Gb.dl;have:((1,0,1,0,0):C4.Tt)=(pl,a,b,c,d)↔(pl=1/\a=0/\b=1/\c=0/\d=0):=by simp only[Prod.mk.injEq];omega
   simp only[this];show 4*_+0=_;omega
  rw[ey];by_cases h0:pl=1
  .subst h0;obtain⟨z,hz⟩:=C7 hm a b c d;have e1:au (Gb.dl (0,a+1,b,c,d)) acc=0:=kG λu hu e=>ha u hu (by
    have h1:u.pl.toNat=0:=congrArg Prod.fst e;have:=(hv.gd u hu).pl0;omega)
   have e2:au (Gb.dl (1,a,b,c,d)) [⟨137438953471,1,1,0,0,0,3⟩]=0:=kG λu hu e=>by rw[N2] at hu;subst hu;have h1:=congrArg Prod.fst e;simp[ah] at h1
   have e3:au (Gb.dl (0,a+1,b,c,d)) [⟨137438953471,1,1,0,0,0,3⟩]=3*(if 1=1/\a=0/\b=1/\c=0/\d=0 then 1 else 0):=by
    rw[cY,fp];have e:ah ⟨137438953471,1,1,0,0,0,3⟩=(0,1,1,0,0):=by decide
    rw[e];unfold Gb.dl;have:((0,1,1,0,0):C4.Tt)=(0,a+1,b,c,d)↔(1=1/\a=0/\b=1/\c=0/\d=0):=by
     simp only[Prod.mk.injEq,true_and];constructor
     .rintro ⟨h1,rfl,rfl,rfl⟩;exact⟨by omega,rfl,rfl,rfl⟩
     .rintro ⟨rfl,rfl,rfl,rfl⟩;exact⟨rfl,rfl,rfl,rfl⟩
    simp only[this];show 3*_+0=_;omega
   rw[e1,e2,e3] at hz;refine⟨-z-(if 1=1/\a=0/\b=1/\c=0/\d=0 then 1 else 0),?_⟩;omega
  .rw[Oc (λh=>h0 h.1)];have e1:au (Gb.dl (pl,a,b,c,d)) acc=0:=kG λu hu e=>by have h1:u.pl.toNat=pl:=congrArg Prod.fst e;have g:=hv.gd u hu;have:=g.pl0;have:=g.pl;have:=ha u hu;omega
   rw[e1];exact⟨0,by omega⟩
 refine wF hx (by omega) (by omega) C8 hv λk=>?_;rw[pM hv.gd,pM C8.gd];have hz:=wL (p:=7) _ ((aK acc)++(aK [Y4]).map λr=>(-r.1,r.2)) (NL _) (λt=>by
  rw[pF,pL];obtain⟨z,hz⟩:=hco t;exact⟨z,hz⟩) (jB 2 1 k)
 rw[pF,pL] at hz;obtain⟨z,hz⟩:=hz;exact⟨z,hz⟩
theorem LC(hx:ci 7 2 1 1)(ht:jD 2 1 l3 rows)(hms:jN 7 (rows.map aK) 2 1 1 ms):∀x∈ms,x.L.pl<1:=λx hx2=>by
 apply Oj;intro hn;obtain⟨hm,haf⟩:=hms x hx2;have gL:=hm.vc.gd x.L (by simp);have hbd:=hm.bd;rw[mi ht] at haf;have hpl:(ah x.L).1=1:=by show x.L.pl.toNat=1;have:=gL.pl;have:=gL.pl0;omega
 have hlt:∀u∈x.r,gq 1 (ah u) (ah x.L):=λu hu=>vL hx hbd.1 hbd.2 hbd.1 hbd.2 (hm.vc.gd u (by simp[hu])) gL (hm.vc.dn.head u hu);have hno:¬(ah x.L).1<1:=by omega
 obtain⟨⟨pl,a,b,c,d⟩,hq⟩:∃q,ah x.L=q:=⟨_,rfl⟩;rw[hq] at hpl hlt hno;have hpl:pl=1:=hpl;subst hpl;obtain⟨z,hz⟩:=C7 haf a b c d;have e1:au (Gb.dl (0,a+1,b,c,d)) (x.L::x.r)=0:=kG λu hu e=>by
  rcases Og.1 hu with rfl|hu
  .rw[hq] at e;have:=congrArg Prod.fst e;simp at this
  .have h1:=CV (hlt u hu) hno;rw[e] at h1;exact h1 (Nat.lt_succ_self 0)
 have e2:au (Gb.dl (1,a,b,c,d)) (x.L::x.r)=x.L.c:=by
  have e3:au (Gb.dl (1,a,b,c,d)) x.r=0:=kG λu hu e=>by have h1:=hlt u hu;rw[e] at h1;exact sG h1
  rw[cY,e3,hq];unfold Gb.dl;rw[Oe rfl];omega
 rw[e1,e2] at hz;have:=hm.vc.co x.L (by simp);omega
end Go.Proofs.YtjkalahhpobefaaGreat
