/- Vectors of one degree, made flat in a graded making. -/
import Derived.Test.YteimdcndjjclnaaGreatGG
import Derived.Test.YteimdcndjjclnaaGreatMR
set_option maxHeartbeats 4000000
set_option maxRecDepth 100000
namespace Go.Proofs.YteimdcndjjclnaaGreat
set_option linter.all false
open Go.Proofs.Tryz Go.RowKit Go.Sort
def eD(dg:Nat->Int)(N i:Nat)(t:Tm):Ft:=eE (ij dg i) (az 1 N N 0) (az 1 N N 1) (az 1 N N 2) i t
theorem pZ{p:Int}{dg:Nat->Int}{N R i:Nat}{t:Tm}(hx:aP p dg N R)(hl:t.2.length=N)(hn:∀x∈t.2,0<=x)(hi:i<R):aM dg N R (ah t.2+dg i) (eD dg N i t)/\aE N (eD dg N i t)=t.2/\(eD dg N i t).c=t.1/\(eD dg N i t).pl=i/\ag R (eD dg N i t)=ag R (fJ 1 1 N i t):=by
 obtain⟨g,e1,e2,e3,e4⟩:=yj (o:=1) (ov:=1) (R:=R) (Q:=ah t.2) hx.n0 hx.n3 hl hn (Int.le_refl _) hi;have ee:aE N (eD dg N i t)=aE N (fJ 1 1 N i t):=rfl;have hpl:(eD dg N i t).pl=i:=rfl;have hsum:ah t.2=t.2.getD 0 0+t.2.getD 1 0+t.2.getD 2 0:=(En hx.n3 hl).symm;refine⟨⟨?_,g.a,g.b,g.d,?_,rfl,by rw[hpl];omega,by rw[hpl];omega,g.n1,g.n2⟩,ee.trans e1,rfl,hpl,rfl⟩
 .rw[ee,e1,hpl];have hk:(eD dg N i t).k=(fJ 1 1 N i t).k+dg i*68719476736:=by show ij dg i+_=ef 1 i+_+_;unfold ij ef;simp only[show¬((1:Int)=2) from by decide,if_false];omega
  rw[hk,e4];unfold eF kK ef;simp only[show¬((1:Int)=2) from by decide,if_false,Int.toNat_natCast];omega
 .rw[hpl,Int.toNat_natCast];show t.2.getD 0 0+t.2.getD 1 0+t.2.getD 2 0+dg i=_;omega
def fw(dg:Nat->Int)(N:Nat)(fss:List (List Tm)):Nat->List Ft
 |0=>[]
 |i+1=>fw dg N fss i++(fss.getD i []).map (eD dg N i)
theorem yk{dg:Nat->Int}{N R:Nat}{fss:List (List Tm)}:∀n,n<=R->gT (az 1 N N 0) (az 1 N N 1) (az 1 N N 2) ((List.range R).map (ij dg)) fss n=fw dg N fss n
 |0,_=>rfl
 |n+1,h=>by
  simp only[gT,fw];rw[yk n (by omega)];have e:((List.range R).map (ij dg)).getD n 0=ij dg n:=by rw[Lr,List.getElem?_map,List.getElem?_range (by omega)];rfl
  rw[e];rfl
theorem sZ{dg:Nat->Int}{N:Nat}{fss:List (List Tm)}:∀{n:Nat}{x:Ft},x∈fw dg N fss n->∃i t,i<n/\t∈fss.getD i []/\x=eD dg N i t
 |0,x,h=>by simp[fw] at h
 |n+1,x,h=>by
  simp only[fw,Lv,LC] at h;rcases h with h|⟨t,ht,rfl⟩
  .obtain⟨i,t,h1,h2,h3⟩:=sZ h;exact⟨i,t,by omega,h2,h3⟩
  .exact⟨n,t,by omega,ht,rfl⟩
def j7(dg:Nat->Int)(D:Int)(v:List (List Tm)):Prop:=∀i,∀t∈v.getD i [],ah t.2+dg i=D
theorem yl{p:Int}{dg:Nat->Int}{N R:Nat}(hx:aP p dg N R){D:Int}(hD:D<=16000){i j:Nat}{t u:Tm}(hi:i<R)(hj:j<R)(ht:t.2.length=N)(hu:u.2.length=N)(nt:∀x∈t.2,0<=x)(nu:∀x∈u.2,0<=x)(dt:ah t.2+dg i=D)(du:ah u.2+dg j=D)(e:(eD dg N i t).k=(eD dg N j u).k):i=j/\t.2=u.2:=by
 obtain⟨g1,a1,a2,a3,a4⟩:=pZ hx ht nt hi;obtain⟨g2,b1,b2,b3,b4⟩:=pZ hx hu nu hj;rw[dt] at g1;rw[du] at g2;have b5:=g1.bd hx;have b6:=g2.bd hx;have x1:=g1.a;have x2:=g1.b;have x3:=g1.d;have y1:=g2.a;have y2:=g2.b;have y3:=g2.d;obtain⟨h1,h2,h3⟩:=yo (g1.lin hx.n0 hx.n3) (g2.lin hx.n0 hx.n3) (by omega) (by omega) (by rw[a3];have:=hx.r;omega) (by omega) (by omega) (by rw[b3];have:=hx.r;omega) e;have hij:i=j:=by rw[a3,b3] at h3;omega
 refine⟨hij,?_⟩;have d1:=g1.deg;have d2:=g2.deg;rw[h3] at d1;have ha:(eD dg N i t).a=(eD dg N j u).a:=by omega
 rw[<-a1,<-b1];unfold aE;rw[ha,h1,h2]
theorem yp{p o:Int}{dg:Nat->Int}{N R:Nat}(hx:aP p dg N R){D:Int}(hD:D<=16000){v:List (List Tm)}(hv:mI p o N (λ_=>200) v)(hh:j7 dg D v):∀n,n<=R->(fw dg N v n).Pairwise λa b=>a.k≠b.k
 |0,_=>List.Pairwise.nil
 |n+1,hn=>by
  simp only[fw];refine List.pairwise_append.2 ⟨yp hx hD hv hh n (by omega),?_,λa ha b hb=>?_⟩
  .rw[List.pairwise_map];have key:∀ts:List Tm,(∀t∈ts,t∈v.getD n [])->dQ p o N ts->ts.Pairwise λa b=>(eD dg N n a).k≠(eD dg N n b).k:=by
    intro ts;induction ts with
    |nil=>intro _ _;exact List.Pairwise.nil
    |cons t ts ih=>intro h hc;refine List.pairwise_cons.2 ⟨λu hu e=>?_,ih (λu hu=>h u (by simp[hu])) ⟨λx hx=>hc.len x (by simp[hx]),hc.falls.2,λx hx=>hc.coef x (by simp[hx])⟩⟩;have m1:=h t (by simp);have m2:=h u (by simp[hu]);have:=(yl hx hD (by omega) (by omega) ((hv.canon n).len t m1) ((hv.canon n).len u m2) (hv.nn n t m1) (hv.nn n u m2) (hh n t m1) (hh n u m2) e).2;exact ot hc.len hc.falls u hu this.symm
   exact key _ (λt ht=>ht) (hv.canon n)
  .obtain⟨i,t,hi,ht,rfl⟩:=sZ ha;obtain⟨u,hu,rfl⟩:=LC.1 hb;intro e;have:=(yl hx hD (by omega) (by omega) ((hv.canon i).len t ht) ((hv.canon n).len u hu) (hv.nn i t ht) (hv.nn n u hu) (hh i t ht) (hh n u hu) e).1;omega
theorem Eo{p o:Int}{dg:Nat->Int}{N R:Nat}(hx:aP p dg N R){D:Int}(hD:D<=16000){v:List (List Tm)}(hv:mI p o N (λ_=>200) v)(hh:j7 dg D v){fs:List Ft}(hp:fs.Perm (fw dg N v R))(hf:p8 fs):cP p dg N R D fs:=by
 have hne:fs.Pairwise λa b=>a.k≠b.k:=(hp.symm.pairwise_iff (fun {a b} h=>h.symm)).1 (yp hx hD hv hh R (Lc _));have hmem:∀t∈fs,∃i u,i<R/\u∈v.getD i []/\t=eD dg N i u:=λt ht=>sZ (hp.mem_iff.1 ht);refine⟨?_,λt ht=>?_,λt ht=>?_⟩
 .have:=List.Pairwise.and hf hne;exact this.imp fun {a b} h=>by omega
 .obtain⟨i,u,hi,hm,rfl⟩:=hmem t ht;have:=(hv.canon i).coef u hm;show 0<u.1/\u.1<p;omega
 .obtain⟨i,u,hi,hm,rfl⟩:=hmem t ht;have h:=(pZ hx ((hv.canon i).len u hm) (hv.nn i u hm) hi).1;rw[hh i u hm] at h;exact h
def eP(w:World)(u:Value):Prop:=∀b off n c,u=.slice (some ⟨b,off,none⟩) n c->∃af,w.heap[b]?=some (.cells af 95 (0,0))
theorem eP.same{w w':World}{u:Value}(h:eP w u)(hs:∀b:Nat,(∃af,w.heap[b]?=some (.cells af 95 (0,0)))->w'.heap[b]?=w.heap[b]?):eP w' u:=λb off n c e=>by obtain⟨af,h1⟩:=h b off n c e;exact⟨af,(hs b ⟨af,h1⟩).trans h1⟩
theorem eP.below{w w':World}{u:Value}(h:eP w u)(hb:Below w.heap.size w w'):eP w' u:=h.same λb ⟨af,h1⟩=>hb.block b (LS.1 h1).1
theorem Ep{p o:Int}{N R:Nat}(ds:List Int)(hx:aP p (λi=>ds.getD i 0) N R)(hdl:ds.length=R)(ob:Nat)(sv x:Value)(v:List (List Tm))(w:World)(hoc:lI w ob p N ds sv)(hl:v.length=R)(hr:∀f∈v,cQ p o N f)(hv:Vl w x v){D:Int}(hD:D<=16000)(hh:j7 (λi=>ds.getD i 0) D v):Calls prog 85 #[.pointer (some ⟨ob,0,none⟩),.int .i64 0,x] w λe w'=>∃u fs,e=.returned u/\(∃a c,u=.slice a fs.length c)/\Fv w' u fs/\cP p (λi=>ds.getD i 0) N R D fs/\fs.Perm (fw (λi=>ds.getD i 0) N v R)/\Below w.heap.size w w'/\eP w' u:=by
 have hR:=hx.r;have hp:=fq hx.pr;refine(Er ob p (az 1 N N 0) (az 1 N N 1) (az 1 N N 2) sv x ((List.range ds.length).map (ij λi=>ds.getD i 0)) v N w hoc.ord hoc.st (by simp;omega) (by omega) (λs hs=>?_) (iH 1 N 0) (iH 1 N 1) (iH 1 N 2) hx.n0 hx.n3 (λf hf=>?_) hv).mono ?_
 .obtain⟨i,hi,rfl⟩:=LC.1 hs;rw[List.mem_range] at hi;have:=hx.dg i (by omega);unfold ij;simp only at this⊢;omega
 .have h:=hr f hf;refine⟨h.len,λt ht=>⟨h.canon.len t ht,λx hxx=>?_,?_⟩⟩
  .have h1:=(h.bd t ht x hxx).1;have h2:=ta (λy hy=>(h.bd t ht y hy).1) x hxx;have h3:=h.deg t ht;omega
  .have:=h.canon.coef t ht;omega
 .rintro e w' ⟨u,fs,rfl,h1,h2,h3,h4,h9⟩;have hsl:∃a c,u=.slice a fs.length c:=by obtain⟨a,c,h5,_⟩:=h1;exact⟨a,c,h5⟩
  rw[hdl,hl,yk R (Lc _)] at h2;exact⟨u,fs,rfl,hsl,h1,Eo hx hD (Et hr) hh h2 h3,h2,h4,λb off n c e=>(h9 b (by rw[e];rfl)).2⟩
theorem cF.add{B:Nat}{w w2:World}{v v2:Value}{us:List Value}{rows:List (List Ft)}{u:Value}{f:List Ft}(h:cF B w v us rows)(hu:Fv w u f)(ho:w2.ownsRow B 92 1 v2 (rows.length+1) (us++[u]))(hg:w.grownBy w2 v.ownBlock)(hk:∀g,v2.ownBlock=some g->cz w2 g):cF B w2 v2 (us++[u]) (rows++[f]):=by
 have hf:ai (λk=>v.ownBlock=some k) w w2:=ai.of_grown hg λg e=>e;have hn:∀g,v.ownBlock=some g->bU jA w g:=λg hg=>mJ (h.kind g hg);refine⟨by simp[h.len],by simpa using ho,hk,λi hi=>?_⟩;by_cases hi2:i<rows.length
 .have e1:(us++[u]).getD i aB=us.getD i aB:=by rw[Lr,Lr,LQ (by rw[h.len];exact hi2)]
  have e2:(rows++[f]).getD i []=rows.getD i []:=by rw[Lr,Lr,LQ hi2]
  rw[e1,e2];exact iI hf hn (h.fvs i hi2)
 .have e:i=rows.length:=by simp at hi;omega
  subst e;have e1:(us++[u]).getD rows.length aB=u:=by rw[Lr,LW (by rw[h.len];exact Lc _),h.len];simp
  have e2:(rows++[f]).getD rows.length []=f:=by rw[Lr,LW (Lc _)];simp
  rw[e1,e2];exact iI hf hn hu
theorem yq{P:Program}{w:World}{ops:Array Oper}{rest:List Oper}{o:Oper}{a:Act}{Q:Exit->Act->World->Prop}(hgd:o.guard=none)(s x:Operand)(t:TypeId)(ho:o.op=.call {callee:=.builtin .append,args:=#[s,x],argTypes:=#[t,t]})(base:Nat)(e:TypeId)(i:TypeInfo)(ht:P.underlying t=some (.slice e))(hi:P.info? e=some i)(hz:i.zero=some (.slice none 0 0))(hsize:i.size=1)(hby:i.bytes=24)(v:Value)(n:Nat)(xs:List Value)(hs:a.eval s=v)(hown:w.ownsRow base e 1 v n xs)(hk:∀g,v.ownBlock=some g->cz w g)(ad:Addr)(c:Nat)(u:Value)(hu:∃a n c,u=.slice a n c)(hx:a.eval x=.slice (some ad) 1 c)(hnew:w.cell? ad=some u)(hn:n<=1200000000000)(hbase:base<=w.heap.size)(hK:∀v' w',w'.ownsRow base e 1 v' (n+1) (xs++[u])->w.grownBy w' v.ownBlock->(∀g,v'.ownBlock=some g->cz w' g)->wpList P ops Q rest (a.put o.dst v') w'):wpList P ops Q (o::rest) a w:=by
 refine wpList_plain hgd λK hK'=>?_;obtain⟨v',w',hr,h2,h3,h4⟩:=yr (P:=P) w base t o.type e i ht hi hz hsize hby v n xs hown hk ad c u hu (λj y hj=>by
  have hj0:j=0:=by apply Nat.eq_zero_of_not_pos;intro h;rw[Lu (by simp;omega)] at hj;simp at hj
  subst hj0;simp at hj;subst hj;exact hnew) hn hbase
 unfold Oper.wp execOp;simp only[ho,resolve,invoke,builtin,Sem.run_bind,Sem.run_pure,Result.andThen_ok,List.map_toArray,List.map_cons,List.map_nil,hs,hx,hr];exact hK' _ _ (hK v' w' h2 h3 h4)
theorem Eu{B:Nat}{w w2:World}{v u:Value}{n:Nat}{us:List Value}(ho:w.ownsRow B 92 1 v n us)(hg:w.grownBy w2 v.ownBlock)(h:∀x∈us,eP w x)(hu:eP w u):∀x∈us++[u],eP w2 x:=λx hx=>by
 have h1:eP w x:=by
  rcases Lv.1 hx with h1|h1
  .exact h x h1
  .rw[Lw] at h1;rw[h1];exact hu
 refine h1.same λb ⟨af,hc⟩=>hg.block b (LS.1 hc).1 λe=>?_;exact bp (T':=95) ho e.symm (by decide) af hc
structure j8(p:Int)(ds:List Int)(N R:Nat)(lss:List (List (List Tm)))(fls:List (List Ft)):Prop where
 len:fls.length=lss.length
 at_:∀i,i<lss.length->(fls.getD i []).Perm (fw (λi=>ds.getD i 0) N (lss.getD i []) R)/\∃D,D<=9/\cP p (λi=>ds.getD i 0) N R D (fls.getD i [])/\j7 (λi=>ds.getD i 0) D (lss.getD i [])
def bV(fls:List (List Ft)):List (List Ft):=fls.filter λf=>!f.isEmpty
theorem Ev{p o:Int}{N R:Nat}(ds:List Int)(hx:aP p (λi=>ds.getD i 0) N R)(hdl:ds.length=R)(w0 w:World)(mb ob:Nat)(sv lv:Value)(lss:List (List (List Tm)))(hc0:w.cell? ⟨mb,0,none⟩=some (.pointer (some ⟨ob,0,none⟩)))(hoc:lI w ob p N ds sv)(hs:Wl w lv lss)(hll:lss.length<=4)(hl:∀g∈lss,g.length=R)(hr:∀g∈lss,∀f∈g,cQ p o N f)(hh:∀g∈lss,∃D,D<=9/\j7 (λi=>ds.getD i 0) D g):Calls prog 56 #[.pointer (some ⟨mb,0,none⟩),lv] w λe w'=>∃v us fls,e=.returned v/\(∃a c,v=.slice a (bV fls).length c)/\cF w.heap.size w' v us (bV fls)/\j8 p ds N R lss fls/\Below w.heap.size w w'/\∀u∈us,eP w' u:=by
 obtain⟨i0,hi0,hz0,hz1,hz2⟩:=info_parts Tryz.infoFvL;have HI:=ac (Lg hi0 (Lg hz0 (Lg hz1 hz2)));clear hi0 hz0 hz1 hz2;have HX:=ac hx;have HOC:=ac hoc;have HS:=ac hs;have HL:=ac hl;have HR:=ac hr;have HH:=ac hh;obtain⟨la,lc,rfl,_⟩:=hs;have HC0:=ac hc0;clear hoc hl hr hh hx hc0;go_enter func56,ntmps56;go_wp2_with fail;go_loopw [5,11] (λs5 s11 wr=>∃(m:Nat)(us:List Value) (fls:List (List Ft)),m<=lss.length/\s11=.int .i64 m/\(∃a c,s5=.slice a (bV fls).length c)/\cF w.heap.size wr s5 us (bV fls)/\j8 p ds N R (lss.take m) fls/\Below w.heap.size w wr/\∀u∈us,eP wr u) (λ_ s11 _=>lss.length-(intOf s11).toNat);case atStart=>exact⟨0,[],[],Ll _,rfl,⟨none,0,rfl⟩,cF.nil _ _,⟨by simp,λi hi=>by simp at hi⟩,Lf _ _,λu hu=>by simp at hu⟩
 case round=>
  rename World=>wr;obtain⟨m,us,fls,hm,rfl,⟨va,vc,rfl⟩,hrw,hvl,hbr,hty⟩:=hrel;have HTY:=ac hty;clear hty;have HRW:=ac hrw;have HVL:=ac hvl;have HBR:=ac hbr;clear hrw hvl hbr;by_cases hm2:m<lss.length
  .obtain⟨b,off,xa,xc,rfl,hlt,c0,hvl⟩:=jB HS.o m hm2;have hmem:=ik lss m hm2;have HTK:Ma (lss.take (m+1)=lss.take m++[lss.getD m []]):=by show _=_;rw[List.take_add_one,Lr,Ls hm2];rfl
   generalize lss.getD m []=gg at c0 hvl hmem HTK;obtain⟨D,hD9,hhom⟩:=HH.o gg hmem;have d0:=ae c0 HBR.o;have d1:=ae HC0.o HBR.o;have HOV:=ac (Ep ds HX.o hdl ob sv (.slice xa gg.length xc) gg wr (HOC.o.below HBR.o) (HL.o gg hmem) (HR.o gg hmem) (hvl.below HBR.o) (by omega) hhom);have HHM:=ac hhom;clear hvl hmem hhom c0;go_upto_region 6 with (go_at_call 85;refine HOV.o.mono ?_;rintro e w2 ⟨u2,fs2,rfl,⟨ua,uc,hu2⟩,q1,q2,q3,q4,q5⟩;subst hu2;have HF2:=ac q1;have HVC:=ac q2;have HPM:=ac q3;have HB2:=ac q4;have HTU:=ac q5;clear q1 q2 q3 q4 q5);have HVN:Ma (j8 p ds N R (lss.take (m+1)) (fls++[fs2])):=by
    have h1:=HVL.o.len;have hl2:(lss.take m).length=m:=by rw[LU];omega
    rw[hl2] at h1;refine⟨by rw[HTK.o];simp[HVL.o.len],λi hi=>?_⟩;rw[HTK.o] at hi⊢;by_cases hi2:i<m
    .have h2:=HVL.o.at_ i (by omega);rw[Lr,LQ (by omega),<-Lr,Lr (l:=lss.take m++[gg]),LQ (by omega),<-Lr];exact h2
    .have e:i=m:=by simp at hi;omega
     subst e;have e1:(fls++[fs2]).getD i []=fs2:=by rw[Lr,LW (by omega),h1];simp
     have e2:(lss.take i++[gg]).getD i []=gg:=by rw[Lr,LW (by omega),hl2];simp
     rw[e1,e2];exact⟨HPM.o,D,hD9,HVC.o,HHM.o⟩
   have HB02:=ac (HBR.o.trans (HB2.o.mono HBR.o.size));have HRW2:=ac (HRW.o.next HB2.o);have HLN:Ma ((bV fls).length<=4):=by have h1:(bV fls).length<=fls.length:=LX _ _;have h2:=HVL.o.len;rw[LU] at h2;show _<=_;omega
   have HTY2:Ma (∀u∈us,eP w2 u):=λu hu=>(HTY.o u hu).below HB2.o;clear HRW HBR d0 d1 HOV HTY;cases fs2 with
   |nil=>
    have HNE:Ma (bV (fls++[[]])=bV fls):=by show _=_;simp[bV]
    go_wp2;go_roundw;case rel=>exact⟨m+1,us,fls++[[]],by omega,by go_num,⟨va,vc,by rw[HNE.o]⟩,by rw[HNE.o];exact HRW2.o,HVN.o,HB02.o,HTY2.o⟩
    case measure=>simp[intOf];omega
   |cons t ts=>
    have HNE:Ma (bV (fls++[t::ts])=bV fls++[t::ts]):=by show _=_;simp[bV]
    have HRW3:=ac (HRW2.o.next (aj (A:=.cells #[.slice ua (t::ts).length uc] 92)));have HF3:=ac (HF2.o.below (aj (A:=.cells #[.slice ua (t::ts).length uc] 92)));go_wp2_with (at_builtin;refine yq rfl (.tmp 24) (.tmp 26) 87 rfl w.heap.size 92 i0 underlying87 HI.o.1 HI.o.2.1 HI.o.2.2.1 HI.o.2.2.2 _ (bV fls).length us rfl HRW3.o.own HRW3.o.kind ⟨w2.heap.size,0,none⟩ 1 (.slice ua (t::ts).length uc) ⟨_,_,_,rfl⟩ rfl (by simp[go_sem]) (by have:=HLN.o;omega) (by have:=HB02.o.size;simp;omega) ?_;intro v4 w4 r1 r2 r3;obtain⟨va4,vc4,hv4⟩:=fu r1;have HR4:=ac (HRW3.o.add HF3.o r1 r2 r3);have HT4:=ac (Eu HRW3.o.own r2 (λu hu=>(HTY2.o u hu).below aj) (HTU.o.below aj));have HB4:=ac (i8 HRW3.o.own (HB02.o.trans (aj.mono HB02.o.size)) r2 (Lc _));subst hv4;clear r1 r2 r3);go_roundw;case rel=>exact⟨m+1,_,fls++[t::ts],by omega,by go_num,⟨va4,vc4,by rw[HNE.o];simp⟩,by rw[HNE.o];exact HR4.o,HVN.o,HB4.o,HT4.o⟩
    case measure=>simp[intOf];omega
  .have e:m=lss.length:=by omega
   subst e;go_wp2;go_ret;have h:=HVL.o;rw[Lz (Lc _)] at h;exact⟨_,us,fls,rfl,⟨_,_,rfl⟩,HRW.o,h,HBR.o,HTY.o⟩
end Go.Proofs.YteimdcndjjclnaaGreat
namespace Go.Proofs.YteimdcndjjclnaaGreat
open Go.Proofs.Tryz
set_option linter.all false
theorem td:∀{n:Nat}{d:Int}{m:List Int},0<n->0<=d->m.length=n->(∀x∈m,0<=x)->ah m=d->m∈dK n d
 |1,d,m,_,hd,hl,hn,hs=>by
  match m,hl with
  |[a],_=>unfold dK;rw[LH (by omega)];simp[ah] at hs;simp[jV];omega
 |n+2,d,m,_,hd,hl,hn,hs=>by
  match m,hl with
  |a::r,hl=>
   have h1:=hn a (by simp);have hr0:0<=ah r:=p9 λx hx=>hn x (by simp[hx]);simp only[ah] at hs;have h2:=td (n:=n+1) (d:=d-a) (m:=r) (by omega) (by omega) (by simpa using hl) (λx hx=>hn x (by simp[hx])) (by omega);rw[<-pM n hd];unfold mr;rw[L7];refine⟨a.toNat,by rw[List.mem_range];omega,LC.2 ⟨r,?_,?_⟩⟩
   .rw[show ((a.toNat:Nat):Int)=a by omega];exact h2
   .rw[show ((a.toNat:Nat):Int)=a by omega]
theorem th{α β:Type}{f:α->List β}(g:β->α)(hg:∀a,∀b∈f a,g b=a)(hf:∀a,(f a).Nodup){l:List α}(hl:l.Nodup):(l.flatMap f).Nodup:=Cn.sn g hg hf hl
theorem yt:∀(n:Nat)(d:Int),(dK n d).Nodup
 |0,d=>by unfold dK;split<;>simp[jV]
 |1,d=>by unfold dK;split<;>simp[jV]
 |n+2,d=>by
  by_cases h:d<0
  .rw[qa h];simp
  .rw[<-pM n (by omega)];unfold mr;refine th (λr=>(r.getD 0 0).toNat) (λa b hb=>?_) (λa=>?_) List.nodup_range
   .obtain⟨r,_,rfl⟩:=LC.1 hb;simp
   .exact List.Pairwise.map _ (λu v huv e=>huv (by simpa using e)) (yt (n+1) _)
theorem yu{N:Nat}(h1:0<N)(h3:N<=3){m:List Int}(hl:m.length=N)(hn:∀x∈m,0<=x):((eQ m).1+(eQ m).2.1+(eQ m).2.2:Nat)=(ah m).toNat/\nM N (eQ m):=by
 have hN:N=1\/N=2\/N=3:=by omega
 rcases hN with rfl|rfl|rfl
 .match m,hl with
  |[a],_=>have:=hn a (by simp);simp[eQ,ah,nM]
 .match m,hl with
  |[a,b],_=>
   have:=hn a (by simp);have:=hn b (by simp);refine⟨?_,?_⟩
   .simp[eQ,ah];omega
   .simp[eQ,nM]
 .match m,hl with
  |[a,b,c],_=>
   have:=hn a (by simp);have:=hn b (by simp);have:=hn c (by simp);refine⟨?_,?_⟩
   .simp[eQ,ah];omega
   .simp[nM]
def fW(N:Nat)(y:Gb.Mo):List Int:=[(y.1:Int),(y.2.1:Int),(y.2.2:Int)].take N
theorem yv{N:Nat}(h1:0<N)(h3:N<=3){y:Gb.Mo}(hy:nM N y):(fW N y).length=N/\(∀x∈fW N y,0<=x)/\eQ (fW N y)=y/\ah (fW N y)=((y.1+y.2.1+y.2.2:Nat):Int):=by
 obtain⟨a,b,c⟩:=y;unfold nM at hy;simp only at hy;have hN:N=1\/N=2\/N=3:=by omega
 rcases hN with rfl|rfl|rfl
 .have h2:=hy.1 (by omega);have h4:=hy.2 (by omega);subst h2 h4;simp[fW,eQ,ah]
 .have h4:=hy.2 (by omega);subst h4;refine⟨by simp[fW],by simp[fW],by simp[fW,eQ],?_⟩;simp[fW,ah]
 .refine⟨by simp[fW],by simp[fW],by simp[fW,eQ],?_⟩;simp[fW,ah];omega
theorem ti(R i:Nat)(m:List Int):eG R i m=(R-1-i,eQ m):=rfl
def fX(N R:Nat)(ds:List Int)(d:Int):List Gb.Te:=(dj N ds d R).map λc=>eG R c.1 c.2
theorem lJ{N:Nat}{ds:List Int}{d:Int}{c:Nat×List Int}:∀k,c∈dj N ds d k↔c.1<k/\c.2∈dK N (d-ds.getD c.1 0)
 |0=>by simp[dj]
 |k+1=>by
  simp only[dj,Lv,lJ k,LC];constructor
  .rintro (⟨h1,h2⟩|⟨m,hm,rfl⟩)
   .exact⟨by omega,h2⟩
   .exact⟨by simp,hm⟩
  .rintro ⟨h1,h2⟩;by_cases h:c.1<k
   .exact L0 ⟨h,h2⟩
   .have e:c.1=k:=by omega
    exact L3 ⟨c.2,by rw[<-e];exact h2,by rw[<-e]⟩
theorem yw(N:Nat)(ds:List Int)(d:Int):∀k,(dj N ds d k).Nodup
 |0=>by simp[dj]
 |k+1=>by simp only[dj];refine List.nodup_append.2 ⟨yw N ds d k,List.Pairwise.map _ (λu v h e=>h (by simpa using e)) (yt N _),λa ha b hb e=>?_⟩;obtain⟨m,_,rfl⟩:=LC.1 hb;have:=((lJ k).1 ha).1;rw[e] at this;simp at this
theorem yx{N R:Nat}(h1:0<N)(h3:N<=3){ds:List Int}(h0:∀i,0<=ds.getD i 0){d:Int}(hd:0<=d)(s:Gb.Te):s∈fX N R ds d↔s.1<R/\aL (λi=>ds.getD i 0) R s=d.toNat/\nT N s:=by
 unfold fX;rw[LC];constructor
 .rintro ⟨c,hc,rfl⟩;obtain⟨hk,hm⟩:=(lJ R).1 hc;have hx0:0<=d-ds.getD c.1 0:=by apply Int.not_lt.1;intro h;rw[qa h] at hm;simp at hm
  have hok:=qd N _ hx0 _ hm;have hs:=yu h1 h3 (oc N _ _ hm) (λx hx=>(hok.1 x hx).1);have hz:=h0 c.1;have hsm:=hok.2 h1;refine⟨by rw[ti];simp only;omega,?_,hs.2⟩;rw[ti];unfold aL dR Gb.bK;simp only;rw[show R-1-(R-1-c.1)=c.1 by omega];omega
 .rintro ⟨h4,h5,h6⟩;obtain⟨i,y⟩:=s;simp only at h4;have hy:nM N y:=h6;obtain⟨l1,l2,l3,l4⟩:=yv h1 h3 hy;unfold aL dR Gb.bK at h5;simp only at h5;have hz:=h0 (R-1-i);refine⟨(R-1-i,fW N y),(lJ R).2 ⟨by simp only;omega,td h1 ?_ l1 l2 ?_⟩,?_⟩
  .simp only;omega
  .simp only;rw[l4];omega
  .rw[ti,l3];show (R-1-(R-1-i),y)=(i,y);rw[show R-1-(R-1-i)=i by omega]
theorem yA{N R:Nat}(h1:0<N)(h3:N<=3){ds:List Int}{d:Int}:(fX N R ds d).Nodup:=by
 unfold fX;refine List.pairwise_map.2 ((yw N ds d R).imp_of_mem fun {a b} ha hb hne e=>hne ?_);obtain⟨k1,m1⟩:=(lJ R).1 ha;obtain⟨k2,m2⟩:=(lJ R).1 hb;have ok:∀{c:Nat×List Int},c.2∈dK N (d-ds.getD c.1 0)->c.2.length=N/\∀x∈c.2,0<=x:=fun {c} hm=>by
  have hx0:0<=d-ds.getD c.1 0:=by apply Int.not_lt.1;intro h;rw[qa h] at hm;simp at hm
  exact⟨oc N _ _ hm,λx hx=>((qd N _ hx0 _ hm).1 x hx).1⟩
 have hi:=tj h3 k1 k2 (ok m1).1 (ok m2).1 (ok m1).2 (ok m2).2 e;exact Prod.ext hi.1 hi.2
end Go.Proofs.YteimdcndjjclnaaGreat
namespace Go.Proofs.YteimdcndjjclnaaGreat
set_option linter.all false
open Go.Proofs.Tryz Go.RowKit Go.Sort
def aQ(ms:List Mm):Nat->List Mm
 |0=>[]
 |k+1=>aQ ms k++aS ms k
theorem ou{ms:List Mm}{B:Nat}(h:∀pl:Nat,(aS ms pl).length<=B):∀R:Nat,(aQ ms R).length<=R*B
 |0=>by simp[aQ]
 |R+1=>by have h1:=ou h R;have h2:=h R;simp only[aQ,Lx];rw[Nat.add_mul];omega
theorem tn{ms:List Mm}:∀{R:Nat}{x:Mm},x∈aQ ms R->x∈ms
 |0,x,h=>by simp[aQ] at h
 |R+1,x,h=>by
  simp only[aQ,Lv] at h;rcases h with h|h
  .exact tn h
  .exact(LR.1 h).1
theorem Ew{w:World}{B B':Nat}{T:TypeId}{s:Nat}{v:Value}{n:Nat}{xs:List Value}(h:w.ownsRow B' T s v n xs)(hB:B<=B'):w.ownsRow B T s v n xs:=by
 obtain⟨hl,h0|⟨g,cap,af,hv,hb,r⟩⟩:=h
 .exact⟨hl,.inl h0⟩
 .exact⟨hl,.inr ⟨g,cap,af,hv,by omega,r⟩⟩
theorem Ey(p:Int)(B:Nat)(w:World)(R g:Nat)(us:List Value)(ms:List Mm)(h:eS p B w R g us ms)(hR:R<=3)(hml:∀pl:Nat,(aS ms pl).length<=407253):Calls prog 89 #[.slice (some ⟨g,0,none⟩) R R] w λe w'=>∃a c,e=.returned (.slice a (aQ ms R).length c)/\w'.ownsRow w.heap.size 124 1 (.slice a (aQ ms R).length c) (aQ ms R).length ((aQ ms R).map eH)/\Below w.heap.size w w':=by
 have H:=ac h;have HLB:Ma (∀k,k<=R->(aQ ms k).length<=1221759):=λk hk=>by have h1:=ou hml k;have h2:=L5 407253 (show k<=3 by omega);omega
 have HGR:=ac (D7 (aQ ms R).length (by have:=HLB.o R (Lc _);omega));clear h;go_enter func89,ntmps89;go_wp2_with fail;go_loopw [3,11] (λs3 s11 wr=>∃k:Nat,k<=R/\s11=.int .i64 k/\s3=.int .i64 (aQ ms k).length/\wr=w) (λ_ s11 _=>R-(intOf s11).toNat);case atStart=>exact⟨0,Ll _,rfl,rfl,rfl⟩
 case round=>
  rename World=>wr;obtain⟨k,hk,rfl,rfl,hw⟩:=hrel;subst hw;by_cases hk2:k<R
  .obtain⟨c0,_⟩:=H.o.at k hk2;obtain⟨ra,rc,hra⟩:=fu (H.o.row k hk2);rw[hra] at c0;have HL:Ma ((aQ ms (k+1)).length=(aQ ms k).length+(aS ms k).length):=by show _=_;simp[aQ]
   have hb1:=HLB.o k hk;have hb2:=HLB.o (k+1) hk2;rw[HL.o] at hb2;generalize (aS ms k).length=n1 at c0 HL hb2;generalize hn0:(aQ ms k).length=n0 at HL hb1 hb2;have hnn:¬((n0:Int)+(n1:Int))<0:=by omega
   go_wp2;go_roundw;case rel=>exact⟨k+1,by omega,by go_num,by rw[HL.o];go_num,by simp⟩
   case measure=>simp[intOf];omega
  .have e:k=R:=by omega
   subst e;generalize hnK:(aQ ms k).length=nK at HGR;have HNK:=ac hnK;clear hnK;go_wp2_with (go_at_call 121;refine(HGR.o _).mono ?_;rintro e w1 ⟨ga,gc,rfl,q1,q2⟩;have HO1:=ac q1;have HB1:=ac q2;clear q1 q2);go_loopw [6,27] (λs6 s27 w2=>∃(m:Nat)(a:Option Addr)(c:Nat),m<=k/\s27=.int .i64 m/\s6=.slice a (aQ ms m).length c/\w2.ownsRow wr.heap.size 124 1 (.slice a (aQ ms m).length c) (aQ ms m).length ((aQ ms m).map eH)/\Below wr.heap.size wr w2) (λ_ s27 _=>k-(intOf s27).toNat);case atStart=>exact⟨0,ga,gc,Ll _,rfl,rfl,HO1.o,HB1.o⟩
   case round=>
    rename World=>w2;obtain⟨m,a,c,hm,rfl,rfl,ho,hb⟩:=hrel;have HO:=ac ho;have HB:=ac hb;clear ho hb HO1 HB1;by_cases hm2:m<k
    .obtain⟨c0,_⟩:=H.o.at m hm2;have hrow:=H.o.row m hm2;obtain⟨ra,rc,hra⟩:=fu hrow;rw[hra] at c0 hrow;have d0:=ae c0 HB.o;have HROW:=ac (aK hrow HB.o);have HL:Ma ((aQ ms (m+1)).length=(aQ ms m).length+(aS ms m).length):=by show _=_;simp[aQ]
     have HMP:Ma ((aQ ms (m+1)).map eH=(aQ ms m).map eH++(aS ms m).map eH):=by show _=_;simp[aQ]
     have hb2:=HLB.o (m+1) hm2;rw[HL.o] at hb2;have HNEW:Ma (0<(aS ms m).length->∃ad',ra=some ad'/\∀j u,((aS ms m).map eH)[j]?=some u->w2.cell? (ad'.add j)=some u):=λhp=>by obtain⟨g2,cap2,e2,_,_,_⟩:=oq HROW.o (by simpa using hp);simp only[LB,true_and] at e2;obtain⟨rfl,_⟩:=e2;exact⟨_,rfl,λj u hj=>HROW.o.cells (g:=g2) rfl j u hj⟩
     clear hrow c0;go_wp2_with (at_builtin;refine sX rfl (.tmp 31) (.tmp 32) 130 rfl wr.heap.size 124 _ 1 8 underlying130 Tryz.infoPm rfl (by decide) _ (aQ ms m).length _ rfl HO.o ra (aS ms m).length rc ((aS ms m).map eH) (by simp) rfl HNEW.o (λu hu=>by obtain⟨x,_,rfl⟩:=LC.1 hu;rfl) (by unfold maxLen;omega) (by omega) HB.o.size ?_;intro v3 w3 r1 r2;have HO3:=ac r1;have HB3:=ac (i8 HO.o HB.o r2 (Lc _));obtain⟨va3,vc3,hv3⟩:=fu r1;subst hv3;clear r1 r2);go_roundw;case rel=>refine⟨m+1,va3,vc3,by omega,by go_num,by rw[HL.o],?_,HB3.o⟩;rw[HL.o,HMP.o];exact HO3.o
     case measure=>simp[intOf];omega
    .have e:m=k:=by omega
     subst e;go_wp2;go_ret;exact⟨_,_,rfl,HO.o,HB.o⟩
theorem Ez(p:Int)(B:Nat)(w:World)(mb ob R g:Nat)(dv pv:Value)(us:List Value)(ms:List Mm)(qs:List Pq)(h:bj p B w mb ob R g dv pv us ms qs)(hR:R<=3)(hml:∀pl:Nat,(aS ms pl).length<=407253)(hng:∀x∈ms,x.gone=false):Calls prog 58 #[.pointer (some ⟨mb,0,none⟩)] w λe w'=>∃v,e=.returned v/\w'.ownsRow w.heap.size 95 7 v ((aQ ms R).map Mm.L).length (aC ((aQ ms R).map Mm.L))/\Below w.heap.size w w':=by
 obtain⟨i0,hi,hz0,hz1,hz2⟩:=info_parts Tryz.infoFt;have HI:=ac (Lg hi (Lg hz0 (Lg hz1 hz2)));clear hi hz0 hz1 hz2;have H:=ac h;have HNG:=ac hng;have c2:=h.cells.2.2.1;have HCM:=ac (Ey p B w R g us ms h.mks hR hml);have HLB:Ma ((aQ ms R).length<=1221759):=by have h1:=ou hml R;have h2:=L5 407253 hR;show _<=_;omega
 clear h hng;go_enter func58,ntmps58;go_wp2_with (go_at_call 89;refine HCM.o.mono ?_;rintro e w1 ⟨ca,cc,rfl,q1,q2⟩;have HO1:=ac q1;have HB1:=ac q2;clear q1 q2);generalize hcl:aQ ms R=cl at HO1 HLB;have HCL:=ac hcl;clear hcl;go_loopw [3,12] (λs3 s12 wr=>∃(m:Nat),m<=cl.length/\s12=.int .i64 m/\(∃a c,s3=.slice a m c)/\wr.ownsRow w1.heap.size 95 7 s3 ((cl.take m).map Mm.L).length (aC ((cl.take m).map Mm.L))/\Below w1.heap.size w1 wr) (λ_ s12 _=>cl.length-(intOf s12).toNat);case atStart=>exact⟨0,Ll _,rfl,⟨none,0,rfl⟩,by simp;exact World.ownsRow_nil _ _ _ _,Lf _ _⟩
 case round=>
  rename World=>wr;obtain⟨m,hm,rfl,⟨va,vc,rfl⟩,ho,hb⟩:=hrel;have HO:=ac ho;have HB:=ac hb;clear ho hb;by_cases hm2:m<cl.length
  .have HB01:=ac (HB1.o.trans (HB.o.mono HB1.o.size));obtain⟨gg,e1,_,_,k1⟩:=sF HO1.o m hm2;subst e1;rw[List.getElem?_map,Ls hm2] at k1;simp only[Option.map_some] at k1;have d0:=ae k1 HB.o;have hmem:cl[m]∈ms:=by
    have h9:cl[m]∈aQ ms R:=by rw[HCL.o];exact Lo hm2
    exact tn h9
   have hmb:=(H.o.next HB01.o).mks.mem _ hmem;have hgo:=HNG.o _ hmem;obtain⟨f0,f1,f2,f3,f4,f5,f6⟩:=hmb.mbr.div.cells;have fg:=hmb.mbr.gone;rw[hgo] at fg;simp only[Ly] at f0 f1 f2 f3 f4 f5 f6;have HTK:Ma ((cl.take (m+1)).map Mm.L=(cl.take m).map Mm.L++[cl[m].L]):=by show _=_;rw[List.take_add_one,Ls hm2,LO];rfl
   have hlb:=HLB.o;unfold eH at d0;generalize cl[m]=x at d0 f0 f1 f2 f3 f4 f5 f6 fg HTK;clear hmb hgo hmem k1;have HLM:Ma (((cl.take m).map Mm.L).length=m):=by show _=_;rw[LD,LU];omega
   have HBN:=ac (HB.o.trans ((aj (w:=wr) (A:=.cells #[.int .i64 x.L.k,.int .u16 x.L.a,.int .u16 x.L.b,.int .u16 x.L.d,.int .u16 x.L.z,.int .u8 x.L.pl,.int .u8 x.L.c] 95)).mono HB.o.size));have HO2:=ac (aK HO.o (aj (A:=.cells #[.int .i64 x.L.k,.int .u16 x.L.a,.int .u16 x.L.b,.int .u16 x.L.d,.int .u16 x.L.z,.int .u8 x.L.pl,.int .u8 x.L.c] 95)));have HNW:Ma (∀j y,(aw x.L)[j]?=some y->(wr.alloc (.cells #[.int .i64 x.L.k,.int .u16 x.L.a,.int .u16 x.L.b,.int .u16 x.L.d,.int .u16 x.L.z,.int .u8 x.L.pl,.int .u8 x.L.c] 95)).cell? ((⟨wr.heap.size,0,none⟩:Addr).add j)=some y):=kM wr x.L _;go_wp2_with (at_builtin;refine yB rfl (.tmp 21) (.tmp 27) 92 rfl w1.heap.size 95 i0 _ underlying92 HI.o.1 HI.o.2.1 HI.o.2.2.1 HI.o.2.2.2 rfl _ ((cl.take m).map Mm.L) rfl HO2.o x.L ⟨wr.heap.size,0,none⟩ 1 rfl HNW.o (by have:=HLM.o;have:=HLB.o;omega) HBN.o.size ?_;intro v3 w3 r1 r2;have HO3:=ac r1;have HB3:=ac (i8 HO2.o HBN.o r2 (Lc _));obtain⟨va3,vc3,hv3⟩:=fu r1;have HV3:=ac hv3;rw[Lx,HLM.o] at hv3;subst hv3;clear r1 r2);go_roundw;case rel=>refine⟨m+1,by omega,by go_num,⟨va3,vc3,rfl⟩,?_,HB3.o⟩;rw[HTK.o];exact HO3.o
   case measure=>simp[intOf];omega
  .have e:m=cl.length:=by omega
   subst e;go_wp2;go_ret;refine⟨_,rfl,?_,HB1.o.trans (HB.o.mono HB1.o.size)⟩;have h:=HO.o;rw[Lz (Lc _)] at h;rw[HCL.o];exact Ew h HB1.o.size
end Go.Proofs.YteimdcndjjclnaaGreat
