/- Does a sum leave. -/
import Derived.Test.YtjkalahhpobefaaGreatKQ
set_option maxHeartbeats 2000000
set_option maxRecDepth 100000
namespace Go.Proofs.YtjkalahhpobefaaGreat
set_option linter.all false
open Go.Proofs.Tryz Go.RowKit
def ef(ab:Nat):PK:=PM ab 1 1
variable{b:Bool}{ab n0:Nat}{w:PJ}
theorem IE(h:w.ownsRow n0 4 1 (ef ab) 1 [.bool b]):bU io w ab:=by
 rcases h.2 with ⟨h1,_⟩|⟨g2,cap,ag,h1,_,hh,_,_,hcs,htake⟩
 .simp[ef] at h1
 .simp only[ef,OQ,OP,Addr.mk.injEq,and_true,true_and] at h1;obtain⟨rfl,rfl⟩:=h1;refine kZ hh λu hu=>?_;have e:ag.toList=[.bool b]:=by rw[<-htake,OO (by rw[Array.length_toList,hcs];omega)]
  rw[e,OL] at hu;subst hu;intro x e;simp at e
variable{rows:PC}
theorem aT.far1{w':PJ}{sb ob:Nat}{rw:PK}{us:PH}(h:aT n0 w sb ob rw us rows)(ho:w.ownsRow n0 4 1 (ef ab) 1 [.bool b])(hf:aj (λk=>k=ab) w w'):aT n0 w' sb ob rw us rows:=by
 have hT:∀{T:TypeId},4≠T->∀k,k=ab->cq w T k:=λhT k e=>by subst e;exact bj ho rfl hT
 refine⟨dB hf h.box (hT (by decide)),hf.kdb h.kind h.lt.2 λe=>?_,h.rws.frm hf (λk e=>by subst e;exact IE ho) λk hk e=>?_⟩
 .obtain⟨ag,e2⟩:=cF h.box (g:=sb) rfl;exact hT (T:=176) (by decide) sb e ag e2
 .obtain⟨ag,e2⟩:=cF h.rws.own hk;exact hT (T:=79) (by decide) k e ag e2
variable{t:Ft}
theorem rN{ts:PB}(h:Dn (t::ts)):ao t.k (t::ts)=t.c:=by simp only[ao,OW];rw[rO λu hu=>by have:=h.head u hu;omega];omega
theorem vO{p:Int}:∀{fs acc:PB},Dn fs->(∀t∈fs,0<t.c/\t.c<p)->Dn acc->(∀t∈acc,0<t.c/\t.c<p)->(∀u∈acc,∃v∈fs,eC u v)->(∀k,p∣ao k acc-ao k fs)->acc=fs
 |[],[],_,_,_,_,_,_=>rfl
 |[],u::acc,_,_,_,_,hg,_=>by obtain⟨v,hv,_⟩:=hg u (by simp);simp at hv
 |t::fs,[],hd,hc,_,_,_,hk=>by have h:=hk t.k;rw[rN hd] at h;have c:=hc t (by simp);simp only[ao] at h;have:=Int.le_of_dvd (by omega) (Int.dvd_neg.2 h);omega
 |t::fs,u::acc,hd,hc,hd2,hc2,hg,hk=>by
  obtain⟨v,hv,ha⟩:=hg u (by simp);have hle:=hd.le v hv;have hkk:=hk t.k;have c1:=hc t (by simp);have c2:=hc2 u (by simp);rw[rN hd] at hkk;have huk:u.k=t.k:=by
   apply O3;intro hne;have hlt:u.k<t.k:=by have:=ha.1;omega
   rw[rO λx hx=>by have:=hd2.le x hx;omega] at hkk;have:=Int.le_of_dvd (by omega) (Int.dvd_neg.2 hkk);omega
  have hvt:v=t:=by
   rcases OY.1 hv with rfl|hv
   .rfl
   .have:=hd.head v hv;have:=ha.1;omega
  subst hvt;have hcc:u.c=v.c:=by
   rw[<-huk,rN hd2] at hkk;obtain⟨z,hz⟩:=hkk;have hz0:z=0:=by
    have h1:z<1:=by apply Int.lt_of_not_ge;intro h;have:p*1<=p*z:=Int.mul_le_mul_of_nonneg_left h (by omega);omega
    have h2:-1<z:=by apply Int.lt_of_not_ge;intro h;have:p*z<=p*(-1):=Int.mul_le_mul_of_nonneg_left h (by omega);omega
    omega
   rw[hz0] at hz;omega
  have hut:u=v:=by obtain⟨a1,a2,a3,a4,a5,a6⟩:=ha;cases u;cases v;simp only[Ft.mk.injEq];exact⟨a1,a2,a3,a4,a5,a6,hcc⟩
  subst hut;rw[vO hd.tail (λx hx=>hc x (by simp[hx])) hd2.tail (λx hx=>hc2 x (by simp[hx])) (λx hx=>?_) (λk=>?_)]
  .obtain⟨w,hw,hb⟩:=hg x (by simp[hx]);rcases OY.1 hw with rfl|hw
   .have:=hd2.head x hx;have:=hb.1;omega
   .exact⟨w,hw,hb⟩
  .have h:=hk k;simp only[ao] at h;have e:(if u.k=k then u.c else 0)+ao k acc-((if u.k=k then u.c else 0)+ao k fs)=ao k acc-ao k fs:=by omega
   rw[e] at h;exact h
structure jx(p:Int)(fs:PB)(rows:PC)(acc:PB):Prop where
 dn:Dn acc
 co:∀t∈acc,0<t.c/\t.c<p
 gd:∀u∈acc,∃v∈fs,eC u v
 lt:∀a∈acc,∀r∈rows,∀u∈r,u.k<a.k
 cn:∀k,p∣ao k acc+ao k rows.flatten-ao k fs
def ik(fs:PB)(u:Ft):Prop:=∃v∈fs,eC u v
variable{fs:PB}
theorem ik.alk:∀x t,eC x t->ik fs t->ik fs x:=λx t h ⟨v,hv,k⟩=>⟨v,hv,h.1.trans k.1,h.2.1.trans k.2.1,h.2.2.1.trans k.2.2.1,h.2.2.2.1.trans k.2.2.2.1,h.2.2.2.2.1.trans k.2.2.2.2.1,h.2.2.2.2.2.trans k.2.2.2.2.2⟩
variable{p:Int}
theorem jx.start(h:∀k,p∣ao k rows.flatten-ao k fs):jx p fs rows []:=
 ⟨List.Pairwise.nil,λt ht=>by simp at ht,λt ht=>by simp at ht,λt ht=>by simp at ht,λk=>by have:=h k;simp only[ao];rw[Int.zero_add];exact this⟩
theorem AJ{a b c d e:Int}(h1:p∣a+b-c)(h2:p∣b-(d+e)):p∣a+e+d-c:=by obtain⟨x,hx⟩:=h1;obtain⟨y,hy⟩:=h2;exact⟨x-y,by rw[Int.mul_sub];omega⟩
variable{acc:PB}{rows2:PC}
theorem jx.next(hp:2<=p)(h:jx p fs rows acc)(hr:aG p (ik fs) rows)(hn:Nx p rows (some t) rows2):jx p fs rows2 (acc++[t])/\aG p (ik fs) rows2/\ik fs t/\0<t.c/\t.c<p:=by
 have hK:∀a∈acc,t.k<a.k:=λa ha=>by have hs:=Nx.spec hp (G:=λu=>ik fs u/\u.k<a.k) (λx t hx hg=>⟨ik.alk x t hx hg.1,by rw[hx.1];exact hg.2⟩) hn (ry hr (h.lt a ha));exact hs.2.2.1.2
 obtain⟨s1,s2,s3,s4,s5,s6,s7⟩:=Nx.spec hp ik.alk hn hr;refine⟨⟨?_,λx hx=>?_,λx hx=>?_,λa ha r hr u hu=>?_,λk=>?_⟩,s1,s3,s4,s5⟩
 .unfold Dn;rw[List.pairwise_append];exact⟨h.dn,by simp,λa ha b hb=>by simp at hb;subst hb;exact hK a ha⟩
 .rcases OK.1 hx with hx|hx
  .exact h.co x hx
  .simp at hx;subst hx;exact⟨s4,s5⟩
 .rcases OK.1 hx with hx|hx
  .exact h.gd x hx
  .simp at hx;subst hx;exact s3
 .rcases OK.1 ha with ha|ha
  .have h1:=s6 r hr u hu;have h2:=hK a ha;omega
  .simp at ha;subst ha;exact s6 r hr u hu
 .rw[iY];have e:ao k [t]=if k=t.k then t.c else 0:=by
   simp only[ao];by_cases hk:k=t.k
   .simp[hk]
   .rw[OV hk,OV λe=>hk e.symm];omega
  rw[e];exact AJ (h.cn k) (s7 k)
theorem jx.stop(hp:2<=p)(hd:Dn fs)(hc:∀t∈fs,0<t.c/\t.c<p)(h:jx p fs rows acc)(hr:aG p (ik fs) rows)(hn:Nx p rows none rows2):acc=fs:=by obtain⟨_,_,s3⟩:=Nx.spec hp ik.alk hn hr;refine vO hd hc h.dn h.co h.gd λk=>?_;obtain⟨x,hx⟩:=h.cn k;obtain⟨y,hy⟩:=s3 k;exact⟨x-y,by rw[Int.mul_sub];omega⟩
theorem vP:∀(fs:PB)(q r:Nat)(h:q<fs.length),r<7->(aA fs)[q*7+r]?=(aB fs[q])[r]?
 |[],_,_,h,_=>by simp at h
 |t::fs,0,r,_,hr=>by rw[ja,Nat.zero_mul,ON,O4 (by simpa [aB] using hr)];rfl
 |t::fs,q+1,r,h,hr=>by
  rw[ja,O9 (by simp[aB];omega)];have e:(q+1)*7+r-(aB t).length=q*7+r:=by simp[aB];omega
  rw[e];exact vP fs q r (by simpa using h) hr
theorem IF(f:PB)(q:Nat)(h:q<f.length):(aA f)[q*7]?=some (PO (f[q]).k):=vP f q 0 h (by omega)
theorem IG(f:PB)(q:Nat)(h:q<f.length):(aA f)[q*7+6]?=some (PQ (f[q]).c):=vP f q 6 h (by omega)
def gS(W:PJ)(v:PK)(n:Nat):Prop:=∀g,v.ownBlock=some g->∀j x,W.cell? (PN g j)=some x->(j%7≠0->∀k,x≠PO k)/\(j%7=6->n*7<=j->x=PQ 0)
def oe(C:PH)(n:Nat):Prop:=∀j x,C[j]?=some x->(j%7≠0->∀k,x≠PO k)/\(j%7=6->n*7<=j->x=PQ 0)
def mz(C:PH):Prop:=∀j x,C[j]?=some x->j%7≠0->∀k,x≠PO k
def vQ(C:PH):Prop:=∀j x,C[j]?=some x->(j%7≠0->∀k,x≠PO k)/\(j%7=6->x=PQ 0)
theorem vR(t:Ft):mz (aB t):=by
 intro j x hj hm k e;have hl:j<7:=by apply OU;intro h;rw[OJ (by simpa [aB] using h)] at hj;simp at hj
 have:j=1\/j=2\/j=3\/j=4\/j=5\/j=6:=by omega
 rcases this with rfl|rfl|rfl|rfl|rfl|rfl<;>simp[aB] at hj<;>subst hj<;>cases e
variable{n:Nat}{A:PH}
theorem Bo{B:PH}(ha:mz A)(hl:A.length=n*7)(hb:mz B):mz (A++B):=by
 intro j x hj;by_cases h:j<A.length
 .rw[O4 h] at hj;exact ha j x hj
 .rw[O9 (by omega)] at hj;intro hm;exact hb _ x hj (by omega)
theorem Bp:∀fs:PB,mz (aA fs)
 |[]=>λj x hj=>by simp[aA] at hj
 |t::fs=>Bo (n:=1) (A:=aB t) (vR t) rfl (Bp fs)
theorem vS{D:PH}(ha:mz A)(hl:A.length=n*7)(hd:vQ D):oe (A++D) n:=by
 intro j x hj;by_cases h:j<A.length
 .rw[O4 h] at hj;exact⟨ha j x hj,λ_ h2=>by omega⟩
 .rw[O9 (by omega)] at hj;obtain⟨h1,h2⟩:=hd _ x hj;exact⟨λhm=>h1 (by omega),λhm _=>h2 (by omega)⟩
theorem II{C:PH}(h:oe C n):vQ (C.drop (n*7)):=by intro j x hj;rw[List.getElem?_drop] at hj;obtain⟨h1,h2⟩:=h _ x hj;exact⟨λhm=>h1 (by omega),λhm=>h2 (by omega) (by omega)⟩
theorem IJ{C:PH}{m:Nat}(h:oe C n)(hm:n<=m):oe C m:=λj x hj=>⟨(h j x hj).1,λh1 h2=>(h j x hj).2 h1 (by have:=Ph 7 hm;omega)⟩
theorem Bs{z:PK}(hz:z.cells=#[PO 0,PP 0,PP 0,PP 0,PP 0,PQ 0,PQ 0])(q:Nat):vQ (Builtin.zeroCells z.cells q).toList:=by
 intro j x hj;rw[hz] at hj;simp[Builtin.zeroCells] at hj;obtain⟨l,hl,hx⟩:=hj;have hlj:l=j:=by rw[List.getElem?_eq_some_iff] at hl;obtain⟨h1,h2⟩:=hl;simpa using h2.symm
 subst hlj;have hm:l%7=0\/l%7=1\/l%7=2\/l%7=3\/l%7=4\/l%7=5\/l%7=6:=by omega
 rcases hm with h|h|h|h|h|h|h<;>simp[h] at hx<;>subst hx<;>simp[h]
variable{k g c:Nat}{C:Array PK}{W:PJ}
theorem vT{T:TypeId}(hg:W.heap[g]?=some (.cells C T (0,0)))(h:oe C.toList n):gS W (PM g k c) n:=by intro g2 hg2 j x hx;simp only[Value.ownBlock,OP] at hg2;subst hg2;refine h j x ?_;unfold World.cell? at hx;rw[hg] at hx;simpa using hx
theorem IK{T:TypeId}(hg:W.heap[g]?=some (.cells C T (0,0)))(h:gS W (PM g k c) n):oe C.toList n:=λj x hj=>h g rfl j x (by
 unfold World.cell?;rw[hg];simpa using hj)
theorem gS.nil(W:PJ)(n:Nat):gS W (.slice none 0 0) n:=λg hg=>by simp[Value.ownBlock] at hg
variable{v:PK}{W':PJ}
theorem gS.block(h:gS W v n)(hb:∀g,v.ownBlock=some g->W'.heap[g]?=W.heap[g]?):gS W' v n:=λg hg j x hx=>h g hg j x (by
 rw[<-World.cell?_of_block (a:=(PN g j)) (hb g hg)];exact hx)
variable{P:Program}
theorem IL(w:PJ)(base:Nat)(t ty e:TypeId)(i:TypeInfo)(z:PK)(ht:P.underlying t=some (.slice e))(hi:P.info? e=some i)(hz:i.zero=some z)(hsize:i.size=7)(hby:i.bytes=24)(hzc:z.cells=#[PO 0,PP 0,PP 0,PP 0,PP 0,PQ 0,PQ 0])(v:PK)(fs:PB)(hown:w.ownsRow base e 7 v fs.length (aA fs))(hsp:gS w v fs.length)(u:Ft)(ad:Addr)(c:Nat)(hnew:∀j x,(aB u)[j]?=some x->w.cell? (ad.add j)=some x)(hb:fs.length<=1200000000000)(hbase:base<=w.heap.size):∃v' w',(Builtin.append_ #[t,t] ty #[v,.slice (some ad) 1 c]).run P w=.ok v' w'/\w'.ownsRow base e 7 v' (fs++[u]).length (aA (fs++[u]))/\w.grownBy w' v.ownBlock/\gS w' v' (fs++[u]).length/\∀y f,Fv w y f->(∀s∈f,0<s.c)->Fv w' y f:=by
 obtain⟨v',w',hr,h2,h3⟩:=Bt (P:=P) w base t ty e i z ht hi hz hsize hby (by rw[hzc];rfl) v fs hown u ad c hnew hb hbase;refine⟨v',w',hr,h2,h3,?_⟩;have hl7:(aB u).length=1*i.size:=by rw[hsize];rfl
 have hlen:(fs++[u]).length=fs.length+1:=by simp
 rw[hlen];have hfl:=fw fs;have hmx:fs.length+1<=9223372036854775807:=by omega
 have htl:mz (aA fs++aB u):=Bo (n:=fs.length) (Bp fs) (by omega) (vR u);have htll:(aA fs++aB u).length=(fs.length+1)*7:=by simp only[OM];rw[hfl];simp[aB];omega
 rcases hown.2 with ⟨rfl,h0⟩|⟨g,cap,ag,rfl,hbg,hg,hnc,hcm,hcs,htake⟩
 .have e0:fs=[]:=List.eq_nil_of_length_eq_zero (by rw[h0] at hfl;simp at hfl;omega);subst e0;have hr2:=run_append_nil (P:=P) w t ty e i z ht hi hz ad 1 c (aB u) hl7 hnew (by omega) (by omega) (by omega);rw[hr] at hr2;simp only[Result.ok.injEq] at hr2;obtain⟨rfl,rfl⟩:=hr2;refine⟨vT (heap_alloc_new w.drew _) ?_,λy f hf _=>hf.below ((Ov _ _).drew.alloc (Ou _) _)⟩;rw[Array.toList_append,List.toList_toArray];exact vS (vR u) rfl (Bs hzc _)
 .by_cases hroom:fs.length+1<=cap
  .have hfit:fs.length*i.size+(aB u).length<=ag.size:=by have h7:(aB u).length=7:=rfl;rw[hcs,hsize,h7];have:=Ph 7 hroom;omega
   have hr2:=run_append_room (P:=P) w t ty e i ht hi g fs.length cap ag hg ad 1 c (aB u) hl7 hnew (lr u) hroom hfit;rw[hr] at hr2;simp only[Result.ok.injEq] at hr2;obtain⟨rfl,rfl⟩:=hr2;have hzl:=IK hg hsp;have hh:=setRow_heap w g ag (ag.toList.take (fs.length*i.size)++aB u++ag.toList.drop (fs.length*i.size+(aB u).length)).toArray e (0,0) hg;rw[hsize] at hh h3⊢;have etk:ag.toList.take (fs.length*7)=aA fs:=htake;refine⟨vT hh ?_,λy f hf hc=>?_⟩
   .rw[List.toList_toArray,etk];refine vS htl htll ?_;have e9:fs.length*7+(aB u).length=(fs.length+1)*7:=by simp[aB];omega
    rw[e9];exact II (IJ hzl (by omega))
   .obtain⟨a,cp,rfl,hcap,h1⟩:=hf;refine⟨a,cp,rfl,hcap,λhp=>?_⟩;obtain⟨b,off,rfl,hlt,hcs2⟩:=h1 hp;refine⟨b,off,rfl,Oz hlt h3.size,λj x hj=>?_⟩;by_cases hbg2:b=g
    .subst hbg2;have hold:=hcs2 j x hj;have hjl:j<(aA f).length:=by apply OU;intro h;rw[OJ h] at hj;simp at hj
     rw[fw] at hjl;have hq:j/7<f.length:=by omega
     have hk0:(aA f)[j/7*7]?=some (PO (f[j/7]).k):=IF f (j/7) hq;have hk6:(aA f)[j/7*7+6]?=some (PQ (f[j/7]).c):=IG f (j/7) hq;have a0:=hsp b rfl _ _ (hcs2 _ _ hk0);have a6:=hsp b rfl _ _ (hcs2 _ _ hk6);have hm0:(off+j/7*7)%7=0:=by apply O3;intro h;exact a0.1 h _ rfl
     have hne:¬(fs.length*7<=off+j/\off+j<fs.length*7+7):=λh=>by have h6:=a6.2 (by omega) (by omega);have hpos:=hc (f[j/7]) (OE hq);simp only[Value.int.injEq,true_and] at h6;omega
     rw[cell_of_row _ b _ _ e (0,0) hg] at hold;rw[cell_of_row _ b _ _ e (0,0) hh,List.getElem?_toArray];have htl2:(ag.toList.take (fs.length*7)).length=fs.length*7:=by rw[etk,hfl]
     have hcl:ag.toList[off+j]?=some x:=by simpa using hold
     by_cases hlo:off+j<fs.length*7
     .rw[List.append_assoc,O4 (by omega),List.getElem?_take_of_lt hlo];exact hcl
     .have h7:(aB u).length=7:=rfl;rw[O9 (by rw[OM,htl2,h7];omega),OM,htl2,h7,List.getElem?_drop];have e5:fs.length*7+7+(off+j-(fs.length*7+7))=off+j:=by omega
      rw[e5];exact hcl
    .rw[World.cell?_of_block (a:=(PN b (off+j))) (h3.block b hlt (by simp[Value.ownBlock];omega))];exact hcs2 j x hj
  .have holds:∀j x,(aA fs)[j]?=some x->w.cell? (((PN g 0):Addr).add j)=some x:=hown.cells (g:=g) rfl;have hr2:=run_append_grow (P:=P) w t ty e i z ht hi hz (PN g 0) fs.length cap (aA fs) (by rw[hsize];exact hown.1) holds ad 1 c (aB u) hl7 hnew (by omega) (by omega) (growslice_fits (by omega) (by rw[hby];omega));rw[hr] at hr2;simp only[Result.ok.injEq] at hr2;obtain⟨rfl,rfl⟩:=hr2;refine⟨vT (heap_alloc_new w.drew _) ?_,λy f hf _=>hf.below ((Ov _ _).drew.alloc (Ou _) _)⟩;rw[Array.toList_append,Array.toList_append,List.toList_toArray,List.toList_toArray];exact vS htl htll (Bs hzc _)
theorem Bu{ops:Array Oper}{rest:List Oper}{o:Oper}{a:Act}{Q:Exit->Act->PJ->Prop}(hgd:o.guard=none)(s x:Operand)(t:TypeId)(ho:o.op=.call {callee:=.builtin .append,args:=#[s,x],argTypes:=#[t,t]})(base:Nat)(e:TypeId)(i:TypeInfo)(z:PK)(ht:P.underlying t=some (.slice e))(hi:P.info? e=some i)(hz:i.zero=some z)(hsize:i.size=7)(hby:i.bytes=24)(hzc:z.cells=#[PO 0,PP 0,PP 0,PP 0,PP 0,PQ 0,PQ 0])(v:PK)(fs:PB)(hs:a.eval s=v)(hown:w.ownsRow base e 7 v fs.length (aA fs))(hsp:gS w v fs.length)(u:Ft)(ad:Addr)(c:Nat)(hx:a.eval x=.slice (some ad) 1 c)(hnew:∀j x,(aB u)[j]?=some x->w.cell? (ad.add j)=some x)(hb:fs.length<=1200000000000)(hbase:base<=w.heap.size)(hK:∀v' w',w'.ownsRow base e 7 v' (fs++[u]).length (aA (fs++[u]))->w.grownBy w' v.ownBlock->gS w' v' (fs++[u]).length->(∀y f,Fv w y f->(∀s∈f,0<s.c)->Fv w' y f)->wpList P ops Q rest (a.put o.dst v') w'):wpList P ops Q (o::rest) a w:=by refine wpList_plain hgd λK hK'=>?_;obtain⟨v',w',hr,h2,h3,h4,h5⟩:=IL (P:=P) w base t o.type e i z ht hi hz hsize hby hzc v fs hown hsp u ad c hnew hb hbase;unfold Oper.wp execOp;simp only[ho,resolve,invoke,builtin,Sem.run_bind,Sem.run_pure,Result.andThen_ok,List.map_toArray,List.map_cons,List.map_nil,hs,hx,hr];exact hK' _ _ (hK v' w' h2 h3 h4 h5)
structure fW(n0 lb:Nat)(W:PJ)(acc:PB)(v:PK):Prop where
 box:W.ownsRow n0 79 1 (ef lb) 1 [v]
 row:W.ownsRow n0 88 7 v acc.length (aA acc)
 sp:gS W v acc.length
variable{lb:Nat}
theorem fW.next(h:fW n0 lb W acc v)(hb:Io W W'):fW n0 lb W' acc v:=
 ⟨aF h.box hb,aF h.row hb,h.sp.block λg hg=>hb.block g (Ot h.row g hg).2⟩
theorem Bw(h:W.ownsRow n0 79 1 (ef lb) 1 [v])(hv:∃a n c,v=.slice a n c):bU io W lb:=by
 rcases h.2 with ⟨h1,_⟩|⟨g2,cap,ag,h1,_,hh,_,_,hcs,htake⟩
 .simp[ef] at h1
 .simp only[ef,OQ,OP,Addr.mk.injEq,and_true,true_and] at h1;obtain⟨rfl,rfl⟩:=h1;refine kZ hh λu hu=>?_;have e:ag.toList=[v]:=by rw[<-htake,OO (by rw[Array.length_toList,hcs];omega)]
  rw[e,OL] at hu;subst hu;obtain⟨a,n,c,rfl⟩:=hv;intro x e;simp at e
theorem IM(n0 lb sb ob:Nat)(v:PK)(acc:PB)(t:Ft)(w:PJ)(hB:n0<=w.heap.size)(he:fW n0 lb w acc v)(hl:acc.length<=1200000000000):Calls prog 179 #[aX t,PL lb] w λe w'=>e=.returned (.bool true)/\(∃v',fW n0 lb w' (acc++[t]) v')/\aj (λk=>k=lb\/v.ownBlock=some k) w w'/\∀y f,Fv w y f->(∀s∈f,0<s.c)->Fv w' y f:=by
 obtain⟨i0,hi,hz0,hz1,hz2⟩:=info_parts Tryz.infoFt;have HI:=ae (Ow hi (Ow hz0 (Ow hz1 hz2)));clear hi hz0 hz1 hz2;obtain⟨va,vc,rfl⟩:=cl he.row;obtain⟨w1,hw1⟩:∃w1,w1=w.alloc (.cells #[PO t.k,PP t.a,PP t.b,PP t.d,PP t.z,PQ t.pl,PQ t.c] 88):=⟨_,rfl⟩;have HB1:Po (Io w w1):=by rw[hw1];exact ai
 have HX1:Po (cu w1 w.heap.size 0 t):=by rw[hw1];exact(show Bx w.heap.size _ w.heap.size t from dr (Ou _) t).at
 have HE1:=ae (he.next HB1.o);have HE2:=ae (HE1.o.next (ai (A:=.cells #[PO t.k,PP t.a,PP t.b,PP t.d,PP t.z,PQ t.pl,PQ t.c] 88)));have c0:=Oq HE1.o.box 0 (by omega);simp only[List.getElem?_cons_zero] at c0;obtain⟨y0,y1,y2,y3,y4,y5,y6⟩:=HX1.o;simp only[ON] at y0 y1 y2 y3 y4 y5 y6;have HB12:Po (n0<=w1.heap.size):=OA hB HB1.o.size;clear he;unfold aX;go_enter func179,ntmps179;go_upto_region 1 with fail;rw[<-hw1];clear hw1;go_wp2_with (at_builtin;refine Bu rfl (.tmp 4) (.tmp 6) 79 rfl n0 88 i0 _ underlying79 HI.o.1 HI.o.2.1 HI.o.2.2.1 HI.o.2.2.2 rfl (.slice va acc.length vc) acc rfl HE2.o.row HE2.o.sp t (PN w1.heap.size 0) 1 rfl (jz _ _ _) hl (by have:=HB12.o;simp;omega) ?_;intro v9 w9 r1 r2 r3 r4;rw[show (acc++[t]).length=acc.length+1 from by simp] at r1 r3;obtain⟨va9,vc9,hv9⟩:=cl r1;subst hv9;have R1:=ae r1;have R2:=ae r2;have R3:=ae r3;have R4:=ae r4;have HBX:=ae (World.ownsRow.kept HE2.o.box r2 (i5 (by decide) HE2.o.box HE2.o.row|>λh=>by rcases h with h|h;exact Pf h;exact Pg h));have d0:=Oq HBX.o 0 (by omega);have d1:=Oo HBX.o 0;simp only[List.getElem?_cons_zero] at d0;clear r1 r2 r3 r4);go_ret;have hl9:(acc++[t]).length=acc.length+1:=by simp
 have s:=HBX.o.stored 0 (.slice va9 (acc.length+1) vc9);have hT:∀k,k=lb->cq w9 88 k:=λk e=>by subst e;exact bj HBX.o rfl (by decide)
 have hne:∀g,(Value.slice va9 (acc.length+1) vc9).ownBlock=some g->g≠lb:=λg hg e=>by obtain⟨ag,e2⟩:=cF R1.o hg;exact hT g e ag e2
 have hfs:aj (λk=>k=lb) w9 (w9.setCell (PN lb 0) (.slice va9 (acc.length+1) vc9)):=aj.of_grown s.2 λk e=>by simpa using e.symm
 have hb2:Io w (w1.alloc (.cells #[PO t.k,PP t.a,PP t.b,PP t.d,PP t.z,PQ t.pl,PQ t.c] 88)):=In HB1.o ai;refine⟨rfl,⟨.slice va9 (acc.length+1) vc9,by have h:=s.1;exact h,by rw[hl9];exact dB hfs R1.o hT,by rw[hl9];exact R3.o.block λg hg=>Below.heap_setCell _ _ _ _ (hne g hg)⟩,?_,λy f hf hc=>fN hfs (λk e=>by subst e;exact Bw HBX.o ⟨_,_,_,rfl⟩) (R4.o y f (hf.below hb2) hc)⟩;refine((aj.of_below hb2).trans (aj.of_grown (S:=λk=>(Value.slice va acc.length vc).ownBlock=some k) R2.o λk e=>e) λk _ e=>Pg e).trans hfs λk _ e=>Pf e
variable{tb:Nat}
theorem By(h:cu w tb 0 t):Fv w (PM tb 1 1) [t]:=by
 refine⟨_,_,rfl,Ou _,λ_=>⟨tb,0,rfl,OG w _ h.1,λj u hj=>?_⟩⟩;have e:aA [t]=aB t:=by simp[aA]
 rw[e] at hj;have hl:j<7:=by apply OU;intro h;rw[OJ (by simpa [aB] using h)] at hj;simp at hj
 obtain⟨h0,h1,h2,h3,h4,h5,h6⟩:=h;have:j=0\/j=1\/j=2\/j=3\/j=4\/j=5\/j=6:=by omega
 rcases this with rfl|rfl|rfl|rfl|rfl|rfl|rfl<;>simp[aB] at hj<;>subst hj
 .exact h0
 .exact h1
 .exact h2
 .exact h3
 .exact h4
 .exact h5
 .exact h6
theorem Bz(h:Fv w (PM tb 1 1) [t]):cu w tb 0 t:=by obtain⟨a,cap,e,_,h⟩:=h;obtain⟨b,off,e2,_,h3⟩:=h (by simp);subst e2;simp only[OQ,OP,Addr.mk.injEq,and_true] at e;obtain⟨⟨rfl,rfl⟩,_,_⟩:=e;exact og λj u hj=>h3 j u (by simpa [aA] using hj)
theorem IN(n0 sb ob lb:Nat)(y:PK)(f:PB):lw n0 sb ob (λk=>k=lb) (λW acc=>(∃v,fW n0 lb W acc v)/\Fv W y f) where
 next:=fun⟨⟨v,h⟩,hy⟩ hb=>⟨⟨v,h.next hb⟩,hy.below hb⟩
 sum:=fun {W W' acc rw us rows} ⟨⟨v,h⟩,hy⟩ hs hx hf=>by
  have hT:∀k,fM sb rw k->cq W 88 k:=λk hk=>by
   rcases hk with rfl|hk
   .exact bj hs.box rfl (by decide)
   .exact bj hs.rws.own hk (by decide)
  refine⟨⟨v,hf.own h.box λg hg hs2=>?_,dB hf h.row hT,h.sp.block λg hg=>hf.block g (Ot h.row g hg).2 λhs2=>?_⟩,fN hf (λg hg=>?_) hy⟩
  .simp only[ef,Value.ownBlock,OP] at hg;subst hg;rcases hs2 with e|e
   .exact(hx lb rfl).2 e
   .exact(hx lb rfl).1 e
  .obtain⟨ag,e⟩:=cF h.row hg;exact hT g hs2 ag e
  .rcases hg with rfl|hg
   .exact hs.kind
   .intro j u hu x e;obtain⟨a,n,c,h2⟩:=hs.rws.kind g hg j u hu;rw[h2] at e;cases e
theorem IP(n0 sb ob lb:Nat)(y:PK)(f:PB)(hyc:∀s∈f,0<s.c)(W:PJ)(acc:PB)(t:Ft)(tb:Nat)(hE:(∃v,fW n0 lb W acc v)/\Fv W y f)(hB:n0<=W.heap.size)(ht:cu W tb 0 t)(hc:0<t.c)(hl:acc.length<=1200000000000):Calls prog 179 #[aX t,PL lb] W λe w'=>e=.returned (.bool ((fun(_:PB)(_:Ft)=>true) acc t))/\((∃v,fW n0 lb w' (acc++[t]) v)/\Fv w' y f)/\Below n0 W w'/\cu w' tb 0 t/\∀rw us rows,aT n0 W sb ob rw us rows->(∀k,k=lb->rw.ownBlock≠some k/\k≠sb)->(∀r∈rows,∀u∈r,0<u.c)->aT n0 w' sb ob rw us rows:=by
 obtain⟨⟨v,hE⟩,hy⟩:=hE;refine(IM n0 lb sb ob v acc t W hB hE hl).mono ?_;rintro e w' ⟨rfl,h1,h2,h3⟩;have hft:Fv W (PM tb 1 1) [t]:=By ht;refine⟨rfl,⟨h1,h3 _ _ hy hyc⟩,h2.to_below hB λx hx=>?_,?_,λrw us rows hs hx hcc=>?_⟩
 .rcases hx with rfl|hx
  .exact(Ot hE.box x rfl).1
  .exact(Ot hE.row x hx).1
 .exact Bz (h3 _ _ hft λs hs=>by simp at hs;subst hs;exact hc)
 .have hT:∀{T:TypeId},88≠T->79≠T->∀k,(k=lb\/v.ownBlock=some k)->cq W T k:=λa1 a2 k hk=>by
   rcases hk with rfl|hk
   .exact bj hE.box rfl a2
   .exact bj hE.row hk a1
  have hrw:∀g,rw.ownBlock=some g->¬(g=lb\/v.ownBlock=some g):=λg hg hk=>by
   rcases hk with rfl|hk
   .exact(hx g rfl).1 hg
   .obtain⟨ag,e⟩:=cF hs.rws.own hg;exact bj hE.row hk (T':=79) (by decide) ag e
  have hsb:¬(sb=lb\/v.ownBlock=some sb):=λhk=>by obtain⟨ag,e⟩:=cF hs.box (g:=sb) rfl;exact hT (T:=176) (by decide) (by decide) sb hk ag e
  refine⟨dB h2 hs.box (hT (by decide) (by decide)),h2.kdb hs.kind hs.lt.2 hsb,hs.rws.len,h2.own hs.rws.own hrw,λg hg=>h2.kdb (hs.rws.kind g hg) (Ot hs.rws.own g hg).2 (hrw g hg),λi hi=>h3 _ _ (hs.rws.fvs i hi) λs hs2=>?_⟩;have hi2:rows.getD i []∈rows:=by rw[OH,OI hi];exact OE hi
  exact hcc _ hi2 s hs2
theorem uP(p k0 k1 k2:Int)(R:Nat)(Gp:Ft->Prop)(ms:PD)(J:PC->PB->Prop)(I:Ft->PC->PB->Prop)(n0:Nat)(w0:PJ)(ob mb sb:Nat)(sv rw:PK)(us:PH)(rows:PC)(w:PJ)(hcx:nr p k0 k1 k2 R Gp ms)(hdi:mj p k0 k1 k2 Gp ms J I (λ_ _=>true))(hla:∀t rows acc,I t rows acc->acc.length<=1200000000000)(hm:j6 p w0 mb R ms)(hob:aQ w0 ob p k0 k1 k2 sv)(hsz:w0.heap.size=n0)(hb:Below n0 w0 w)(hn:n0<=w.heap.size)(hs:aT n0 w sb ob rw us rows)(hr:aG p Gp rows)(hl:rows.length<=65)(hJ:J rows [])(hK:∀f∈rows,∀u∈f,u.k<1000000000000000000)(y:PK)(yf:PB)(hy:Fv w y yf)(hyc:∀s∈yf,0<s.c):Calls prog 145 #[PL mb,PL sb] w λe w'=>Below n0 w0 w'/\∃u acc,e=.returned u/\w'.ownsRow n0 88 7 u acc.length (aA acc)/\gS w' u acc.length/\Fv w' y yf/\∃rows rows2,J rows acc/\aG p Gp rows/\Nx p rows none rows2:=by
 obtain⟨w1,hw1⟩:∃w1,w1=w.alloc (.cells #[.slice none 0 0] 79):=⟨_,rfl⟩;have HB1:Po (Io w w1):=by rw[hw1];exact ai
 have HE1:Po ((∃v,fW n0 w.heap.size w1 [] v)/\Fv w1 y yf):=by refine⟨⟨.slice none 0 0,?_,World.ownsRow_nil _ _ _ _,gS.nil _ _⟩,hy.below HB1.o⟩;rw[hw1];exact⟨by simp,.inr ⟨w.heap.size,1,_,rfl,hn,heap_alloc_new w _,Ou _,by decide,by simp,by simp⟩⟩
 have HDV:=ae (BA 179 #[PL w.heap.size] (vx func179 (by kernel_rfl)) p k0 k1 k2 R Gp ms J I (λ_ _=>true) (λk=>k=w.heap.size) (λW acc=>(∃v,fW n0 w.heap.size W acc v)/\Fv W y yf) n0 w0 ob mb sb sv rw us rows [] w1 hcx hdi (IN n0 sb ob w.heap.size y yf) (λW acc t tb h1 h2 h3 h4 h5=>IP n0 sb ob w.heap.size y yf hyc W acc t tb h1 h2 h3 h4 (by obtain⟨rows,h5⟩:=h5;exact hla _ _ _ h5)) hm hob hsz (hb.trans (HB1.o.mono hn)) (OA hn HB1.o.size) (hs.next HB1.o) (λk e=>by
  subst e;have h1:=hs.lt.2;refine⟨λe=>?_,by omega⟩;have:=(Ot hs.rws.own _ e).2;omega) (λk e=>by subst e;rw[hw1];simp) hr hl HE1.o hJ hK)
 have HSP:Po (∀W,Below n0 w0 W->W.cell? (PN mb 4)=some (.pointer none)):=λW h=>af hm.work (by cases hsz;exact h);have HSPT:=ae uR;clear hcx hdi hla hm hob hb hs hr hl hJ hK;go_enter func145,ntmps145;go_upto_region 2 with fail;rw[<-hw1];clear hw1;go_wp2_with (first|(go_at_call 87;refine HDV.o.mono ?_;rintro e w9 ⟨rfl,q1,q2,acc,⟨⟨v9,q3⟩,q5⟩,q4⟩;have HY9:=ae q5;have HB9:=ae q1;have HE9:=ae q3;have HR9:=ae q4;have c9:=Oq q3.box 0 (by omega);simp only[List.getElem?_cons_zero] at c9;have m9:=HSP.o w9 q1;obtain⟨va9,vc9,hv9⟩:=cl q3.row;subst hv9;clear q1 q2 q3 q4 q5)|(go_at_call 125;refine(HSPT.o _).mono ?_;rintro e w8 ⟨rfl,n8,rfl⟩;have HB9:=ae (below_drewN HB9.o n8);have HE9:=ae (HE9.o.next (below_drewN (Ov _ _) n8));have HY9:=ae (HY9.o.below (below_drewN (Ov _ _) n8));have c9:=Oq HE9.o.box 0 (by omega);simp only[List.getElem?_cons_zero] at c9));go_ret;refine⟨HB9.o,_,acc,rfl,HE9.o.row,HE9.o.sp,HY9.o,?_⟩;rcases HR9.o with ⟨rows,rows2,hj,h2,h3⟩|⟨t,rows,acc0,_,_,_,_,_,_,_,g8,_⟩
 .exact⟨rows,rows2,hj,h2,h3⟩
 .simp at g8
end Go.Proofs.YtjkalahhpobefaaGreat
namespace Go.Proofs.YtjkalahhpobefaaGreat
set_option linter.all false
open Go.Proofs.Tryz Go.RowKit Go.Sort
variable{w:PJ}
theorem AR{P:Program}{ops:Array Oper}{rest:List Oper}{o:Oper}{a:Act}{Q:Exit->Act->PJ->Prop}(hgd:o.guard=none)(s x:Operand)(t:TypeId)(ho:o.op=.call {callee:=.builtin .append,args:=#[s,x],argTypes:=#[t,t]})(base:Nat)(e:TypeId)(zz:PK)(size bytes:Nat)(ht:P.underlying t=some (.slice e))(hi:(P.info? e).map (λi=>(i.zero,i.size,i.bytes))=some (some zz,size,bytes))(hzs:zz.cells.size=size)(hsz:0<size)(v:PK)(n:Nat)(xs:PH)(hs:a.eval s=v)(hown:w.ownsRow base e size v n xs)(ad:Addr)(m c:Nat)(news:PH)(hl:news.length=m*size)(hx:a.eval x=.slice (some ad) m c)(hnew:∀j u,news[j]?=some u->w.cell? (ad.add j)=some u)(h1:∀u∈news,u.oneCell'=true)(h63:n+m<=maxLen)(hbytes:(n+m)*bytes<=140737488355328)(hbase:base<=w.heap.size)(hK:∀v' w',w'.ownsRow base e size v' (n+m) (xs++news)->w.grownBy w' v.ownBlock->wpList P ops Q rest (a.put o.dst v') w'):wpList P ops Q (o::rest) a w:=by refine wpList_plain hgd λK hK'=>?_;obtain⟨i,hi0,hz0,hz1,hz2⟩:=info_parts hi;obtain⟨v',w',hr,h2,h3,_⟩:=run_append_own (P:=P) w base t o.type e i zz size bytes ht hi0 hz0 hz1 hz2 hzs hsz v n xs hown ad m c news hl hnew h1 h63 hbytes hbase;unfold Oper.wp execOp;simp only[ho,resolve,invoke,builtin,Sem.run_bind,Sem.run_pure,Result.andThen_ok,List.map_toArray,List.map_cons,List.map_nil,hs,hx,hr];exact hK' _ _ (hK v' w' h2 h3)
variable{v:PK}
theorem mu{B:Nat}{T:TypeId}{s:Nat}{n:Nat}{xs:PH}(h:w.ownsRow B T s v n xs)(hn:0<xs.length):∃g cap,v=PM g n cap/\B<=g/\g<w.heap.size/\n<=cap:=by
 rcases h.2 with ⟨rfl,h0⟩|⟨g,cap,ag,rfl,hb,hg,hnc,_⟩
 .have:=h.1;rw[h0] at this;simp at this;rw[this] at hn;simp at hn
 .exact⟨g,cap,rfl,hb,(Ot h g rfl).2,hnc⟩
def vU(w:PJ)(v:PK)(fs:PB):Prop:=∃b off c u,v=.slice (some (PN b off)) 1 c/\w.cell? (PN b off)=some u/\Fv w u fs
theorem vU.below{w':PJ}{fs:PB}(h:vU w v fs)(hb:Io w w'):vU w' v fs:=by obtain⟨b,off,c,u,h1,h2,h3⟩:=h;exact⟨b,off,c,u,h1,af h2 hb,h3.below hb⟩
theorem Tryz.infoFvL:(prog.info? 79).map (λi=>(i.zero,i.size,i.bytes))=some (some (.slice none 0 0),1,24):=by kernel_rfl
def dI(s:Int)(pl:Int):Ft:=⟨s,0,0,0,0,pl,1⟩
theorem vt(ob pl:Nat)(p k0 k1 k2:Int)(sv:PK)(ss:PI)(w:PJ)(hob:aQ w ob p k0 k1 k2 sv)(hs:Sl w sv ss)(hpl:pl<ss.length)(hpl2:pl<=255):Calls prog 114 #[PL ob,PO pl] w λe w'=>e=.returned (aX (dI (ss.getD pl 0) pl))/\Io w w':=by
 obtain⟨sa,sc,rfl,hsi⟩:=hs;obtain⟨sb,soff,rfl,hslt,hsc⟩:=hsi (by omega);have s0:=hsc pl hpl;generalize ss.getD pl 0=s at s0⊢;obtain⟨olt,o0,o1,o2,o3,o4⟩:=hob;clear hsi hsc o0 o1 o2 o3;obtain⟨wa,hwa⟩:∃wa,wa=w.alloc (.cells #[PO 0,PP 0,PP 0,PP 0,PP 0,PQ 0,PQ 0] 88):=⟨_,rfl⟩;have HBA:Po (Io w wa):=by rw[hwa];exact ai
 have HBX:Po (Bx w.heap.size wa w.heap.size ⟨0,0,0,0,0,0,0⟩):=by rw[hwa];exact Bx.new w _ (Ou _)
 have y0:=af s0 HBA.o;have y1:=af o4 HBA.o;obtain⟨v0,v1,v2,v3,v4,v5,v6⟩:=HBX.o.at;have r0:=Oo HBX.o 0;have r1:=Oo HBX.o 1;have r2:=Oo HBX.o 2;have r3:=Oo HBX.o 3;have r4:=Oo HBX.o 4;have r5:=Oo HBX.o 5;have r6:=Oo HBX.o 6;simp only[ON] at v0 v1 v2 v3 v4 v5 v6;have HP:=ae (HBX.o.put (dI s pl));have hpat:=HP.o.1.at;have HPB:Po (Io w (eB wa w.heap.size (dI s pl))):=HBA.o.trans (cQ HP.o.2 (Ou _) HBA.o.size);unfold eB at hpat HPB;obtain⟨q0,q1,q2,q3,q4,q5,q6⟩:=hpat;simp only[ON,dI] at q0 q1 q2 q3 q4 q5 q6;have hpi:(pl:Int)<(ss.length:Int):=by omega
 have hwp:IntKind.u8.wrap (pl:Int)=pl:=by rw[IntKind.wrap_u8];omega
 clear s0 o4;go_enter func114,ntmps114;go_upto_region 1 with fail;rw[<-hwa];clear hwa;go_wp2;refine OC (v:=aX (dI s pl)) (by simp[results,Tryz.results114,go_sem,q0,q1,q2,q3,q4,q5,q6,aX,dI]) rfl ⟨rfl,HPB.o⟩
end Go.Proofs.YtjkalahhpobefaaGreat
namespace Go.Proofs.YtjkalahhpobefaaGreat
set_option linter.all false
open Go.Proofs.Tryz Go.RowKit
variable{t:Ft}{Q o ov:Int}{N R:Nat}
theorem Gd.kb(ho:o=1\/o=2)(h0:0<N)(h3:N<=3)(hR:R<=40)(hQ:Q<=16000)(g:Gd o ov N R Q t):0<=t.k/\t.k<1000000000000000000:=by have h:=IQ ho h0 h3 (g.exq h0 h3 hQ).1;have h4:=g.pl0;have h5:=g.pl;rw[g.k];unfold jv bS;split<;>omega
theorem Gd.fok{p:Int}(ho:o=1\/o=2)(h0:0<N)(h3:N<=3)(hR:R<=40)(hQ:Q<=16000)(g:Gd o ov N R Q t)(hc:0<=t.c/\t.c<p):im p t:=by have hk:=g.kb ho h0 h3 hR hQ;have h4:=g.pl0;have h5:=g.pl;have h6:=g.deg;have h7:=g.a;have h8:=g.b;have h9:=g.d;have h10:=g.z;exact⟨by omega,by omega,by omega,by omega,by omega,by omega,hc⟩
end Go.Proofs.YtjkalahhpobefaaGreat
namespace Go.Proofs.YtjkalahhpobefaaGreat
set_option linter.all false
open Go.Proofs.Tryz Go.RowKit Go.Sort
def dF(m:Nat)(D:Int):Int:=if m=0 then 0 else D
end Go.Proofs.YtjkalahhpobefaaGreat
namespace Go.Proofs.YtjkalahhpobefaaGreat
set_option linter.all false
open Go.Proofs.Tryz Go.RowKit
theorem BB(md R:Nat)(t:Ft)(w:PJ)(hc:w.cell? (PN md 4)=some (PO R))(h0:0<=t.pl)(h1:t.pl<=255):Calls prog 47 #[PL md,aX t] w λe w'=>e=.returned (.bool (decide (t.pl<R)))/\Io w w':=by
 obtain⟨w1,hw1⟩:∃w1,w1=w.alloc (.cells #[PO t.k,PP t.a,PP t.b,PP t.d,PP t.z,PQ t.pl,PQ t.c] 88):=⟨_,rfl⟩;have HB:Po (Io w w1):=by rw[hw1];exact aY
 have x5:w1.cell? (PN w.heap.size 5)=some (PQ t.pl):=by rw[hw1];simp[go_sem]
 have y4:=af hc HB.o;have hwr:IntKind.i64.wrap t.pl=t.pl:=by rw[IntKind.wrap_i64];omega
 have hk4:∀P:bX w1,P.w'.cell? (PN md 4)=some (PO R):=λP=>af y4 P.h;have hk5:∀P:bX w1,P.w'.cell? (PN w.heap.size 5)=some (PQ t.pl):=λP=>af x5 P.h;have hne:Nonempty (bX w1):=⟨⟨w1,Ov _ _⟩⟩;unfold aX;clear hc;go_enter func47,ntmps47;go_upto_region 1 with fail;rw[<-hw1];clear hw1;refine fr (by kernel_rfl) (by kernel_rfl) ?_;repeat (go_big_quiet_step (fail))
 refine wpQuiet_nil ?_;intro w8 hw';obtain⟨⟨w9,hb9⟩,rfl⟩:=hw';have HB9:=ae (In HB.o hb9);clear hb9 hne hk4 hk5;go_wp2_with fail;go_ret;exact⟨rfl,HB9.o⟩
def eD(R:Nat)(t:Ft):Bool:=!decide (t.pl<R)
theorem IR(n0 ib mp md R:Nat)(b:Bool)(t:Ft)(w:PJ)(hB:n0<=w.heap.size)(hm:w.cell? (PN mp 0)=some (PL md))(hr:w.cell? (PN md 4)=some (PO R))(h0:0<=t.pl)(h1:t.pl<=255)(ho:w.ownsRow n0 4 1 (ef ib) 1 [.bool b]):Calls prog 46 #[aX t,PL mp,PL ib] w λe w'=>e=.returned (.bool false)/\w'.ownsRow n0 4 1 (ef ib) 1 [.bool (eD R t)]/\aj (λk=>k=ib) w w':=by
 obtain⟨w1,hw1⟩:∃w1,w1=w.alloc (.cells #[PO t.k,PP t.a,PP t.b,PP t.d,PP t.z,PQ t.pl,PQ t.c] 88):=⟨_,rfl⟩;have HB1:Po (Io w w1):=by rw[hw1];exact ai
 have HX1:Po (cu w1 w.heap.size 0 t):=by rw[hw1];exact(show Bx w.heap.size _ w.heap.size t from dr (Ou _) t).at
 have HOW:=ae (BB md R t w1 (af hr HB1.o) h0 h1);have HO:=ae (aF ho HB1.o);have m1:=af hm HB1.o;obtain⟨y0,y1,y2,y3,y4,y5,y6⟩:=HX1.o;simp only[ON] at y0 y1 y2 y3 y4 y5 y6;unfold aX at HOW⊢;clear ho hm hr;go_enter func46,ntmps46;go_upto_region 1 with fail;rw[<-hw1];clear hw1;go_wp2_with (go_at_call 47;refine HOW.o.mono ?_;rintro e w2 ⟨rfl,q1⟩;have HB2:=ae q1;have HO2:=ae (aF HO.o q1);have k1:=Oq HO2.o 0 (by omega);have k2:=Oo HO2.o 0;simp only[List.getElem?_cons_zero] at k1;clear q1);go_ret;have h9:=HO2.o.stored 0 (.bool (eD R t));refine⟨rfl,h9.1,((aj.of_below HB1.o).trans (aj.of_below (S:=λk=>k=ib) HB2.o) λk _ e=>e).trans (aj.of_grown (S:=λk=>k=ib) h9.2 λk e=>by simpa using e.symm) λk _ e=>e⟩
def pF(n0:Nat)(w0:PJ)(ib R:Nat)(W:PJ)(acc:PB):Prop:=Below n0 w0 W/\W.ownsRow n0 4 1 (ef ib) 1 [.bool (acc.all (eD R))]
theorem IS(n0:Nat)(w0:PJ)(hsz:w0.heap.size=n0)(sb ob ib R:Nat):lw n0 sb ob (λk=>k=ib) (pF n0 w0 ib R) where
 next:=fun⟨h1,h2⟩ hb=>⟨h1.trans (hb.mono (by have:=h1.size;omega)),aF h2 hb⟩
 sum:=fun {W W' acc rw us rows} ⟨h1,h2⟩ hs hx hf=>⟨h1.trans (hs.frm_below hf (by have:=h1.size;omega)),hf.own h2 λg hg hs2=>by
  simp only[ef,Value.ownBlock,OP] at hg;subst hg;rcases hs2 with e|e
  .exact(hx ib rfl).2 e
  .exact(hx ib rfl).1 e⟩
theorem IT(n0:Nat)(w0:PJ)(hsz:w0.heap.size=n0)(sb ob ib mp md R:Nat)(hm:w0.cell? (PN mp 0)=some (PL md))(hr:w0.cell? (PN md 4)=some (PO R))(W:PJ)(acc:PB)(t:Ft)(tb:Nat)(hE:pF n0 w0 ib R W acc)(hB:n0<=W.heap.size)(ht:cu W tb 0 t)(h0:0<=t.pl)(h1:t.pl<=255)(ha:∀u∈acc,eD R u=true):Calls prog 46 #[aX t,PL mp,PL ib] W λe w'=>e=.returned (.bool false)/\pF n0 w0 ib R w' (acc++[t])/\Below n0 W w'/\cu w' tb 0 t/\∀rw us rows,aT n0 W sb ob rw us rows->(∀r∈rows,∀u∈r,0<u.c)->aT n0 w' sb ob rw us rows:=by
 refine(IR n0 ib mp md R _ t W hB (af hm (by cases hsz;exact hE.1)) (af hr (by cases hsz;exact hE.1)) h0 h1 hE.2).mono ?_;rintro e w' ⟨rfl,h1,h2⟩;have hne:tb≠ib:=λe=>by have c:=Oq hE.2 0 (by omega);have d:=ht.1;rw[e,c] at d;simp at d
 have hb:Below n0 W w':=h2.to_below hB λx hx=>by subst hx;exact(Ot hE.2 x rfl).1
 refine⟨rfl,⟨hE.1.trans hb,?_⟩,hb,?_,λrw us rows hs _=>hs.far1 hE.2 h2⟩
 .have e1:acc.all (eD R)=true:=List.all_eq_true.2 ha;rw[List.all_append,e1];simpa using h1
 .obtain⟨t0,t1,t2,t3,t4,t5,t6⟩:=ht;exact⟨h2.cell t0 hne,h2.cell t1 hne,h2.cell t2 hne,h2.cell t3 hne,h2.cell t4 hne,h2.cell t5 hne,h2.cell t6 hne⟩
variable{W:PJ}{n0 ib:Nat}
theorem fW.frmB{lb:Nat}{W':PJ}{acc:PB}{v:PK}(h:fW n0 lb W acc v)(hf:aj (λk=>k=ib) W W'){xs:PH}(ho:W.ownsRow n0 4 1 (ef ib) 1 xs):fW n0 lb W' acc v:=by
 have hT:∀{T:TypeId},4≠T->∀k,k=ib->cq W T k:=λht k e=>by subst e;exact bj ho rfl ht
 refine⟨dB hf h.box (hT (by decide)),dB hf h.row (hT (by decide)),h.sp.block λg hg=>hf.block g (Ot h.row g hg).2 λe=>?_⟩;obtain⟨ag,e2⟩:=cF h.row hg;exact hT (by decide) g e ag e2
theorem IU{b:Bool}(h:W.ownsRow n0 4 1 (ef ib) 1 [.bool b]):bU io W ib:=by
 rcases h.2 with ⟨h1,_⟩|⟨g2,cap,ag,h1,_,hh,_,_,hcs,htake⟩
 .simp[ef] at h1
 .simp only[ef,OQ,OP,Addr.mk.injEq,and_true,true_and] at h1;obtain⟨rfl,rfl⟩:=h1;refine kZ hh λu hu=>?_;have e:ag.toList=[.bool b]:=by rw[<-htake,OO (by rw[Array.length_toList,hcs];omega)]
  rw[e,OL] at hu;subst hu;intro x e;simp at e
theorem IV(n0 lb ib mp md R:Nat)(b:Bool)(v:PK)(acc:PB)(t:Ft)(w:PJ)(hB:n0<=w.heap.size)(he:fW n0 lb w acc v)(hl:acc.length<=1200000000000)(hmp:mp<n0)(hmd:md<n0)(hm:w.cell? (PN mp 0)=some (PL md))(hr:w.cell? (PN md 4)=some (PO R))(h0:0<=t.pl)(h1:t.pl<=255)(ho:w.ownsRow n0 4 1 (ef ib) 1 [.bool b]):Calls prog 71 #[aX t,PL lb,PL mp,PL ib] w λe w'=>e=.returned (.bool (eD R t))/\(∃v',fW n0 lb w' (acc++[t]) v')/\w'.ownsRow n0 4 1 (ef ib) 1 [.bool (eD R t)]/\aj (λk=>k=lb\/v.ownBlock=some k\/k=ib) w w'/\∀y f,Fv w y f->(∀s∈f,0<s.c)->Fv w' y f:=by
 obtain⟨i0,hi,hz0,hz1,hz2⟩:=info_parts Tryz.infoFt;have HI:=ae (Ow hi (Ow hz0 (Ow hz1 hz2)));clear hi hz0 hz1 hz2;obtain⟨va,vc,rfl⟩:=cl he.row;obtain⟨w1,hw1⟩:∃w1,w1=w.alloc (.cells #[PO t.k,PP t.a,PP t.b,PP t.d,PP t.z,PQ t.pl,PQ t.c] 88):=⟨_,rfl⟩;have HB1:Po (Io w w1):=by rw[hw1];exact ai
 have HX1:Po (cu w1 w.heap.size 0 t):=by rw[hw1];exact(show Bx w.heap.size _ w.heap.size t from dr (Ou _) t).at
 have HE1:=ae (he.next HB1.o);have HE2:=ae (HE1.o.next (ai (A:=.cells #[PO t.k,PP t.a,PP t.b,PP t.d,PP t.z,PQ t.pl,PQ t.c] 88)));have HO2:Po ((w1.alloc (.cells #[PO t.k,PP t.a,PP t.b,PP t.d,PP t.z,PQ t.pl,PQ t.c] 88)).ownsRow n0 4 1 (ef ib) 1 [.bool b]):=aF (aF ho HB1.o) ai;have c0:=Oq HE1.o.box 0 (by omega);simp only[List.getElem?_cons_zero] at c0;obtain⟨y0,y1,y2,y3,y4,y5,y6⟩:=HX1.o;simp only[ON] at y0 y1 y2 y3 y4 y5 y6;have HB12:Po (n0<=w1.heap.size):=OA hB HB1.o.size;have HFT:Po (cu (w1.alloc (.cells #[PO t.k,PP t.a,PP t.b,PP t.d,PP t.z,PQ t.pl,PQ t.c] 88)) w.heap.size 0 t):=HX1.o.keep ai;have HLT:Po (lb<w.heap.size/\∀g,(Value.slice va acc.length vc).ownBlock=some g->g<w.heap.size):=⟨(Ot he.box lb rfl).2,λg hg=>(Ot he.row g hg).2⟩;have HLB:Po (n0<=lb/\∀g,(Value.slice va acc.length vc).ownBlock=some g->n0<=g):=⟨(Ot he.box lb rfl).1,λg hg=>(Ot he.row g hg).1⟩;have HCM:=ae (Ow hm hr);clear he ho hm hr;unfold aX;go_enter func71,ntmps71;go_upto_region 1 with fail;rw[<-hw1];clear hw1;go_upto_region 2 with (at_builtin;refine Bu rfl (.tmp 6) (.tmp 8) 79 rfl n0 88 i0 _ underlying79 HI.o.1 HI.o.2.1 HI.o.2.2.1 HI.o.2.2.2 rfl (.slice va acc.length vc) acc rfl HE2.o.row HE2.o.sp t (PN w1.heap.size 0) 1 rfl (jz _ _ _) hl (by have:=HB12.o;simp;omega) ?_;intro v9 w9 r1 r2 r3 r4;rw[show (acc++[t]).length=acc.length+1 from by simp] at r1 r3;obtain⟨va9,vc9,hv9⟩:=cl r1;subst hv9;have R1:=ae r1;have R2:=ae r2;have R3:=ae r3;have R4:=ae r4;have HBX:=ae (World.ownsRow.kept HE2.o.box r2 (i5 (by decide) HE2.o.box HE2.o.row|>λh=>by rcases h with h|h;exact Pf h;exact Pg h));have HOX:=ae (World.ownsRow.kept HO2.o r2 (i5 (by decide) HO2.o HE2.o.row|>λh=>by rcases h with h|h;exact Pf h;exact Pg h));have d0:=Oq HBX.o 0 (by omega);have d1:=Oo HBX.o 0;simp only[List.getElem?_cons_zero] at d0;clear r1 r2 r3 r4);have hl9:(acc++[t]).length=acc.length+1:=by simp
 have s:=HBX.o.stored 0 (.slice va9 (acc.length+1) vc9);have hT:∀k,k=lb->cq w9 88 k:=λk e=>by subst e;exact bj HBX.o rfl (by decide)
 have hT2:∀k,k=lb->cq w9 4 k:=λk e=>by subst e;exact bj HBX.o rfl (by decide)
 have hne:∀g,(Value.slice va9 (acc.length+1) vc9).ownBlock=some g->g≠lb:=λg hg e=>by obtain⟨ag,e2⟩:=cF R1.o hg;exact hT g e ag e2
 have hfs:aj (λk=>k=lb) w9 (w9.setCell (PN lb 0) (.slice va9 (acc.length+1) vc9)):=aj.of_grown s.2 λk e=>by simpa using e.symm
 have hb2:Io w (w1.alloc (.cells #[PO t.k,PP t.a,PP t.b,PP t.d,PP t.z,PQ t.pl,PQ t.c] 88)):=In HB1.o ai;obtain⟨wA,hwA⟩:∃wA,wA=w9.setCell (PN lb 0) (.slice va9 (acc.length+1) vc9):=⟨_,rfl⟩;have HEA:Po (fW n0 lb wA (acc++[t]) (.slice va9 (acc.length+1) vc9)):=by rw[hwA];exact⟨s.1,by rw[hl9];exact dB hfs R1.o hT,by rw[hl9];exact R3.o.block λg hg=>Below.heap_setCell _ _ _ _ (hne g hg)⟩
 have HOA:Po (wA.ownsRow n0 4 1 (ef ib) 1 [.bool b]):=by rw[hwA];exact dB hfs HOX.o hT2
 have HFA:Po (aj (λk=>k=lb\/(Value.slice va acc.length vc).ownBlock=some k\/k=ib) w wA):=by rw[hwA];exact((aj.of_below hb2).trans (aj.of_grown (S:=λk=>(Value.slice va acc.length vc).ownBlock=some k) R2.o λk e=>e) λk _ e=>Pg (Pf e)).trans hfs λk _ e=>Pf e
 have HVA:Po (∀y f,Fv w y f->(∀s∈f,0<s.c)->Fv wA y f):=λy f hf hc=>by rw[hwA];exact fN hfs (λk e=>by subst e;exact Bw HBX.o ⟨_,_,_,rfl⟩) (R4.o y f (hf.below hb2) hc)
 have HFTA:Po (cu wA w.heap.size 0 t):=by
  have hf9:aj (λk=>(Value.slice va acc.length vc).ownBlock=some k\/k=lb) (w1.alloc (.cells #[PO t.k,PP t.a,PP t.b,PP t.d,PP t.z,PQ t.pl,PQ t.c] 88)) wA:=by rw[hwA];exact(aj.of_grown (S:=λk=>(Value.slice va acc.length vc).ownBlock=some k\/k=lb) R2.o λk e=>Pf e).trans hfs λk _ e=>Pg e
  have hno:¬((Value.slice va acc.length vc).ownBlock=some w.heap.size\/w.heap.size=lb):=λh=>by
   rcases h with h|h
   .have:=HLT.o.2 _ h;omega
   .have:=HLT.o.1;omega
  obtain⟨t0,t1,t2,t3,t4,t5,t6⟩:=HFT.o;exact⟨hf9.cell t0 hno,hf9.cell t1 hno,hf9.cell t2 hno,hf9.cell t3 hno,hf9.cell t4 hno,hf9.cell t5 hno,hf9.cell t6 hno⟩
 have HSA:Po (w.heap.size<=wA.heap.size):=HFA.o.size;have hib:ib<w.heap.size\/w.heap.size<=ib:=by omega
 have HOI:=Ot HOA.o ib rfl;have hbA:Below n0 w wA:=HFA.o.to_below hB λk hk=>by
  rcases hk with rfl|hk|rfl
  .exact HLB.o.1
  .exact HLB.o.2 k hk
  .exact HOI.1
 have cmA:=(hbA.cell (p:=(PN mp 0)) hmp).trans HCM.o.1;have crA:=(hbA.cell (p:=(PN md 4)) hmd).trans HCM.o.2;have HOW:=ae (BB md R t wA crA h0 h1);obtain⟨z0,z1,z2,z3,z4,z5,z6⟩:=HFTA.o;simp only[ON] at z0 z1 z2 z3 z4 z5 z6;unfold aX at HOW;rw[<-hwA];clear hwA s hfs hT hT2 hne hb2 HCM HBX HOX R1 R2 R3 R4 HE1 HE2 HO2 HX1 HFT crA hbA d0 d1 y0 y1 y2 y3 y4 y5 y6 c0 HFTA;go_wp2_with (go_at_call 47;refine HOW.o.mono ?_;rintro e w2 ⟨rfl,q1⟩;have HBD:=ae q1;have HOD:=ae (aF HOA.o q1);have k1:=Oq HOD.o 0 (by omega);have k2:=Oo HOD.o 0;simp only[List.getElem?_cons_zero] at k1;clear q1);go_ret;have h9:=HOD.o.stored 0 (.bool (eD R t));have hf9:aj (λk=>k=ib) w2 (w2.setCell (PN ib 0) (.bool (eD R t))):=aj.of_grown h9.2 λk e=>by simpa using e.symm
 refine⟨rfl,⟨_,(HEA.o.next HBD.o).frmB hf9 HOD.o⟩,h9.1,((HFA.o.trans (aj.of_below (S:=λk=>k=lb\/(Value.slice va acc.length vc).ownBlock=some k\/k=ib) HBD.o) λk _ e=>e)).trans hf9 λk _ e=>Pg (Pg e),λy f hf hc=>fN hf9 (λk e=>by subst e;exact IU HOD.o) ((HVA.o y f hf hc).below HBD.o)⟩
def pG(n0:Nat)(w0:PJ)(lb ib R:Nat)(W:PJ)(acc:PB):Prop:=Below n0 w0 W/\(∃v,fW n0 lb W acc v)/\W.ownsRow n0 4 1 (ef ib) 1 [.bool (acc.all (eD R))]
theorem IW(n0:Nat)(w0:PJ)(hsz:w0.heap.size=n0)(sb ob lb ib R:Nat):lw n0 sb ob (λk=>k=lb\/k=ib) (pG n0 w0 lb ib R) where
 next:=fun⟨h1,⟨v,h2⟩,h3⟩ hb=>⟨h1.trans (hb.mono (by have:=h1.size;omega)),⟨v,h2.next hb⟩,aF h3 hb⟩
 sum:=fun {W W' acc rw us rows} ⟨h1,⟨v,h⟩,h3⟩ hs hx hf=>by
  have hT:∀k,fM sb rw k->cq W 88 k:=λk hk=>by
   rcases hk with rfl|hk
   .exact bj hs.box rfl (by decide)
   .exact bj hs.rws.own hk (by decide)
  refine⟨h1.trans (hs.frm_below hf (by have:=h1.size;omega)),⟨v,hf.own h.box λg hg hs2=>?_,dB hf h.row hT,h.sp.block λg hg=>hf.block g (Ot h.row g hg).2 λhs2=>?_⟩,hf.own h3 λg hg hs2=>?_⟩
  .simp only[ef,Value.ownBlock,OP] at hg;subst hg;rcases hs2 with e|e
   .exact(hx lb (Pf rfl)).2 e
   .exact(hx lb (Pf rfl)).1 e
  .obtain⟨ag,e⟩:=cF h.row hg;exact hT g hs2 ag e
  .simp only[ef,Value.ownBlock,OP] at hg;subst hg;rcases hs2 with e|e
   .exact(hx ib (Pg rfl)).2 e
   .exact(hx ib (Pg rfl)).1 e
theorem IX(n0:Nat)(w0:PJ)(hsz:w0.heap.size=n0)(sb ob lb ib mp md R:Nat)(hmp:mp<n0)(hmd:md<n0)(hm:w0.cell? (PN mp 0)=some (PL md))(hr:w0.cell? (PN md 4)=some (PO R))(W:PJ)(acc:PB)(t:Ft)(tb:Nat)(hE:pG n0 w0 lb ib R W acc)(hB:n0<=W.heap.size)(ht:cu W tb 0 t)(hc:0<t.c)(h0:0<=t.pl)(h1:t.pl<=255)(hl:acc.length<=1200000000000)(ha:∀u∈acc,eD R u=true):Calls prog 71 #[aX t,PL lb,PL mp,PL ib] W λe w'=>e=.returned (.bool (eD R t))/\pG n0 w0 lb ib R w' (acc++[t])/\Below n0 W w'/\cu w' tb 0 t/\∀rw us rows,aT n0 W sb ob rw us rows->(∀k,(k=lb\/k=ib)->rw.ownBlock≠some k/\k≠sb)->(∀r∈rows,∀u∈r,0<u.c)->aT n0 w' sb ob rw us rows:=by
 obtain⟨hE1,⟨v,hE2⟩,hE3⟩:=hE;refine(IV n0 lb ib mp md R _ v acc t W hB hE2 hl hmp hmd ((hE1.cell (p:=(PN mp 0)) hmp).trans hm) ((hE1.cell (p:=(PN md 4)) hmd).trans hr) h0 h1 hE3).mono ?_;rintro e w' ⟨rfl,q1,q2,q3,q4⟩;have hft:Fv W (PM tb 1 1) [t]:=By ht;have hb:Below n0 W w':=q3.to_below hB λx hx=>by
  rcases hx with rfl|hx|rfl
  .exact(Ot hE2.box x rfl).1
  .exact(Ot hE2.row x hx).1
  .exact(Ot hE3 x rfl).1
 refine⟨rfl,⟨hE1.trans hb,q1,?_⟩,hb,Bz (q4 _ _ hft λs hs=>by simp at hs;subst hs;exact hc),λrw us rows hs hx hcc=>?_⟩
 .have e1:acc.all (eD R)=true:=List.all_eq_true.2 ha;rw[List.all_append,e1];simpa using q2
 .have hT:∀{T:TypeId},88≠T->79≠T->4≠T->∀k,(k=lb\/v.ownBlock=some k\/k=ib)->cq W T k:=λa1 a2 a3 k hk=>by
   rcases hk with rfl|hk|rfl
   .exact bj hE2.box rfl a2
   .exact bj hE2.row hk a1
   .exact bj hE3 rfl a3
  have hrw:∀g,rw.ownBlock=some g->¬(g=lb\/v.ownBlock=some g\/g=ib):=λg hg hk=>by
   rcases hk with rfl|hk|rfl
   .exact(hx g (Pf rfl)).1 hg
   .obtain⟨ag,e⟩:=cF hs.rws.own hg;exact bj hE2.row hk (T':=79) (by decide) ag e
   .exact(hx g (Pg rfl)).1 hg
  have hsb:¬(sb=lb\/v.ownBlock=some sb\/sb=ib):=λhk=>by obtain⟨ag,e⟩:=cF hs.box (g:=sb) rfl;exact hT (T:=176) (by decide) (by decide) (by decide) sb hk ag e
  refine⟨dB q3 hs.box (hT (by decide) (by decide) (by decide)),q3.kdb hs.kind hs.lt.2 hsb,hs.rws.len,q3.own hs.rws.own hrw,λg hg=>q3.kdb (hs.rws.kind g hg) (Ot hs.rws.own g hg).2 (hrw g hg),λi hi=>q4 _ _ (hs.rws.fvs i hi) λs hs2=>?_⟩;have hi2:rows.getD i []∈rows:=by rw[OH,OI hi];exact OE hi
  exact hcc _ hi2 s hs2
end Go.Proofs.YtjkalahhpobefaaGreat
