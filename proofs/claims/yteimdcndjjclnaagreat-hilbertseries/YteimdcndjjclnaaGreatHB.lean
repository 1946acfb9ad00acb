/- A sum of one vector, term by term, is that vector; a making with no members leaves it as it is. -/
import Derived.Test.YteimdcndjjclnaaGreatKX
set_option maxHeartbeats 2000000
set_option maxRecDepth 100000
namespace Go.Proofs.YteimdcndjjclnaaGreat
set_option linter.all false
open Go.Proofs.Tryz Go.RowKit
theorem tB{t:Ft}{ts:List Ft}(h:Dn (t::ts)):ao t.k (t::ts)=t.c:=by simp only[ao,LI];rw[qh λu hu=>by have:=h.head u hu;omega];omega
theorem yK{p:Int}:∀{fs acc:List Ft},Dn fs->(∀t∈fs,0<t.c/\t.c<p)->Dn acc->(∀t∈acc,0<t.c/\t.c<p)->(∀u∈acc,∃v∈fs,f9 u v)->(∀k,p∣ao k acc-ao k fs)->acc=fs
 |[],[],_,_,_,_,_,_=>rfl
 |[],u::acc,_,_,_,_,hg,_=>by obtain⟨v,hv,_⟩:=hg u (by simp);simp at hv
 |t::fs,[],hd,hc,_,_,_,hk=>by have h:=hk t.k;rw[tB hd] at h;have c:=hc t (by simp);simp only[ao] at h;have:=Int.le_of_dvd (by omega) (Int.dvd_neg.2 h);omega
 |t::fs,u::acc,hd,hc,hd2,hc2,hg,hk=>by
  obtain⟨v,hv,ha⟩:=hg u (by simp);have hle:=hd.le v hv;have hkk:=hk t.k;have c1:=hc t (by simp);have c2:=hc2 u (by simp);rw[tB hd] at hkk;have huk:u.k=t.k:=by
   apply LP;intro hne;have hlt:u.k<t.k:=by have:=ha.1;omega
   rw[qh λx hx=>by have:=hd2.le x hx;omega] at hkk;have:=Int.le_of_dvd (by omega) (Int.dvd_neg.2 hkk);omega
  have hvt:v=t:=by
   rcases LL.1 hv with rfl|hv
   .rfl
   .have:=hd.head v hv;have:=ha.1;omega
  subst hvt;have hcc:u.c=v.c:=by
   rw[<-huk,tB hd2] at hkk;obtain⟨z,hz⟩:=hkk;have hz0:z=0:=by
    have h1:z<1:=by apply Int.lt_of_not_ge;intro h;have:p*1<=p*z:=Int.mul_le_mul_of_nonneg_left h (by omega);omega
    have h2:-1<z:=by apply Int.lt_of_not_ge;intro h;have:p*z<=p*(-1):=Int.mul_le_mul_of_nonneg_left h (by omega);omega
    omega
   rw[hz0] at hz;omega
  have hut:u=v:=by obtain⟨a1,a2,a3,a4,a5,a6⟩:=ha;cases u;cases v;simp only[Ft.mk.injEq];exact⟨a1,a2,a3,a4,a5,a6,hcc⟩
  subst hut;rw[yK hd.tail (λx hx=>hc x (by simp[hx])) hd2.tail (λx hx=>hc2 x (by simp[hx])) (λx hx=>?_) (λk=>?_)]
  .obtain⟨w,hw,hb⟩:=hg x (by simp[hx]);rcases LL.1 hw with rfl|hw
   .have:=hd2.head x hx;have:=hb.1;omega
   .exact⟨w,hw,hb⟩
  .have h:=hk k;simp only[ao] at h;have e:(if u.k=k then u.c else 0)+ao k acc-((if u.k=k then u.c else 0)+ao k fs)=ao k acc-ao k fs:=by omega
   rw[e] at h;exact h
structure lO(p:Int)(fs:List Ft)(rows:List (List Ft))(acc:List Ft):Prop where
 dn:Dn acc
 co:∀t∈acc,0<t.c/\t.c<p
 gd:∀u∈acc,∃v∈fs,f9 u v
 lt:∀a∈acc,∀r∈rows,∀u∈r,u.k<a.k
 cn:∀k,p∣ao k acc+ao k rows.flatten-ao k fs
def jd(fs:List Ft)(u:Ft):Prop:=∃v∈fs,f9 u v
theorem jd.alk{fs:List Ft}:∀x t,f9 x t->jd fs t->jd fs x:=λx t h ⟨v,hv,k⟩=>⟨v,hv,h.1.trans k.1,h.2.1.trans k.2.1,h.2.2.1.trans k.2.2.1,h.2.2.2.1.trans k.2.2.2.1,h.2.2.2.2.1.trans k.2.2.2.2.1,h.2.2.2.2.2.trans k.2.2.2.2.2⟩
theorem lO.start{p:Int}{fs:List Ft}{rows:List (List Ft)}(h:∀k,p∣ao k rows.flatten-ao k fs):lO p fs rows []:=
 ⟨List.Pairwise.nil,λt ht=>by simp at ht,λt ht=>by simp at ht,λt ht=>by simp at ht,λk=>by have:=h k;simp only[ao];rw[Int.zero_add];exact this⟩
theorem Fh{p a b c d e:Int}(h1:p∣a+b-c)(h2:p∣b-(d+e)):p∣a+e+d-c:=by obtain⟨x,hx⟩:=h1;obtain⟨y,hy⟩:=h2;exact⟨x-y,by rw[Int.mul_sub];omega⟩
theorem lO.next{p:Int}(hp:2<=p){fs:List Ft}{rows rows2:List (List Ft)}{acc:List Ft}{t:Ft}(h:lO p fs rows acc)(hr:aO p (jd fs) rows)(hn:Nx p rows (some t) rows2):lO p fs rows2 (acc++[t])/\aO p (jd fs) rows2/\jd fs t/\0<t.c/\t.c<p:=by
 have hK:∀a∈acc,t.k<a.k:=λa ha=>by have hs:=Nx.spec hp (G:=λu=>jd fs u/\u.k<a.k) (λx t hx hg=>⟨jd.alk x t hx hg.1,by rw[hx.1];exact hg.2⟩) hn (tC hr (h.lt a ha));exact hs.2.2.1.2
 obtain⟨s1,s2,s3,s4,s5,s6,s7⟩:=Nx.spec hp jd.alk hn hr;refine⟨⟨?_,λx hx=>?_,λx hx=>?_,λa ha r hr u hu=>?_,λk=>?_⟩,s1,s3,s4,s5⟩
 .unfold Dn;rw[List.pairwise_append];exact⟨h.dn,by simp,λa ha b hb=>by simp at hb;subst hb;exact hK a ha⟩
 .rcases Lv.1 hx with hx|hx
  .exact h.co x hx
  .simp at hx;subst hx;exact⟨s4,s5⟩
 .rcases Lv.1 hx with hx|hx
  .exact h.gd x hx
  .simp at hx;subst hx;exact s3
 .rcases Lv.1 ha with ha|ha
  .have h1:=s6 r hr u hu;have h2:=hK a ha;omega
  .simp at ha;subst ha;exact s6 r hr u hu
 .rw[kg];have e:ao k [t]=if k=t.k then t.c else 0:=by
   simp only[ao];by_cases hk:k=t.k
   .simp[hk]
   .rw[LH hk,LH λe=>hk e.symm];omega
  rw[e];exact Fh (h.cn k) (s7 k)
theorem lO.stop{p:Int}(hp:2<=p){fs:List Ft}(hd:Dn fs)(hc:∀t∈fs,0<t.c/\t.c<p){rows rows2:List (List Ft)}{acc:List Ft}(h:lO p fs rows acc)(hr:aO p (jd fs) rows)(hn:Nx p rows none rows2):acc=fs:=by obtain⟨_,_,s3⟩:=Nx.spec hp jd.alk hn hr;refine yK hd hc h.dn h.co h.gd λk=>?_;obtain⟨x,hx⟩:=h.cn k;obtain⟨y,hy⟩:=s3 k;exact⟨x-y,by rw[Int.mul_sub];omega⟩
theorem qi:∀(fs:List Ft)(q r:Nat)(h:q<fs.length),r<7->(aC fs)[q*7+r]?=(aw fs[q])[r]?
 |[],_,_,h,_=>by simp at h
 |t::fs,0,r,_,hr=>by rw[jC,Nat.zero_mul,Ly,LQ (by simpa [aw] using hr)];rfl
 |t::fs,q+1,r,h,hr=>by
  rw[jC,LW (by simp[aw];omega)];have e:(q+1)*7+r-(aw t).length=q*7+r:=by simp[aw];omega
  rw[e];exact qi fs q r (by simpa using h) hr
theorem Fi(f:List Ft)(q:Nat)(h:q<f.length):(aC f)[q*7]?=some (.int .i64 (f[q]).k):=qi f q 0 h (by omega)
theorem Fj(f:List Ft)(q:Nat)(h:q<f.length):(aC f)[q*7+6]?=some (.int .u8 (f[q]).c):=qi f q 6 h (by omega)
def gX(W:World)(v:Value)(n:Nat):Prop:=∀g,v.ownBlock=some g->∀j x,W.cell? ⟨g,j,none⟩=some x->(j%7≠0->∀k,x≠.int .i64 k)/\(j%7=6->n*7<=j->x=.int .u8 0)
def mM(C:List Value)(n:Nat):Prop:=∀j x,C[j]?=some x->(j%7≠0->∀k,x≠.int .i64 k)/\(j%7=6->n*7<=j->x=.int .u8 0)
def lP(C:List Value):Prop:=∀j x,C[j]?=some x->j%7≠0->∀k,x≠.int .i64 k
def tE(C:List Value):Prop:=∀j x,C[j]?=some x->(j%7≠0->∀k,x≠.int .i64 k)/\(j%7=6->x=.int .u8 0)
theorem tF(t:Ft):lP (aw t):=by
 intro j x hj hm k e;have hl:j<7:=by apply LF;intro h;rw[Lu (by simpa [aw] using h)] at hj;simp at hj
 have:j=1\/j=2\/j=3\/j=4\/j=5\/j=6:=by omega
 rcases this with rfl|rfl|rfl|rfl|rfl|rfl<;>simp[aw] at hj<;>subst hj<;>cases e
theorem yL{A B:List Value}{n:Nat}(ha:lP A)(hl:A.length=n*7)(hb:lP B):lP (A++B):=by
 intro j x hj;by_cases h:j<A.length
 .rw[LQ h] at hj;exact ha j x hj
 .rw[LW (by omega)] at hj;intro hm;exact hb _ x hj (by omega)
theorem yM:∀fs:List Ft,lP (aC fs)
 |[]=>λj x hj=>by simp[aC] at hj
 |t::fs=>yL (n:=1) (A:=aw t) (tF t) rfl (yM fs)
theorem tG{A D:List Value}{n:Nat}(ha:lP A)(hl:A.length=n*7)(hd:tE D):mM (A++D) n:=by
 intro j x hj;by_cases h:j<A.length
 .rw[LQ h] at hj;exact⟨ha j x hj,λ_ h2=>by omega⟩
 .rw[LW (by omega)] at hj;obtain⟨h1,h2⟩:=hd _ x hj;exact⟨λhm=>h1 (by omega),λhm _=>h2 (by omega)⟩
theorem Fk{C:List Value}{n:Nat}(h:mM C n):tE (C.drop (n*7)):=by intro j x hj;rw[List.getElem?_drop] at hj;obtain⟨h1,h2⟩:=h _ x hj;exact⟨λhm=>h1 (by omega),λhm=>h2 (by omega) (by omega)⟩
theorem Fl{C:List Value}{n m:Nat}(h:mM C n)(hm:n<=m):mM C m:=λj x hj=>⟨(h j x hj).1,λh1 h2=>(h j x hj).2 h1 (by have:=L5 7 hm;omega)⟩
theorem yN{z:Value}(hz:z.cells=#[.int .i64 0,.int .u16 0,.int .u16 0,.int .u16 0,.int .u16 0,.int .u8 0,.int .u8 0])(q:Nat):tE (Builtin.zeroCells z.cells q).toList:=by
 intro j x hj;rw[hz] at hj;simp[Builtin.zeroCells] at hj;obtain⟨l,hl,hx⟩:=hj;have hlj:l=j:=by rw[List.getElem?_eq_some_iff] at hl;obtain⟨h1,h2⟩:=hl;simpa using h2.symm
 subst hlj;have hm:l%7=0\/l%7=1\/l%7=2\/l%7=3\/l%7=4\/l%7=5\/l%7=6:=by omega
 rcases hm with h|h|h|h|h|h|h<;>simp[h] at hx<;>subst hx<;>simp[h]
theorem tH{W:World}{g n c:Nat}{C:Array Value}{T:TypeId}{k:Nat}(hg:W.heap[g]?=some (.cells C T (0,0)))(h:mM C.toList n):gX W (.slice (some ⟨g,0,none⟩) k c) n:=by intro g2 hg2 j x hx;simp only[Value.ownBlock,LA] at hg2;subst hg2;refine h j x ?_;unfold World.cell? at hx;rw[hg] at hx;simpa using hx
theorem Fm{W:World}{g n c:Nat}{C:Array Value}{T:TypeId}{k:Nat}(hg:W.heap[g]?=some (.cells C T (0,0)))(h:gX W (.slice (some ⟨g,0,none⟩) k c) n):mM C.toList n:=λj x hj=>h g rfl j x (by
 unfold World.cell?;rw[hg];simpa using hj)
theorem gX.nil(W:World)(n:Nat):gX W (.slice none 0 0) n:=λg hg=>by simp[Value.ownBlock] at hg
theorem gX.block{W W':World}{v:Value}{n:Nat}(h:gX W v n)(hb:∀g,v.ownBlock=some g->W'.heap[g]?=W.heap[g]?):gX W' v n:=λg hg j x hx=>h g hg j x (by
 rw[<-World.cell?_of_block (a:=⟨g,j,none⟩) (hb g hg)];exact hx)
theorem Fo{P:Program}(w:World)(base:Nat)(t ty e:TypeId)(i:TypeInfo)(z:Value)(ht:P.underlying t=some (.slice e))(hi:P.info? e=some i)(hz:i.zero=some z)(hsize:i.size=7)(hby:i.bytes=24)(hzc:z.cells=#[.int .i64 0,.int .u16 0,.int .u16 0,.int .u16 0,.int .u16 0,.int .u8 0,.int .u8 0])(v:Value)(fs:List Ft)(hown:w.ownsRow base e 7 v fs.length (aC fs))(hsp:gX w v fs.length)(u:Ft)(ad:Addr)(c:Nat)(hnew:∀j x,(aw u)[j]?=some x->w.cell? (ad.add j)=some x)(hb:fs.length<=1000000000000)(hbase:base<=w.heap.size):∃v' w',(Builtin.append_ #[t,t] ty #[v,.slice (some ad) 1 c]).run P w=.ok v' w'/\w'.ownsRow base e 7 v' (fs++[u]).length (aC (fs++[u]))/\w.grownBy w' v.ownBlock/\gX w' v' (fs++[u]).length/\∀y f,Fv w y f->(∀s∈f,0<s.c)->Fv w' y f:=by
 obtain⟨v',w',hr,h2,h3⟩:=yO (P:=P) w base t ty e i z ht hi hz hsize hby (by rw[hzc];rfl) v fs hown u ad c hnew hb hbase;refine⟨v',w',hr,h2,h3,?_⟩;have hl7:(aw u).length=1*i.size:=by rw[hsize];rfl
 have hlen:(fs++[u]).length=fs.length+1:=by simp
 rw[hlen];have hfl:=il fs;have hmx:fs.length+1<=9223372036854775807:=by omega
 have htl:lP (aC fs++aw u):=yL (n:=fs.length) (yM fs) (by omega) (tF u);have htll:(aC fs++aw u).length=(fs.length+1)*7:=by simp only[Lx];rw[hfl];simp[aw];omega
 rcases hown.2 with ⟨rfl,h0⟩|⟨g,cap,af,rfl,hbg,hg,hnc,hcm,hcs,htake⟩
 .have e0:fs=[]:=List.eq_nil_of_length_eq_zero (by rw[h0] at hfl;simp at hfl;omega);subst e0;have hr2:=run_append_nil (P:=P) w t ty e i z ht hi hz ad 1 c (aw u) hl7 hnew (by omega) (by omega) (by omega);rw[hr] at hr2;simp only[Result.ok.injEq] at hr2;obtain⟨rfl,rfl⟩:=hr2;refine⟨tH (heap_alloc_new w.drew _) ?_,λy f hf _=>hf.below ((Lf _ _).drew.alloc (Lc _) _)⟩;rw[Array.toList_append,List.toList_toArray];exact tG (tF u) rfl (yN hzc _)
 .by_cases hroom:fs.length+1<=cap
  .have hfit:fs.length*i.size+(aw u).length<=af.size:=by have h7:(aw u).length=7:=rfl;rw[hcs,hsize,h7];have:=L5 7 hroom;omega
   have hr2:=run_append_room (P:=P) w t ty e i ht hi g fs.length cap af hg ad 1 c (aw u) hl7 hnew (lQ u) hroom hfit;rw[hr] at hr2;simp only[Result.ok.injEq] at hr2;obtain⟨rfl,rfl⟩:=hr2;have hzl:=Fm hg hsp;have hh:=setRow_heap w g af (af.toList.take (fs.length*i.size)++aw u++af.toList.drop (fs.length*i.size+(aw u).length)).toArray e (0,0) hg;rw[hsize] at hh h3⊢;have etk:af.toList.take (fs.length*7)=aC fs:=htake;refine⟨tH hh ?_,λy f hf hc=>?_⟩
   .rw[List.toList_toArray,etk];refine tG htl htll ?_;have e9:fs.length*7+(aw u).length=(fs.length+1)*7:=by simp[aw];omega
    rw[e9];exact Fk (Fl hzl (by omega))
   .obtain⟨a,cp,rfl,hcap,h1⟩:=hf;refine⟨a,cp,rfl,hcap,λhp=>?_⟩;obtain⟨b,off,rfl,hlt,hcs2⟩:=h1 hp;refine⟨b,off,rfl,Lj hlt h3.size,λj x hj=>?_⟩;by_cases hbg2:b=g
    .subst hbg2;have hold:=hcs2 j x hj;have hjl:j<(aC f).length:=by apply LF;intro h;rw[Lu h] at hj;simp at hj
     rw[il] at hjl;have hq:j/7<f.length:=by omega
     have hk0:(aC f)[j/7*7]?=some (.int .i64 (f[j/7]).k):=Fi f (j/7) hq;have hk6:(aC f)[j/7*7+6]?=some (.int .u8 (f[j/7]).c):=Fj f (j/7) hq;have a0:=hsp b rfl _ _ (hcs2 _ _ hk0);have a6:=hsp b rfl _ _ (hcs2 _ _ hk6);have hm0:(off+j/7*7)%7=0:=by apply LP;intro h;exact a0.1 h _ rfl
     have hne:¬(fs.length*7<=off+j/\off+j<fs.length*7+7):=λh=>by have h6:=a6.2 (by omega) (by omega);have hpos:=hc (f[j/7]) (Lo hq);simp only[Value.int.injEq,true_and] at h6;omega
     rw[cell_of_row _ b _ _ e (0,0) hg] at hold;rw[cell_of_row _ b _ _ e (0,0) hh,List.getElem?_toArray];have htl2:(af.toList.take (fs.length*7)).length=fs.length*7:=by rw[etk,hfl]
     have hcl:af.toList[off+j]?=some x:=by simpa using hold
     by_cases hlo:off+j<fs.length*7
     .rw[List.append_assoc,LQ (by omega),List.getElem?_take_of_lt hlo];exact hcl
     .have h7:(aw u).length=7:=rfl;rw[LW (by rw[Lx,htl2,h7];omega),Lx,htl2,h7,List.getElem?_drop];have e5:fs.length*7+7+(off+j-(fs.length*7+7))=off+j:=by omega
      rw[e5];exact hcl
    .rw[World.cell?_of_block (a:=⟨b,off+j,none⟩) (h3.block b hlt (by simp[Value.ownBlock];omega))];exact hcs2 j x hj
  .have holds:∀j x,(aC fs)[j]?=some x->w.cell? ((⟨g,0,none⟩:Addr).add j)=some x:=hown.cells (g:=g) rfl;have hr2:=run_append_grow (P:=P) w t ty e i z ht hi hz ⟨g,0,none⟩ fs.length cap (aC fs) (by rw[hsize];exact hown.1) holds ad 1 c (aw u) hl7 hnew (by omega) (by omega) (growslice_fits (by omega) (by rw[hby];omega));rw[hr] at hr2;simp only[Result.ok.injEq] at hr2;obtain⟨rfl,rfl⟩:=hr2;refine⟨tH (heap_alloc_new w.drew _) ?_,λy f hf _=>hf.below ((Lf _ _).drew.alloc (Lc _) _)⟩;rw[Array.toList_append,Array.toList_append,List.toList_toArray,List.toList_toArray];exact tG htl htll (yN hzc _)
theorem Fp{P:Program}{w:World}{ops:Array Oper}{rest:List Oper}{o:Oper}{a:Act}{Q:Exit->Act->World->Prop}(hgd:o.guard=none)(s x:Operand)(t:TypeId)(ho:o.op=.call {callee:=.builtin .append,args:=#[s,x],argTypes:=#[t,t]})(base:Nat)(e:TypeId)(i:TypeInfo)(z:Value)(ht:P.underlying t=some (.slice e))(hi:P.info? e=some i)(hz:i.zero=some z)(hsize:i.size=7)(hby:i.bytes=24)(hzc:z.cells=#[.int .i64 0,.int .u16 0,.int .u16 0,.int .u16 0,.int .u16 0,.int .u8 0,.int .u8 0])(v:Value)(fs:List Ft)(hs:a.eval s=v)(hown:w.ownsRow base e 7 v fs.length (aC fs))(hsp:gX w v fs.length)(u:Ft)(ad:Addr)(c:Nat)(hx:a.eval x=.slice (some ad) 1 c)(hnew:∀j x,(aw u)[j]?=some x->w.cell? (ad.add j)=some x)(hb:fs.length<=1000000000000)(hbase:base<=w.heap.size)(hK:∀v' w',w'.ownsRow base e 7 v' (fs++[u]).length (aC (fs++[u]))->w.grownBy w' v.ownBlock->gX w' v' (fs++[u]).length->(∀y f,Fv w y f->(∀s∈f,0<s.c)->Fv w' y f)->wpList P ops Q rest (a.put o.dst v') w'):wpList P ops Q (o::rest) a w:=by refine wpList_plain hgd λK hK'=>?_;obtain⟨v',w',hr,h2,h3,h4,h5⟩:=Fo (P:=P) w base t o.type e i z ht hi hz hsize hby hzc v fs hown hsp u ad c hnew hb hbase;unfold Oper.wp execOp;simp only[ho,resolve,invoke,builtin,Sem.run_bind,Sem.run_pure,Result.andThen_ok,List.map_toArray,List.map_cons,List.map_nil,hs,hx,hr];exact hK' _ _ (hK v' w' h2 h3 h4 h5)
structure jE(n0 lb:Nat)(W:World)(acc:List Ft)(v:Value):Prop where
 box:W.ownsRow n0 92 1 (ox lb) 1 [v]
 row:W.ownsRow n0 95 7 v acc.length (aC acc)
 sp:gX W v acc.length
theorem jE.next{n0 lb:Nat}{W W':World}{acc:List Ft}{v:Value}(h:jE n0 lb W acc v)(hb:Below W.heap.size W W'):jE n0 lb W' acc v:=
 ⟨aK h.box hb,aK h.row hb,h.sp.block λg hg=>hb.block g (Lb h.row g hg).2⟩
theorem Fq{n0 lb:Nat}{W:World}{v:Value}(h:W.ownsRow n0 92 1 (ox lb) 1 [v])(hv:∃a n c,v=.slice a n c):bU jA W lb:=by
 rcases h.2 with ⟨h1,_⟩|⟨g2,cap,af,h1,_,hh,_,_,hcs,htake⟩
 .simp[ox] at h1
 .simp only[ox,LB,LA,Addr.mk.injEq,and_true,true_and] at h1;obtain⟨rfl,rfl⟩:=h1;refine mF hh λu hu=>?_;have e:af.toList=[v]:=by rw[<-htake,Lz (by rw[Array.length_toList,hcs];omega)]
  rw[e,Lw] at hu;subst hu;obtain⟨a,n,c,rfl⟩:=hv;intro x e;simp at e
theorem Fr(n0 lb sb ob:Nat)(v:Value)(acc:List Ft)(t:Ft)(w:World)(hB:n0<=w.heap.size)(he:jE n0 lb w acc v)(hl:acc.length<=1000000000000):Calls prog 106 #[bX t,.pointer (some ⟨lb,0,none⟩)] w λe w'=>e=.returned (.bool true)/\(∃v',jE n0 lb w' (acc++[t]) v')/\ai (λk=>k=lb\/v.ownBlock=some k) w w'/\∀y f,Fv w y f->(∀s∈f,0<s.c)->Fv w' y f:=by
 obtain⟨i0,hi,hz0,hz1,hz2⟩:=info_parts Tryz.infoFt;have HI:=ac (Lg hi (Lg hz0 (Lg hz1 hz2)));clear hi hz0 hz1 hz2;obtain⟨va,vc,rfl⟩:=cw he.row;obtain⟨w1,hw1⟩:∃w1,w1=w.alloc (.cells #[.int .i64 t.k,.int .u16 t.a,.int .u16 t.b,.int .u16 t.d,.int .u16 t.z,.int .u8 t.pl,.int .u8 t.c] 95):=⟨_,rfl⟩;have HB1:Ma (Below w.heap.size w w1):=by rw[hw1];exact aj
 have HX1:Ma (eU w1 w.heap.size 0 t):=by rw[hw1];exact(show Bx w.heap.size _ w.heap.size t from iM (Lc _) t).at
 have HE1:=ac (he.next HB1.o);have HE2:=ac (HE1.o.next (aj (A:=.cells #[.int .i64 t.k,.int .u16 t.a,.int .u16 t.b,.int .u16 t.d,.int .u16 t.z,.int .u8 t.pl,.int .u8 t.c] 95)));have c0:=La HE1.o.box 0 (by omega);simp only[List.getElem?_cons_zero] at c0;obtain⟨y0,y1,y2,y3,y4,y5,y6⟩:=HX1.o;simp only[Ly] at y0 y1 y2 y3 y4 y5 y6;have HB12:Ma (n0<=w1.heap.size):=Lk hB HB1.o.size;clear he;unfold bX;go_enter func106,ntmps106;go_upto_region 1 with fail;rw[<-hw1];clear hw1;go_wp2_with (at_builtin;refine Fp rfl (.tmp 4) (.tmp 6) 92 rfl n0 95 i0 _ underlying92 HI.o.1 HI.o.2.1 HI.o.2.2.1 HI.o.2.2.2 rfl (.slice va acc.length vc) acc rfl HE2.o.row HE2.o.sp t ⟨w1.heap.size,0,none⟩ 1 rfl (kM _ _ _) hl (by have:=HB12.o;simp;omega) ?_;intro v9 w9 r1 r2 r3 r4;rw[show (acc++[t]).length=acc.length+1 from by simp] at r1 r3;obtain⟨va9,vc9,hv9⟩:=cw r1;subst hv9;have R1:=ac r1;have R2:=ac r2;have R3:=ac r3;have R4:=ac r4;have HBX:=ac (World.ownsRow.kept HE2.o.box r2 (i6 (by decide) HE2.o.box HE2.o.row|>λh=>by rcases h with h|h;exact L0 h;exact L3 h));have d0:=La HBX.o 0 (by omega);have d1:=K8 HBX.o 0;simp only[List.getElem?_cons_zero] at d0;clear r1 r2 r3 r4);go_ret;have hl9:(acc++[t]).length=acc.length+1:=by simp
 have s:=HBX.o.stored 0 (.slice va9 (acc.length+1) vc9);have hT:∀k,k=lb->b8 w9 95 k:=λk e=>by subst e;exact bp HBX.o rfl (by decide)
 have hne:∀g,(Value.slice va9 (acc.length+1) vc9).ownBlock=some g->g≠lb:=λg hg e=>by obtain⟨af,e2⟩:=dp R1.o hg;exact hT g e af e2
 have hfs:ai (λk=>k=lb) w9 (w9.setCell ⟨lb,0,none⟩ (.slice va9 (acc.length+1) vc9)):=ai.of_grown s.2 λk e=>by simpa using e.symm
 have hb2:Below w.heap.size w (w1.alloc (.cells #[.int .i64 t.k,.int .u16 t.a,.int .u16 t.b,.int .u16 t.d,.int .u16 t.z,.int .u8 t.pl,.int .u8 t.c] 95)):=HB1.o.trans (aj.mono HB1.o.size);refine⟨rfl,⟨.slice va9 (acc.length+1) vc9,by have h:=s.1;exact h,by rw[hl9];exact dN hfs R1.o hT,by rw[hl9];exact R3.o.block λg hg=>Below.heap_setCell _ _ _ _ (hne g hg)⟩,?_,λy f hf hc=>iI hfs (λk e=>by subst e;exact Fq HBX.o ⟨_,_,_,rfl⟩) (R4.o y f (hf.below hb2) hc)⟩;refine((ai.of_below hb2).trans (ai.of_grown (S:=λk=>(Value.slice va acc.length vc).ownBlock=some k) R2.o λk e=>e) λk _ e=>L3 e).trans hfs λk _ e=>L0 e
theorem Fs{w:World}{tb:Nat}{t:Ft}(h:eU w tb 0 t):Fv w (.slice (some ⟨tb,0,none⟩) 1 1) [t]:=by
 refine⟨_,_,rfl,Lc _,λ_=>⟨tb,0,rfl,Lq w _ h.1,λj u hj=>?_⟩⟩;have e:aC [t]=aw t:=by simp[aC]
 rw[e] at hj;have hl:j<7:=by apply LF;intro h;rw[Lu (by simpa [aw] using h)] at hj;simp at hj
 obtain⟨h0,h1,h2,h3,h4,h5,h6⟩:=h;have:j=0\/j=1\/j=2\/j=3\/j=4\/j=5\/j=6:=by omega
 rcases this with rfl|rfl|rfl|rfl|rfl|rfl|rfl<;>simp[aw] at hj<;>subst hj
 .exact h0
 .exact h1
 .exact h2
 .exact h3
 .exact h4
 .exact h5
 .exact h6
theorem Fu{w:World}{tb:Nat}{t:Ft}(h:Fv w (.slice (some ⟨tb,0,none⟩) 1 1) [t]):eU w tb 0 t:=by obtain⟨a,cap,e,_,h⟩:=h;obtain⟨b,off,e2,_,h3⟩:=h (by simp);subst e2;simp only[LB,LA,Addr.mk.injEq,and_true] at e;obtain⟨⟨rfl,rfl⟩,_,_⟩:=e;exact mN λj u hj=>h3 j u (by simpa [aC] using hj)
theorem Fw(n0 sb ob lb:Nat)(y:Value)(f:List Ft):qj n0 sb ob (λk=>k=lb) (λW acc=>(∃v,jE n0 lb W acc v)/\Fv W y f) where
 next:=fun⟨⟨v,h⟩,hy⟩ hb=>⟨⟨v,h.next hb⟩,hy.below hb⟩
 sum:=fun {W W' acc rw us rows} ⟨⟨v,h⟩,hy⟩ hs hx hf=>by
  have hT:∀k,fK sb rw k->b8 W 95 k:=λk hk=>by
   rcases hk with rfl|hk
   .exact bp hs.box rfl (by decide)
   .exact bp hs.rws.own hk (by decide)
  refine⟨⟨v,hf.own h.box λg hg hs2=>?_,dN hf h.row hT,h.sp.block λg hg=>hf.block g (Lb h.row g hg).2 λhs2=>?_⟩,iI hf (λg hg=>?_) hy⟩
  .simp only[ox,Value.ownBlock,LA] at hg;subst hg;rcases hs2 with e|e
   .exact(hx lb rfl).2 e
   .exact(hx lb rfl).1 e
  .obtain⟨af,e⟩:=dp h.row hg;exact hT g hs2 af e
  .rcases hg with rfl|hg
   .exact hs.kind
   .intro j u hu x e;obtain⟨a,n,c,h2⟩:=hs.rws.kind g hg j u hu;rw[h2] at e;cases e
theorem Fx(n0 sb ob lb:Nat)(y:Value)(f:List Ft)(hyc:∀s∈f,0<s.c)(W:World)(acc:List Ft)(t:Ft)(tb:Nat)(hE:(∃v,jE n0 lb W acc v)/\Fv W y f)(hB:n0<=W.heap.size)(ht:eU W tb 0 t)(hc:0<t.c)(hl:acc.length<=1000000000000):Calls prog 106 #[bX t,.pointer (some ⟨lb,0,none⟩)] W λe w'=>e=.returned (.bool ((fun(_:List Ft)(_:Ft)=>true) acc t))/\((∃v,jE n0 lb w' (acc++[t]) v)/\Fv w' y f)/\Below n0 W w'/\eU w' tb 0 t/\∀rw us rows,bB n0 W sb ob rw us rows->(∀k,k=lb->rw.ownBlock≠some k/\k≠sb)->(∀r∈rows,∀u∈r,0<u.c)->bB n0 w' sb ob rw us rows:=by
 obtain⟨⟨v,hE⟩,hy⟩:=hE;refine(Fr n0 lb sb ob v acc t W hB hE hl).mono ?_;rintro e w' ⟨rfl,h1,h2,h3⟩;have hft:Fv W (.slice (some ⟨tb,0,none⟩) 1 1) [t]:=Fs ht;refine⟨rfl,⟨h1,h3 _ _ hy hyc⟩,h2.to_below hB λx hx=>?_,?_,λrw us rows hs hx hcc=>?_⟩
 .rcases hx with rfl|hx
  .exact(Lb hE.box x rfl).1
  .exact(Lb hE.row x hx).1
 .exact Fu (h3 _ _ hft λs hs=>by simp at hs;subst hs;exact hc)
 .have hT:∀{T:TypeId},95≠T->92≠T->∀k,(k=lb\/v.ownBlock=some k)->b8 W T k:=λa1 a2 k hk=>by
   rcases hk with rfl|hk
   .exact bp hE.box rfl a2
   .exact bp hE.row hk a1
  have hrw:∀g,rw.ownBlock=some g->¬(g=lb\/v.ownBlock=some g):=λg hg hk=>by
   rcases hk with rfl|hk
   .exact(hx g rfl).1 hg
   .obtain⟨af,e⟩:=dp hs.rws.own hg;exact bp hE.row hk (T':=92) (by decide) af e
  have hsb:¬(sb=lb\/v.ownBlock=some sb):=λhk=>by obtain⟨af,e⟩:=dp hs.box (g:=sb) rfl;exact hT (T:=157) (by decide) (by decide) sb hk af e
  refine⟨dN h2 hs.box (hT (by decide) (by decide)),h2.kdb hs.kind hs.lt.2 hsb,hs.rws.len,h2.own hs.rws.own hrw,λg hg=>h2.kdb (hs.rws.kind g hg) (Lb hs.rws.own g hg).2 (hrw g hg),λi hi=>h3 _ _ (hs.rws.fvs i hi) λs hs2=>?_⟩;have hi2:rows.getD i []∈rows:=by rw[Lr,Ls hi];exact Lo hi
  exact hcc _ hi2 s hs2
theorem xT(p k0 k1 k2:Int)(R:Nat)(Gp:Ft->Prop)(ms:List Mm)(J:List (List Ft)->List Ft->Prop)(I:Ft->List (List Ft)->List Ft->Prop)(n0:Nat)(w0:World)(ob mb sb:Nat)(sv rw:Value)(us:List Value)(rows:List (List Ft))(w:World)(hcx:oy p k0 k1 k2 R Gp ms)(hdi:oz p k0 k1 k2 Gp ms J I (λ_ _=>true))(hla:∀t rows acc,I t rows acc->acc.length<=1000000000000)(hm:kO p w0 mb R ms)(hob:bk w0 ob p k0 k1 k2 sv)(hsz:w0.heap.size=n0)(hb:Below n0 w0 w)(hn:n0<=w.heap.size)(hs:bB n0 w sb ob rw us rows)(hr:aO p Gp rows)(hl:rows.length<=65)(hJ:J rows [])(hK:∀f∈rows,∀u∈f,u.k<1000000000000000000)(y:Value)(yf:List Ft)(hy:Fv w y yf)(hyc:∀s∈yf,0<s.c):Calls prog 82 #[.pointer (some ⟨mb,0,none⟩),.pointer (some ⟨sb,0,none⟩)] w λe w'=>Below n0 w0 w'/\∃u acc,e=.returned u/\w'.ownsRow n0 95 7 u acc.length (aC acc)/\gX w' u acc.length/\Fv w' y yf/\∃rows rows2,J rows acc/\aO p Gp rows/\Nx p rows none rows2:=by
 obtain⟨w1,hw1⟩:∃w1,w1=w.alloc (.cells #[.slice none 0 0] 92):=⟨_,rfl⟩;have HB1:Ma (Below w.heap.size w w1):=by rw[hw1];exact aj
 have HE1:Ma ((∃v,jE n0 w.heap.size w1 [] v)/\Fv w1 y yf):=by refine⟨⟨.slice none 0 0,?_,World.ownsRow_nil _ _ _ _,gX.nil _ _⟩,hy.below HB1.o⟩;rw[hw1];exact⟨by simp,.inr ⟨w.heap.size,1,_,rfl,hn,heap_alloc_new w _,Lc _,by decide,by simp,by simp⟩⟩
 have HDV:=ac (Fy 106 (L3 rfl) p k0 k1 k2 R Gp ms J I (λ_ _=>true) (λk=>k=w.heap.size) (λW acc=>(∃v,jE n0 w.heap.size W acc v)/\Fv W y yf) n0 w0 ob mb w.heap.size sb sv rw us rows [] w1 hcx hdi (Fw n0 sb ob w.heap.size y yf) (λW acc t tb h1 h2 h3 h4 h5=>Fx n0 sb ob w.heap.size y yf hyc W acc t tb h1 h2 h3 h4 (by obtain⟨rows,h5⟩:=h5;exact hla _ _ _ h5)) hm hob hsz (hb.trans (HB1.o.mono hn)) (Lk hn HB1.o.size) (hs.next HB1.o) (λk e=>by
  subst e;have h1:=hs.lt.2;refine⟨λe=>?_,by omega⟩;have:=(Lb hs.rws.own _ e).2;omega) (λk e=>by subst e;rw[hw1];simp) hr hl HE1.o hJ hK)
 have HSP:Ma (∀W,Below n0 w0 W->W.cell? ⟨mb,4,none⟩=some (.pointer none)):=λW h=>ae hm.work (by rw[hsz];exact h);have HSPT:=ac sV;clear hcx hdi hla hm hob hb hs hr hl hJ hK;go_enter func82,ntmps82;go_upto_region 2 with fail;rw[<-hw1];clear hw1;go_wp2_with (first|(go_at_call 103;refine HDV.o.mono ?_;rintro e w9 ⟨rfl,q1,q2,acc,⟨⟨v9,q3⟩,q5⟩,q4⟩;have HY9:=ac q5;have HB9:=ac q1;have HE9:=ac q3;have HR9:=ac q4;have c9:=La q3.box 0 (by omega);simp only[List.getElem?_cons_zero] at c9;have m9:=HSP.o w9 q1;obtain⟨va9,vc9,hv9⟩:=cw q3.row;subst hv9;clear q1 q2 q3 q4 q5)|(go_at_call 86;refine(HSPT.o _).mono ?_;rintro e w8 ⟨rfl,n8,rfl⟩;have HB9:=ac (below_drewN HB9.o n8);have HE9:=ac (HE9.o.next (below_drewN (Lf _ _) n8));have HY9:=ac (HY9.o.below (below_drewN (Lf _ _) n8));have c9:=La HE9.o.box 0 (by omega);simp only[List.getElem?_cons_zero] at c9));go_ret;refine⟨HB9.o,_,acc,rfl,HE9.o.row,HE9.o.sp,HY9.o,?_⟩;rcases HR9.o with ⟨rows,rows2,hj,h2,h3⟩|⟨t,rows,acc0,_,_,_,_,_,_,_,g8,_⟩
 .exact⟨rows,rows2,hj,h2,h3⟩
 .simp at g8
end Go.Proofs.YteimdcndjjclnaaGreat
namespace Go.Proofs.YteimdcndjjclnaaGreat
set_option linter.all false
open Go.Proofs.Tryz Go.RowKit Go.Sort
theorem D5{P:Program}{w:World}{ops:Array Oper}{rest:List Oper}{o:Oper}{a:Act}{Q:Exit->Act->World->Prop}(hgd:o.guard=none)(s x:Operand)(t:TypeId)(ho:o.op=.call {callee:=.builtin .append,args:=#[s,x],argTypes:=#[t,t]})(base:Nat)(e:TypeId)(zz:Value)(size bytes:Nat)(ht:P.underlying t=some (.slice e))(hi:(P.info? e).map (λi=>(i.zero,i.size,i.bytes))=some (some zz,size,bytes))(hzs:zz.cells.size=size)(hsz:0<size)(v:Value)(n:Nat)(xs:List Value)(hs:a.eval s=v)(hown:w.ownsRow base e size v n xs)(ad:Addr)(m c:Nat)(news:List Value)(hl:news.length=m*size)(hx:a.eval x=.slice (some ad) m c)(hnew:∀j u,news[j]?=some u->w.cell? (ad.add j)=some u)(h1:∀u∈news,u.oneCell'=true)(h63:n+m<=maxLen)(hbytes:(n+m)*bytes<=140737488355328)(hbase:base<=w.heap.size)(hK:∀v' w',w'.ownsRow base e size v' (n+m) (xs++news)->w.grownBy w' v.ownBlock->wpList P ops Q rest (a.put o.dst v') w'):wpList P ops Q (o::rest) a w:=by refine wpList_plain hgd λK hK'=>?_;obtain⟨i,hi0,hz0,hz1,hz2⟩:=info_parts hi;obtain⟨v',w',hr,h2,h3,_⟩:=run_append_own (P:=P) w base t o.type e i zz size bytes ht hi0 hz0 hz1 hz2 hzs hsz v n xs hown ad m c news hl hnew h1 h63 hbytes hbase;unfold Oper.wp execOp;simp only[ho,resolve,invoke,builtin,Sem.run_bind,Sem.run_pure,Result.andThen_ok,List.map_toArray,List.map_cons,List.map_nil,hs,hx,hr];exact hK' _ _ (hK v' w' h2 h3)
theorem oq{w:World}{B:Nat}{T:TypeId}{s:Nat}{v:Value}{n:Nat}{xs:List Value}(h:w.ownsRow B T s v n xs)(hn:0<xs.length):∃g cap,v=.slice (some ⟨g,0,none⟩) n cap/\B<=g/\g<w.heap.size/\n<=cap:=by
 rcases h.2 with ⟨rfl,h0⟩|⟨g,cap,af,rfl,hb,hg,hnc,_⟩
 .have:=h.1;rw[h0] at this;simp at this;rw[this] at hn;simp at hn
 .exact⟨g,cap,rfl,hb,(Lb h g rfl).2,hnc⟩
def tI(w:World)(v:Value)(fs:List Ft):Prop:=∃b off c u,v=.slice (some ⟨b,off,none⟩) 1 c/\w.cell? ⟨b,off,none⟩=some u/\Fv w u fs
theorem tI.below{w w':World}{v:Value}{fs:List Ft}(h:tI w v fs)(hb:Below w.heap.size w w'):tI w' v fs:=by obtain⟨b,off,c,u,h1,h2,h3⟩:=h;exact⟨b,off,c,u,h1,ae h2 hb,h3.below hb⟩
theorem Tryz.infoFvL:(prog.info? 92).map (λi=>(i.zero,i.size,i.bytes))=some (some (.slice none 0 0),1,24):=by kernel_rfl
end Go.Proofs.YteimdcndjjclnaaGreat
