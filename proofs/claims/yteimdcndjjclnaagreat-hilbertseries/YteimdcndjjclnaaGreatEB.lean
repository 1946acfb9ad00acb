/- How great the tips of cones may be, by how many monomials there are (plain mathematics). -/
import Derived.Test.YteimdcndjjclnaaGreatEC
import Derived.Test.YteimdcndjjclnaaGreatBA
namespace Go.Proofs.YteimdcndjjclnaaGreat.Cn
open Go.Proofs.Tryz
set_option linter.unusedSimpArgs false
set_option linter.unusedVariables false
theorem rN:∀s,nm 1 s=1
 |0=>rfl
 |s+1=>by rw[nQ,rN s];rfl
theorem rO:∀s,nm 2 s=s+1
 |0=>rfl
 |s+1=>by rw[nQ,rO s,rN]
theorem vX:∀s,2*nm 3 s=(s+1)*(s+2)
 |0=>rfl
 |s+1=>by rw[nQ,rO,Nat.mul_add,vX s];grind
def cT(s:Nat)(Q:List (Nat×Nat)):Prop:=∀q∈Q,1<=q.2->s<=q.1/\∀e,s<=e->e<=q.1->∃q'∈Q,q'.1=e/\q.2<=q'.2
theorem cT.app{s:Nat}{P Q:List (Nat×Nat)}(h:cT s P)(k:cT s Q):cT s (P++Q):=λq hq h1=>by
 rcases Lv.1 hq with hq|hq
 .exact⟨(h q hq h1).1,λe a b=>by obtain⟨q',c,d⟩:=(h q hq h1).2 e a b;exact⟨q',Lv.2 (L0 c),d⟩⟩
 .exact⟨(k q hq h1).1,λe a b=>by obtain⟨q',c,d⟩:=(k q hq h1).2 e a b;exact⟨q',Lv.2 (L3 c),d⟩⟩
def rz(c:Nat):Nat->List (Nat×Nat)
 |0=>[(c,0)]
 |j+1=>(c+1,j+1)::rz c j
theorem vY(c t:Nat):∀j,bC (rz c j) t=fE (c,j) t
 |0=>by simp[rz,bC]
 |j+1=>by
  have ih:=vY c t j;unfold bC at ih⊢;simp only[rz,List.map_cons,List.sum_cons];rw[ih];show (if c+1<=t then nm (j+1) (t-(c+1)) else 0)+(if c<=t then nm j (t-c) else 0)=if c<=t then nm (j+1) (t-c) else 0
  by_cases h:c+1<=t
  .rw[LI h,LI (show c<=t by omega),LI (show c<=t by omega)];obtain⟨k,rfl⟩:∃k,t=c+1+k:=⟨t-(c+1),by omega⟩;rw[show c+1+k-(c+1)=k by omega,show c+1+k-c=k+1 by omega,nQ]
  .rw[LH h];by_cases h2:c<=t
   .rw[LI h2,LI h2,show t-c=0 by omega,pt,pt]
   .rw[LH h2,LH h2]
theorem rP{c:Nat}{q:Nat×Nat}:∀{j},q∈rz c j->(q=(c,0))\/(q.1=c+1/\1<=q.2/\q.2<=j)
 |0,h=>L0 (by simpa [rz] using h)
 |j+1,h=>by
  rcases LL.1 h with rfl|h
  .exact L3 ⟨rfl,by simp,Lc _⟩
  .rcases rP h with h|⟨h1,h2,h3⟩
   .exact L0 h
   .exact L3 ⟨h1,h2,by omega⟩
theorem vZ(c:Nat):∀j,(c,0)∈rz c j
 |0=>by simp[rz]
 |j+1=>List.mem_cons_of_mem _ (vZ c j)
def jR(s:Nat):List (Nat×Nat)->List (Nat×Nat)
 |[]=>[]
 |q::Q=>(if q.1=s then rz s q.2 else [q])++jR s Q
theorem rQ{s:Nat}{p:Nat×Nat}:∀{Q},p∈jR s Q->(p∈Q/\p.1≠s)\/∃q∈Q,q.1=s/\p∈rz s q.2
 |[],h=>by simp[jR] at h
 |q::Q,h=>by
  rcases Lv.1 h with h|h
  .by_cases hq:q.1=s
   .rw[LI hq] at h;exact L3 ⟨q,by simp,hq,h⟩
   .rw[LH hq,Lw] at h;rw[h];exact L0 ⟨by simp,hq⟩
  .rcases rQ h with ⟨a,b⟩|⟨q',a,b⟩
   .exact L0 ⟨by simp[a],b⟩
   .exact L3 ⟨q',by simp[a],b⟩
theorem rR{s:Nat}{p:Nat×Nat}:∀{Q},p∈Q->p.1≠s->p∈jR s Q
 |q::Q,h,hp=>by
  rcases LL.1 h with rfl|h
  .exact Lv.2 (L0 (by rw[LH hp];simp))
  .exact Lv.2 (L3 (rR h hp))
theorem v8{s:Nat}{p q:Nat×Nat}:∀{Q},q∈Q->q.1=s->p∈rz s q.2->p∈jR s Q
 |r::Q,h,hq,hp=>by
  rcases LL.1 h with rfl|h
  .exact Lv.2 (L0 (by rw[LI hq];exact hp))
  .exact Lv.2 (L3 (v8 h hq hp))
theorem wd(s t:Nat):∀Q,bC (jR s Q) t=bC Q t
 |[]=>rfl
 |q::Q=>by
  show bC ((if q.1=s then rz s q.2 else [q])++jR s Q) t=bC ([q]++Q) t;rw[lm,lm,wd s t Q];congr 1;by_cases hq:q.1=s
  .rw[LI hq,vY,<-hq];simp[bC]
  .rw[LH hq]
theorem cT.raise{s:Nat}{Q:List (Nat×Nat)}(h:cT s Q):cT (s+1) (jR s Q):=λp hp h1=>by
 rcases rQ hp with ⟨a,b⟩|⟨q,a,b,c⟩
 .have hs:=h p a h1;refine⟨by have:=hs.1;omega,λe he1 he2=>?_⟩;obtain⟨q',c1,c2,c3⟩:=hs.2 e (by omega) he2;exact⟨q',rR c1 (by omega),c2,c3⟩
 .rcases rP c with rfl|⟨d1,d2,d3⟩
  .simp at h1
  .exact⟨by omega,λe he1 he2=>⟨p,hp,by omega,Lc _⟩⟩
theorem cT.later{s:Nat}{Q:List (Nat×Nat)}(h:cT s Q)(hd:∀q∈Q,q.2<=3):∀k,∃P,cT (s+k) P/\(∀t,bC P t=bC Q t)/\(∀q∈Q,∃p∈P,q.1<=p.1)/\∀p∈P,p.2<=3
 |0=>⟨Q,h,λ_=>rfl,λq hq=>⟨q,hq,Lc _⟩,hd⟩
 |k+1=>by
  obtain⟨P,h1,h2,h3,h4⟩:=cT.later h hd k;refine⟨jR (s+k) P,h1.raise,λt=>by rw[wd,h2],λq hq=>?_,λp hp=>?_⟩
  .obtain⟨p,a,b⟩:=h3 q hq;by_cases e:p.1=s+k
   .exact⟨(s+k,0),v8 a e (vZ _ _),by simp;omega⟩
   .exact⟨p,rR a e,b⟩
  .rcases rQ hp with ⟨a,_⟩|⟨q,a,b,c⟩
   .exact h4 p a
   .rcases rP c with rfl|⟨_,_,d3⟩
    .simp
    .exact Lk d3 (h4 q a)
theorem cT.tip{s:Nat}{Q:List (Nat×Nat)}(h:cT s Q){q:Nat×Nat}(hq:q∈Q){j:Nat}(hj:1<=j)(hjq:j<=q.2):q.1+1<=s+(Q.filter λp=>decide (j<=p.2)).length:=by
 have hs:=h q hq (by omega);have:=lp ((List.range (q.1+1-s)).map λi=>s+i) ((Q.filter λp=>decide (j<=p.2)).map Prod.fst)
  (List.Pairwise.map _ (λa b hne e=>hne (by omega)) List.nodup_range) λx hx=>by obtain⟨i,hi,rfl⟩:=LC.1 hx;rw[List.mem_range] at hi;obtain⟨q',a,b,c⟩:=hs.2 (s+i) (by omega) (by omega);exact LC.2 ⟨q',LR.2 ⟨a,by simp;omega⟩,b⟩
 simp at this;have:=hs.1;omega
def nD(j:Nat):List (Nat×Nat)->Int
 |[]=>0
 |q::Q=>(if q.2=j then 1 else 0)+nD j Q
def tD(j:Nat):List (Nat×Nat)->Int
 |[]=>0
 |q::Q=>(if q.2=j then (q.1:Int) else 0)+tD j Q
def sD(j:Nat):List (Nat×Nat)->Int
 |[]=>0
 |q::Q=>(if q.2=j then (q.1:Int)*q.1 else 0)+sD j Q
def zD(t:Nat):List (Nat×Nat)->Int
 |[]=>0
 |q::Q=>(if q.2=0/\q.1=t then 1 else 0)+zD t Q
theorem rS(q:Nat×Nat)(Q:List (Nat×Nat))(t:Nat):bC (q::Q) t=fE q t+bC Q t:=by simp[bC]
theorem rT(t:Nat):∀(Q:List (Nat×Nat)),(∀q∈Q,q.2<=3)->(∀q∈Q,1<=q.2->q.1<=t)->(2*bC Q t:Int)=nD 3 Q*((t:Int)*t)+(3*nD 3 Q-2*tD 3 Q+2*nD 2 Q)*t+(sD 3 Q-3*tD 3 Q+2*nD 3 Q-2*tD 2 Q+2*nD 2 Q+2*nD 1 Q)+2*zD t Q
 |[],_,_=>by simp[bC,nD,tD,sD,zD]
 |(c,j)::Q,h1,h2=>by
  have ih:=rT t Q (λq hq=>h1 q (by simp[hq])) (λq hq=>h2 q (by simp[hq]));have hj:=h1 (c,j) (by simp);have hc:=h2 (c,j) (by simp);simp only at hj hc;rw[rS];simp only[nD,tD,sD,zD];rcases (show j=0\/j=1\/j=2\/j=3 by omega) with rfl|rfl|rfl|rfl
  .by_cases h:c=t
   .subst h;have e:fE (c,0) c=1:=by simp[fE,nm]
    rw[e];simp;grind
   .have e:fE (c,0) t=0:=by
     simp only[fE,nm];by_cases h3:c<=t
     .rw[LI h3,LH (by omega)]
     .rw[LH h3]
    rw[e];simp[h];grind
  .have e:fE (c,1) t=1:=by show (if c<=t then nm 1 (t-c) else 0)=1;rw[LI (hc (by omega)),rN]
   rw[e];simp;grind
  .have e:(fE (c,2) t:Int)=t-c+1:=by show (((if c<=t then nm 2 (t-c) else 0):Nat):Int)=_;have:=hc (by omega);rw[LI this,rO];omega
   simp only[Int.natCast_add];rw[e];simp;grind
  .have hct:=hc (by omega);have e:(2*fE (c,3) t:Int)=((t:Int)-c+1)*(t-c+2):=by
    show (2*(((if c<=t then nm 3 (t-c) else 0):Nat):Int))=_;rw[LI hct];have h:=vX (t-c);have h':((2*nm 3 (t-c):Nat):Int)=(((t-c+1)*(t-c+2):Nat):Int):=by rw[h]
    simp only[Int.natCast_mul,Int.natCast_add] at h';rw[Int.ofNat_sub hct] at h';exact h'
   simp only[Int.natCast_add];rw[Int.mul_add,e];simp;grind
theorem Cx{a b c m:Int}(h0:a*(m*m)+b*m+c=0)(h1:a*((m+1)*(m+1))+b*(m+1)+c=0)(h2:a*((m+2)*(m+2))+b*(m+2)+c=0):a=0/\b=0/\c=0:=by
 have e1:a*((m+1)*(m+1))=a*(m*m)+2*(a*m)+a:=by grind
 have e2:a*((m+2)*(m+2))=a*(m*m)+4*(a*m)+4*a:=by grind
 have e3:b*(m+1)=b*m+b:=by grind
 have e4:b*(m+2)=b*m+2*b:=by grind
 have ha:a=0:=by omega
 subst ha;have hb:b=0:=by omega
 subst hb;refine⟨rfl,rfl,by omega⟩
theorem pw(j:Nat):∀Q,0<=nD j Q
 |[]=>by simp[nD]
 |q::Q=>by have:=pw j Q;simp only[nD];split<;>omega
theorem we:∀Q:List (Nat×Nat),(∀q∈Q,q.2<=3)->((Q.filter λp=>decide (3<=p.2)).length:Int)=nD 3 Q/\((Q.filter λp=>decide (2<=p.2)).length:Int)=nD 3 Q+nD 2 Q/\((Q.filter λp=>decide (1<=p.2)).length:Int)=nD 3 Q+nD 2 Q+nD 1 Q
 |[],_=>by simp[nD]
 |(c,j)::Q,h=>by obtain⟨h1,h2,h3⟩:=we Q λq hq=>h q (by simp[hq]);have hj:=h (c,j) (by simp);simp only at hj;simp only[nD,List.filter_cons];rcases (show j=0\/j=1\/j=2\/j=3 by omega) with rfl|rfl|rfl|rfl<;>simp<;>omega
theorem wg{t:Nat}{q:Nat×Nat}:∀{Q},q∈Q->q.2=0->q.1=t->0<zD t Q
 |p::Q,h,h1,h2=>by
  have nn:∀Q,0<=zD t Q:=λQ=>by
   induction Q with
   |nil=>simp[zD]
   |cons q Q ih=>simp only[zD];split<;>omega
  rcases LL.1 h with rfl|h
  .have:=nn Q;simp only[zD];rw[LI ⟨h1,h2⟩];omega
  .have:=wg h h1 h2;simp only[zD];split<;>omega
theorem wh{t:Nat}:∀{Q},(∀q∈Q,q.1<t)->zD t Q=0
 |[],_=>rfl
 |q::Q,h=>by have:=h q (by simp);simp only[zD];rw[LH (by omega),wh λp hp=>h p (by simp[hp])];rfl
theorem wi:∀Q:List (Nat×Nat),∃T,∀q∈Q,q.1<T
 |[]=>⟨0,by simp⟩
 |q::Q=>by
  obtain⟨T,h⟩:=wi Q;refine⟨q.1+1+T,λp hp=>?_⟩;rcases LL.1 hp with rfl|hp
  .omega
  .have:=h p hp;omega
theorem wj:∀(n:Nat)(l:List Nat)(s:Nat),l.length=n->(∀a∈l,s<=a/\∀e,s<=e->e<=a->e∈l)->2*l.sum+n<=2*(n*s)+n*n
 |0,l,s,hl,_=>by have:l=[]:=LV.1 hl;subst this;simp
 |n+1,l,s,hl,h=>by
  have hmax:∀k:List Nat,k≠[]->∃m∈k,∀a∈k,a<=m:=by
   intro k;induction k with
   |nil=>exact λh=>absurd rfl h
   |cons a k ih=>
    intro _;by_cases hk:k=[]
    .subst hk;exact⟨a,by simp,λb hb=>by simp at hb;omega⟩
    .obtain⟨m,h1,h2⟩:=ih hk;by_cases ham:m<=a
     .refine⟨a,by simp,λb hb=>?_⟩;rcases LL.1 hb with rfl|hb
      .exact Lc _
      .exact Lk (h2 b hb) ham
     .refine⟨m,List.mem_cons_of_mem _ h1,λb hb=>?_⟩;rcases LL.1 hb with rfl|hb
      .omega
      .exact h2 b hb
  obtain⟨m,m1,m2⟩:=hmax l (λe=>by rw[e] at hl;simp at hl);have hm:=h m m1;have hlen:m+1<=s+l.length:=by
   have:=lp ((List.range (m+1-s)).map λi=>s+i) l (List.Pairwise.map _ (λa b hne e=>hne (by omega)) List.nodup_range) λx hx=>by obtain⟨i,hi,rfl⟩:=LC.1 hx;rw[List.mem_range] at hi;exact hm.2 _ (by omega) (by omega)
   simp at this;have:=hm.1;omega
  have hs:l.sum=m+(l.erase m).sum:=by have hp:=List.perm_cons_erase m1;rw[hp.sum_nat,List.sum_cons]
  have ih:=wj n (l.erase m) s (by rw[List.length_erase_of_mem m1];omega) λa ha=>by
   have ha':=List.mem_of_mem_erase ha;refine⟨(h a ha').1,λe h1 h2=>?_⟩;have he:=(h a ha').2 e h1 h2;by_cases hem:e=m
   .have:a=m:=Nat.le_antisymm (m2 a ha') (by omega);rw[hem];rw[this] at ha;exact ha
   .exact(List.mem_erase_of_ne hem).2 he
  have e1:(n+1)*s=n*s+s:=Nat.succ_mul n s;have e2:(n+1)*(n+1)=n*n+2*n+1:=by grind
  omega
theorem wl{Q:List (Nat×Nat)}(hs:cT 9 Q){j:Nat}(hj:1<=j):2*((Q.filter λp=>decide (j<=p.2)).map Prod.fst).sum+(Q.filter λp=>decide (j<=p.2)).length<=2*((Q.filter λp=>decide (j<=p.2)).length*9)+(Q.filter λp=>decide (j<=p.2)).length*(Q.filter λp=>decide (j<=p.2)).length:=by
 refine wj (Q.filter λp=>decide (j<=p.2)).length ((Q.filter λp=>decide (j<=p.2)).map Prod.fst) 9 (by simp) λa ha=>?_;obtain⟨q,hq,rfl⟩:=LC.1 ha;obtain⟨h1,h2⟩:=LR.1 hq;have h2:j<=q.2:=by simpa using h2
 have h:=hs q h1 (by omega);refine⟨h.1,λe e1 e2=>?_⟩;obtain⟨q',a1,a2,a3⟩:=h.2 e e1 e2;exact LC.2 ⟨q',LR.2 ⟨a1,by simp;omega⟩,a2⟩
theorem wu:∀Q:List (Nat×Nat),(∀q∈Q,q.2<=3)->(((Q.filter λp=>decide (3<=p.2)).map Prod.fst).sum:Int)=tD 3 Q/\(((Q.filter λp=>decide (2<=p.2)).map Prod.fst).sum:Int)=tD 3 Q+tD 2 Q
 |[],_=>by simp[tD]
 |(c,j)::Q,h=>by obtain⟨h1,h2⟩:=wu Q λq hq=>h q (by simp[hq]);have hj:=h (c,j) (by simp);simp only at hj;simp only[tD,List.filter_cons];rcases (show j=0\/j=1\/j=2\/j=3 by omega) with rfl|rfl|rfl|rfl<;>simp<;>omega
theorem wv(b:Int):∀Q:List (Nat×Nat),(∀q∈Q,q.2=3->b<=(q.1:Int))->b*tD 3 Q<=sD 3 Q
 |[],_=>by simp[tD,sD]
 |q::Q,h=>by
  have ih:=wv b Q λp hp=>h p (by simp[hp]);have hq:=h q (by simp);simp only[tD,sD];split
  .rename_i hj;have:=Int.mul_le_mul_of_nonneg_right (hq hj) (show (0:Int)<=(q.1:Int) by omega);rw[Int.mul_add];omega
  .rw[Int.zero_add,Int.zero_add];exact ih
theorem Cy{Q P:List (Nat×Nat)}(hs:cT 9 Q)(hd:∀q∈Q,q.2<=3)(hP:∀q∈P,q.2=3/\q.1<=6)(hl:P.length<=3)(he:∀t,bC Q t=bC P t):∀q∈Q,q.1<=900:=by
 obtain⟨T,hT⟩:=wi Q;have hP3:∀q∈P,q.2<=3:=λq hq=>by rw[(hP q hq).1];exact Lc _
 have z0:∀t,zD t P=0:=λt=>by
  have:∀P:List (Nat×Nat),(∀q∈P,q.2=3/\q.1<=6)->zD t P=0:=λP=>by
   induction P with
   |nil=>exact λ_=>rfl
   |cons q P ih=>intro h;have:=(h q (by simp)).1;simp only[zD];rw[LH (by omega),ih λp hp=>h p (by simp[hp])];rfl
  exact this P hP
 have pn:nD 3 P=P.length/\nD 2 P=0/\nD 1 P=0/\tD 2 P=0/\0<=tD 3 P/\tD 3 P<=6*P.length/\sD 3 P<=6*tD 3 P:=by
  have:∀P:List (Nat×Nat),(∀q∈P,q.2=3/\q.1<=6)->nD 3 P=P.length/\nD 2 P=0/\nD 1 P=0/\tD 2 P=0/\0<=tD 3 P/\tD 3 P<=6*P.length/\sD 3 P<=6*tD 3 P:=λP=>by
   induction P with
   |nil=>exact λ_=>by simp[nD,tD,sD]
   |cons q P ih=>intro h;obtain⟨a1,a2,a3,a4,a5,a6,a7⟩:=ih λp hp=>h p (by simp[hp]);obtain⟨b1,b2⟩:=h q (by simp);simp only[nD,tD,sD,b1];have:(q.1:Int)*q.1<=6*q.1:=Int.mul_le_mul_of_nonneg_right (by omega) (by omega);refine⟨?_,?_,?_,?_,?_,?_,?_⟩<;>simp<;>omega
  exact this P hP
 have eqP:∀t:Nat,6<=t->(2*bC P t:Int)=nD 3 P*((t:Int)*t)+(3*nD 3 P-2*tD 3 P+2*nD 2 P)*t+(sD 3 P-3*tD 3 P+2*nD 3 P-2*tD 2 P+2*nD 2 P+2*nD 1 P):=λt ht=>by
  have h:=rT t P hP3 λq hq _=>by have:=(hP q hq).2;omega
  rw[z0] at h;omega
 have eqQ:∀t:Nat,(∀q∈Q,1<=q.2->q.1<=t)->_:=λt=>rT t Q hd;have far:∀t:Nat,T+6<=t->(nD 3 Q-nD 3 P)*((t:Int)*t)+((3*nD 3 Q-2*tD 3 Q+2*nD 2 Q)-(3*nD 3 P-2*tD 3 P+2*nD 2 P))*t+((sD 3 Q-3*tD 3 Q+2*nD 3 Q-2*tD 2 Q+2*nD 2 Q+2*nD 1 Q)-(sD 3 P-3*tD 3 P+2*nD 3 P-2*tD 2 P+2*nD 2 P+2*nD 1 P))=0:=λt ht=>by
  have h1:=eqQ t λq hq _=>by have:=hT q hq;omega
  have h2:=eqP t (by omega);rw[wh λq hq=>by have:=hT q hq;omega] at h1;rw[he t] at h1;rw[h1] at h2;generalize (t:Int)=x at h2⊢;grind
 have q1:=far (T+6) (by omega);have q2:=far (T+6+1) (by omega);have q3:=far (T+6+2) (by omega);obtain⟨ca,cb,cc⟩:=Cx (m:=((T+6:Nat):Int)) q1 (by simpa using q2) (by simpa using q3);obtain⟨p1,p2,p3,p4,p5,p6,p7⟩:=pn;obtain⟨f3,f2,f1⟩:=we Q hd;obtain⟨g3,g2⟩:=wu Q hd;have n3:=pw 3 Q;have n2:=pw 2 Q;have n1:=pw 1 Q;have s3:=wv 9 Q λq hq hj=>by have:=(hs q hq (by omega)).1;omega
 have u3:=wl hs (j:=3) (by omega);have u2:=wl hs (j:=2) (by omega);generalize (Q.filter λp=>decide (3<=p.2)).length=k3 at f3 u3;generalize ((Q.filter λp=>decide (3<=p.2)).map Prod.fst).sum=w3 at g3 u3;generalize (Q.filter λp=>decide (2<=p.2)).length=k2 at f2 u2;generalize ((Q.filter λp=>decide (2<=p.2)).map Prod.fst).sum=w2 at g2 u2;have hk3:k3<=3:=by omega
 have hq3:k3*k3<=3*k3:=L5 _ hk3;have hk2:k2<=33:=by omega
 have hq2:k2*k2<=33*k2:=L5 _ hk2;have low:∀q∈Q,1<=q.2->q.1<=900:=λq hq hj=>by have:=hs.tip hq (j:=1) (by omega) hj;omega
 intro q hq;by_cases hj:1<=q.2
 .exact low q hq hj
 .apply Nat.le_of_not_lt;intro hlt;have h1:=eqQ q.1 λp hp h=>by have:=low p hp h;omega
  have h2:=eqP q.1 (by omega);rw[he q.1] at h1;have h3:=wg hq (by omega) rfl;rw[h1] at h2;have e1:nD 3 Q=nD 3 P:=by omega
  have e2:(3*nD 3 Q-2*tD 3 Q+2*nD 2 Q)=(3*nD 3 P-2*tD 3 P+2*nD 2 P):=by omega
  rw[e2,e1] at h2;omega
end Go.Proofs.YteimdcndjjclnaaGreat.Cn
namespace Go.Proofs.YteimdcndjjclnaaGreat.Cn
open Go.Proofs.Tryz
set_option linter.unusedSimpArgs false
set_option linter.unusedVariables false
theorem bI.uniq{τ:Type}{A:τ->Prop}{a b:Nat}(h:bI A a)(k:bI A b):a=b:=by
 obtain⟨l,p1,p2,p3⟩:=h;obtain⟨m,q1,q2,q3⟩:=k;have:l.Perm m:=(List.perm_ext_iff_of_nodup p1 q1).2 λx=>by rw[p2,q2]
 rw[<-p3,<-q3,this.length_eq]
theorem bI.congr{τ:Type}{A B:τ->Prop}{a:Nat}(h:bI A a)(e:∀t,A t↔B t):bI B a:=by obtain⟨l,p1,p2,p3⟩:=h;exact⟨l,p1,λt=>by rw[p2,e],p3⟩
theorem bI.none{τ:Type}{A:τ->Prop}(h:∀t,¬A t):bI A 0:=⟨[],List.Pairwise.nil,λt=>by simp[h t],rfl⟩
theorem bI.or{τ:Type}{A B:τ->Prop}{a b:Nat}(h:bI A a)(k:bI B b)(hd:∀t,A t->¬B t):bI (λt=>A t\/B t) (a+b):=by obtain⟨l,p1,p2,p3⟩:=h;obtain⟨m,q1,q2,q3⟩:=k;exact⟨l++m,List.nodup_append.2 ⟨p1,q1,λu hu v hv e=>hd u ((p2 u).1 hu) (e ▸ (q2 v).1 hv)⟩,λt=>by rw[Lv,p2,q2],by simp[p3,q3]⟩
theorem bI.map{σ τ:Type}{A:σ->Prop}{B:τ->Prop}{a:Nat}(h:bI A a)(f:σ->τ)(hf:∀x y,A x->A y->f x=f y->x=y)(e:∀t,B t↔∃s,A s/\f s=t):bI B a:=by
 obtain⟨l,p1,p2,p3⟩:=h;refine⟨l.map f,?_,λt=>?_,by simp[p3]⟩
 .refine List.pairwise_map.2 (p1.imp_of_mem λhx hy hne e=>hne (hf _ _ ((p2 _).1 hx) ((p2 _).1 hy) e))
 .rw[e,LC];exact⟨fun⟨s,h1,h2⟩=>⟨s,(p2 s).1 h1,h2⟩,fun⟨s,h1,h2⟩=>⟨s,(p2 s).2 h1,h2⟩⟩
def js(y:Mt):bR:=λi=>if i=0 then y.1 else if i=1 then y.2.1 else if i=2 then y.2.2 else 0
def kD(m:bR):Mt:=(m 0,m 1,m 2)
theorem rU(y:Mt):kD (js y)=y:=rfl
theorem rV{m:bR}(h:cJ m [0,1,2]):js (kD m)=m:=by
 funext i;by_cases hi:i=0\/i=1\/i=2
 .rcases hi with rfl|rfl|rfl<;>rfl
 .rw[h i (by simp;omega)];simp only[js];rw[LH (by omega),LH (by omega),LH (by omega)]
theorem nV(y:Mt):cJ (js y) [0,1,2]:=λi hi=>by simp at hi;simp only[js];rw[LH (by omega),LH (by omega),LH (by omega)]
theorem ww(x y:Mt):bF x y=bF y x:=by simp only[bF,Nat.add_comm]
theorem wy{B:bR->Prop}(hs:∀m,B m->cJ m [0,1,2]){s k:Nat}(h:HF B s k):bI (λy=>aG y=s/\B (js y)) k:=by
 have h2:bI (λm=>B m/\deg m=s) k:=h;refine h2.map kD (λx y hx hy e=>?_) λy=>?_
 .rw[<-rV (hs x hx.1),e,rV (hs y hy.1)]
 .exact⟨fun⟨h1,h2⟩=>⟨js y,⟨h2,h1⟩,rU y⟩,fun⟨m,⟨h1,h2⟩,h3⟩=>by rw[<-h3,rV (hs m h1)];exact⟨h2,h1⟩⟩
theorem Cz(s:Nat):bI (λy:Mt=>aG y=s) (nm 3 s):=
 (wy (B:=λm=>cJ m [0,1,2]) (λm h=>h) (HF.all [0,1,2] (by decide) (by decide) s)).congr λy=>⟨λh=>h.1,λh=>⟨h,nV y⟩⟩
theorem CA{L:Mt->Prop}(hup:∀x {y},L y->L (bF x y)):∃Q,(∀s,bI (λy=>aG y=s/\¬L y) (bC Q s))/\cT 0 Q/\(∀q∈Q,q.2<=3)/\∀g,L g->(∀x,aG x=1->dr x g->¬L (cZ x g))->aG g=0\/∃q∈Q,aG g<=q.1+1:=by
 by_cases h0:L (0,0,0)
 .have hall:∀y,L y:=λy=>by have:=hup y h0;rw[ww] at this;simpa [bF] using this
  refine⟨[],λs=>bI.none λy h=>h.2 (hall y),λq hq=>by simp at hq,λq hq=>by simp at hq,λg _ hm=>?_⟩;left;apply LP;intro hne;obtain⟨a,b,c⟩:=g;simp only[aG] at hne;rcases (show 0<a\/0<b\/0<c by omega) with h|h|h
  .exact hm (1,0,0) rfl ⟨h,Ll _,Ll _⟩ (hall _)
  .exact hm (0,1,0) rfl ⟨Ll _,h,Ll _⟩ (hall _)
  .exact hm (0,0,1) rfl ⟨Ll _,Ll _,h⟩ (hall _)
 .have hdown:kC λm=>cJ m [0,1,2]/\¬L (kD m):=λa b hab hb=>⟨nP hab hb.1,λhl=>hb.2 (by
   have h:=hup (cZ (kD a) (kD b)) hl;rw[ww,rW ⟨hab 0,hab 1,hab 2⟩] at h;exact h)⟩
  obtain⟨Q,d,D⟩:=Ct 3 [0,1,2] rfl (by decide) (by decide) ⟨λm=>cJ m [0,1,2]/\¬L (kD m),hdown,λm h=>h.1⟩ (λm h=>h.1) ⟨λ_ _=>rfl,h0⟩;have hd3:d<=3:=by obtain⟨Z,z1,z2,z3,_⟩:=D.dm;rw[<-z3];exact lp Z [0,1,2] z1 z2
  refine⟨Q,λs=>(wy (λm h=>h.1) (D.hf s)).congr λy=>?_,λq hq _=>⟨Ll _,λe _ he=>D.std q hq e he⟩,λq hq=>Lk (D.le q hq) hd3,λg hg hm=>L3 ?_⟩
  .show aG y=s/\cJ (js y) [0,1,2]/\¬L (kD (js y))↔_;rw[rU];exact⟨λh=>⟨h.1,h.2.2⟩,λh=>⟨h.1,nV y,h.2⟩⟩
  .obtain⟨q,h1,h2⟩:=D.gen (js g) (nV g) (λh=>h.2 (by rw[rU];exact hg)) λi hi=>by
    refine⟨nP (rH i _) (nV g),?_⟩;by_cases hi3:i=0\/i=1\/i=2
    .rcases hi3 with rfl|rfl|rfl
     .exact hm (1,0,0) rfl ⟨hi,Ll _,Ll _⟩
     .exact hm (0,1,0) rfl ⟨Ll _,hi,Ll _⟩
     .exact hm (0,0,1) rfl ⟨Ll _,Ll _,hi⟩
    .exact absurd (nV g i (by simp;omega)) (by omega)
   exact⟨q,h1,h2⟩
def nW(c:Nat)(Q:List (Nat×Nat)):List (Nat×Nat):=Q.map λq=>(q.1+c,q.2)
theorem rX(c t:Nat):∀Q,bC (nW c Q) t=if c<=t then bC Q (t-c) else 0
 |[]=>by simp[nW,bC]
 |q::Q=>by
  show bC ((q.1+c,q.2)::nW c Q) t=_;rw[rS,rX c t Q,rS];show (if q.1+c<=t then nm q.2 (t-(q.1+c)) else 0)+_=if c<=t then (if q.1<=t-c then nm q.2 (t-c-q.1) else 0)+bC Q (t-c) else 0
  by_cases h:c<=t
  .rw[LI h,LI h];congr 1;by_cases h2:q.1+c<=t
   .rw[LI h2,LI (by omega)];congr 1;omega
   .rw[LH h2,LH (by omega)]
  .rw[LH h,LH h,LH (by omega)]
theorem CB{c:Nat}{Q:List (Nat×Nat)}(h:cT 0 Q):cT c (nW c Q):=λq hq h1=>by obtain⟨r,hr,rfl⟩:=LC.1 hq;refine⟨by simp,λe h2 h3=>?_⟩;obtain⟨q',a,b,c'⟩:=(h r hr h1).2 (e-c) (Ll _) (by simp at h3;omega);exact⟨_,LC.2 ⟨q',a,rfl⟩,by simp only;omega,c'⟩
theorem wA{L:Mt->Prop}(hup:∀x {y},L y->L (bF x y)){c:Nat}(hc:c<=9):∃P,(∀t,c<=t->bI (λy=>aG y=t-c/\¬L y) (bC P t))/\(∀t,¬c<=t->bC P t=0)/\cT 9 P/\(∀q∈P,q.2<=3)/\∀g,L g->(∀x,aG x=1->dr x g->¬L (cZ x g))->aG g=0\/∃q∈P,aG g+c<=q.1+1:=by
 obtain⟨Q,h1,h2,h3,h4⟩:=CA hup;have hd:∀q∈nW c Q,q.2<=3:=λq hq=>by obtain⟨r,hr,rfl⟩:=LC.1 hq;exact h3 r hr
 obtain⟨P,p1,p2,p3,p4⟩:=(CB (c:=c) h2).later hd (9-c);rw[show c+(9-c)=9 by omega] at p1;refine⟨P,λt ht=>?_,λt ht=>?_,p1,p4,λg hg hm=>?_⟩
 .rw[p2,rX,LI ht];exact h1 (t-c)
 .rw[p2,rX,LH ht]
 .rcases h4 g hg hm with h|⟨q,a,b⟩
  .exact L0 h
  .obtain⟨r,r1,r2⟩:=p3 (q.1+c,q.2) (LC.2 ⟨q,a,rfl⟩);exact L3 ⟨r,r1,by simp only at r2;omega⟩
theorem rY{τ:Type}{O:Od τ}{p:Int}{T:List τ}{V W:(τ->Int)->Prop}(h:∀f,V f↔W f)(t:τ):Ld O p T V t↔Ld O p T W t:=
 ⟨fun⟨f,h1,h2⟩=>⟨f,(h f).1 h1,h2⟩,fun⟨f,h1,h2⟩=>⟨f,(h f).2 h1,h2⟩⟩
theorem wB(O:Od Tt)(P:Od Mt)(hP:∀x {s t},P.lt s t->P.lt (bF x s) (bF x t)){p:Int}(hp:Pr p)(hp1:¬p∣1)(R:Nat)(d:Nat->Nat):∀(G:List (Nat×(Tt->Int))),(∀g∈G,g.1<=9)->∃Q,cT 9 Q/\(∀q∈Q,q.2<=3)/\∀t,bI (Ld O p (Ts R d t) (Vm p R d G t)) (bC Q t)
 |[],_=>⟨[],λq hq=>by simp at hq,λq hq=>by simp at hq,λt=>bI.none λs ⟨f,h1,h2⟩=>h2.2.1 (h1 s h2.1)⟩
 |(c,g)::G,hc=>by
  obtain⟨Q,q1,q2,q3⟩:=wB O P hP hp hp1 R d G λg hg=>hc g (List.mem_cons_of_mem _ hg);obtain⟨K,k1,k2,k3,k4,_⟩:=wA (L:=LJ P p R d c g G) (λx {y} h=>h.up hP x) (hc (c,g) (by simp));refine⟨Q++K,q1.app k3,λq hq=>(Lv.1 hq).elim (q2 q) (k4 q),λt=>?_⟩;rw[lm];by_cases ht:c<=t
  .have hk:bI (λy=>y∈Ys (t-c)/\¬Ld P p (Ys (t-c)) (λa=>Vm p R d G t λs=>sm (Ys (t-c)) a (λy=>dh y g) s) y) (bC K t):=(k1 t ht).congr λy=>by rw[iZ];refine and_congr_right λe=>?_;unfold LJ;rw[e,show t-c+c=t by omega]
   have hn:=CC O P hp hp1 (lq p R d t G) (q3 t) (Ys (t-c)) (pz _) (λy=>dh y g) hk;refine hn.congr λs=>rY (λf=>?_) s;show _↔∃(a:Mt->Int)(h:Tt->Int),Vm p R d G t h/\∀s∈Ts R d t,p∣f s-(h s+if c<=t then sm (Ys (t-c)) a (λy=>dh y g) s else 0);simp only[LI ht]
  .rw[k2 t ht];refine(q3 t).congr λs=>rY (λf=>?_) s;show _↔∃(a:Mt->Int)(h:Tt->Int),Vm p R d G t h/\∀s∈Ts R d t,p∣f s-(h s+if c<=t then sm (Ys (t-c)) a (λy=>dh y g) s else 0);simp only[LH ht];exact⟨λh=>⟨λ_=>0,f,h,λs _=>⟨0,by simp⟩⟩,fun⟨_,h,h1,h2⟩=>(lq p R d t G).con (λs hs=>by have:=h2 s hs;simpa using this) h1⟩
theorem wC{A:Mt->Prop}{i k:Nat}(h:bI A k):bI (λs:Tt=>s.1=i/\A s.2) k:=
 h.map (λy=>(i,y)) (λx y _ _ e=>by simpa using e) λs=>⟨fun⟨h1,h2⟩=>⟨s.2,h2,by rw[<-h1]⟩,fun⟨y,h1,h2⟩=>by rw[<-h2];exact⟨rfl,h1⟩⟩
theorem CD(O:Od Tt)(hO:∀x {s t},O.lt s t->O.lt (di x s) (di x t))(P:Od Mt)(hP:∀x {s t},P.lt s t->P.lt (bF x s) (bF x t)){p:Int}(hp:Pr p)(hp1:¬p∣1){R:Nat}(hR:R<=3){d:Nat->Nat}(hd:∀i,i<R->d i<=6){G:List (Nat×(Tt->Int))}(hG:∀g∈G,g.1<=9){s:Tt}(hs:s.1<R)(hl:LM O p R d G s)(hm:∀x,aG x=1->dr x s.2->¬LM O p R d G (s.1,cZ x s.2)):aG s.2+d s.1<=901:=by
 obtain⟨QC,c1,c2,c3⟩:=wB O P hP hp hp1 R d G hG;have places:∀r,r<=R->∃QB PB,cT 9 QB/\(∀q∈QB,q.2<=3)/\(∀q∈PB,q.2=3/\q.1<=6)/\PB.length=r/\(∀t,bI (λu:Tt=>u.1<r/\u∈Ts R d t/\¬LM O p R d G u) (bC QB t))/\(∀t,bI (λu:Tt=>u.1<r/\u∈Ts R d t) (bC PB t))/\
   ∀u:Tt,u.1<r->LM O p R d G u->(∀x,aG x=1->dr x u.2->¬LM O p R d G (u.1,cZ x u.2))->aG u.2=0\/∃q∈QB,aG u.2+d u.1<=q.1+1:=by
  intro r;induction r with
  |zero=>exact λ_=>⟨[],[],λq hq=>by simp at hq,λq hq=>by simp at hq,λq hq=>by simp at hq,rfl,λt=>bI.none λu h=>by omega,λt=>bI.none λu h=>by omega,λu h=>by omega⟩
  |succ r ih=>
   intro hr;obtain⟨QB,PB,a1,a2,a3,a4,a5,a6,a7⟩:=ih (by omega);have hdr:=hd r (by omega);obtain⟨K,k1,k2,k3,k4,k5⟩:=wA (L:=λy=>LM O p R d G (r,y)) (λx {y} h=>LM.up hO x h) (c:=d r) (by omega);refine⟨QB++K,PB++[(d r,3)],a1.app k3,λq hq=>(Lv.1 hq).elim (a2 q) (k4 q),λq hq=>?_,by simp[a4],λt=>?_,λt=>?_,λu hu hlu hmu=>?_⟩
   .rcases Lv.1 hq with h|h
    .exact a3 q h
    .rw[Lw] at h;rw[h];exact⟨rfl,hdr⟩
   .rw[lm];have hk:bI (λu:Tt=>u.1=r/\(u∈Ts R d t/\¬LM O p R d G u)) (bC K t):=by
     by_cases ht:d r<=t
     .refine(wC (i:=r) (k1 t ht)).congr λu=>?_;obtain⟨i,y⟩:=u;rw[iA];constructor
      .rintro ⟨h0,h1,h2⟩;have h0:i=r:=h0;have h1:aG y=t-d r:=h1;subst h0;exact⟨rfl,⟨show i<R by omega,show d i+aG y=t by omega⟩,h2⟩
      .rintro ⟨h0,⟨_,h1⟩,h2⟩;have h0:i=r:=h0;have h1:d i+aG y=t:=h1;subst h0;exact⟨rfl,show aG y=t-d i by omega,h2⟩
     .rw[k2 t ht];refine bI.none λu ⟨h1,h2,_⟩=>?_;have:=(iA.1 h2).2;rw[h1] at this;omega
    refine((a5 t).or hk λu h1 h2=>by omega).congr λu=>?_;constructor
    .rintro (⟨h1,h2⟩|⟨h1,h2⟩)
     .exact⟨by omega,h2⟩
     .exact⟨by omega,h2⟩
    .rintro ⟨h1,h2⟩;by_cases h:u.1<r
     .exact L0 ⟨h,h2⟩
     .exact L3 ⟨by omega,h2⟩
   .rw[lm];have e:bC [(d r,3)] t=if d r<=t then nm 3 (t-d r) else 0:=by simp[bC,fE]
    have hk:bI (λu:Tt=>u.1=r/\u∈Ts R d t) (bC [(d r,3)] t):=by
     rw[e];by_cases ht:d r<=t
     .rw[LI ht];refine(wC (i:=r) (Cz (t-d r))).congr λu=>?_;obtain⟨i,y⟩:=u;rw[iA];constructor
      .rintro ⟨h0,h1⟩;have h0:i=r:=h0;have h1:aG y=t-d r:=h1;subst h0;exact⟨rfl,show i<R by omega,show d i+aG y=t by omega⟩
      .rintro ⟨h0,_,h1⟩;have h0:i=r:=h0;have h1:d i+aG y=t:=h1;subst h0;exact⟨rfl,show aG y=t-d i by omega⟩
     .rw[LH ht];refine bI.none λu ⟨h1,h2⟩=>?_;have:=(iA.1 h2).2;rw[h1] at this;omega
    refine((a6 t).or hk λu h1 h2=>by omega).congr λu=>?_;constructor
    .rintro (⟨h1,h2⟩|⟨h1,h2⟩)
     .exact⟨by omega,h2⟩
     .exact⟨by omega,h2⟩
    .rintro ⟨h1,h2⟩;by_cases h:u.1<r
     .exact L0 ⟨h,h2⟩
     .exact L3 ⟨by omega,h2⟩
   .by_cases h:u.1<r
    .rcases a7 u h hlu hmu with h|⟨q,b1,b2⟩
     .exact L0 h
     .exact L3 ⟨q,Lv.2 (L0 b1),b2⟩
    .have e:u.1=r:=by omega
     obtain⟨i,y⟩:=u;simp only at e;subst e;rcases k5 y hlu hmu with h|⟨q,b1,b2⟩
     .exact L0 h
     .exact L3 ⟨q,Lv.2 (L3 b1),b2⟩
 obtain⟨QB,PB,a1,a2,a3,a4,a5,a6,a7⟩:=places R (Lc _);have he:∀t,bC (QC++QB) t=bC PB t:=λt=>by
  rw[lm];refine bI.uniq (((c3 t).or (a5 t) λu h1 h2=>h2.2.2 ?_).congr λu=>?_) (a6 t)
  .have e:=(iA.1 h2.2.1).2;unfold LM;rw[e];exact h1
  .constructor
   .rintro (h|⟨h1,h2,_⟩)
    .obtain⟨f,_,h2,_⟩:=h;exact⟨(iA.1 h2).1,h2⟩
    .exact⟨h1,h2⟩
   .rintro ⟨h1,h2⟩;by_cases h:Ld O p (Ts R d t) (Vm p R d G t) u
    .exact L0 h
    .refine L3 ⟨h1,h2,λhc=>h ?_⟩;unfold LM at hc;rw[(iA.1 h2).2] at hc;exact hc
 have hb:=Cy (c1.app a1) (λq hq=>(Lv.1 hq).elim (c2 q) (a2 q)) a3 (by omega) he;have hds:=hd s.1 hs;rcases a7 s hs hl hm with h|⟨q,b1,b2⟩
 .omega
 .have:=hb q (Lv.2 (L3 b1));omega
end Go.Proofs.YteimdcndjjclnaaGreat.Cn
namespace Go.Proofs.YteimdcndjjclnaaGreat.Gb
open Go.Proofs.Tryz
set_option linter.unusedSimpArgs false
set_option linter.unusedVariables false
variable {τ M:Type}
def nX{S:bY τ M}{p:Int}(G:aV S p)(A:τ->Prop):Prop:=∀i a j b,G.live i->G.live j->S.act a (G.ld i)=S.act b (G.ld j)->A (S.act a (G.ld i))->Rl G i a j b
theorem wD[DecidableEq τ]{S:bY τ M}{p:Int}{G:aV S p}{A:τ->Prop}(hA:nX G A)(t:τ)(ht:A t):∀(rp:Rp M),(∀r∈rp,G.live r.2.2/\(S.lt (S.act r.2.1 (G.ld r.2.2)) t\/S.act r.2.1 (G.ld r.2.2)=t))->(Vb G (λs=>S.lt s t) λφ=>ev G φ rp)\/∃i a c,G.live i/\S.act a (G.ld i)=t/\(Vb G (λs=>S.lt s t) λφ=>ev G φ rp-c*Hm G i a φ)/\p∣ev G (dl t) rp-c
 |[],_=>L0 (Vb.zero λφ=>by simp[ev])
 |r::rp,h=>by
  have hr:=h r (by simp);have ih:=wD hA t ht rp λx hx=>h x (by simp[hx]);rcases hr.2 with hlt|heq
  .have hv:Vb G (λs=>S.lt s t) λφ=>r.1*ln (λs=>φ (S.act r.2.1 s)) (G.g r.2.2):=⟨[r],λx hx=>by rw[Lw] at hx;rw[hx];exact⟨hr.1,hlt⟩,λφ=>⟨0,by simp[ev]⟩⟩;rcases ih with ih|⟨i,a,c,h1,h2,h3,h4⟩
   .exact L0 ((Vb.add hv ih).congr λφ=>⟨0,by simp only[ev];omega⟩)
   .refine L3 ⟨i,a,c,h1,h2,(Vb.add hv h3).congr λφ=>⟨0,by simp only[ev];omega⟩,?_⟩;simp only[ev];rw[rL hr.1 _ _ hlt];simpa using h4
  .obtain⟨q,hq⟩:=G.inv r.2.2 hr.1;have hself:∀φ,p∣r.1*ln (λs=>φ (S.act r.2.1 s)) (G.g r.2.2)-(r.1*G.lc r.2.2)*Hm G r.2.2 r.2.1 φ:=λφ=>by
    unfold Hm;generalize ln (λs=>φ (S.act r.2.1 s)) (G.g r.2.2)=z;refine⟨-(q*r.1*z),?_⟩;have e:G.lc r.2.2*G.iv r.2.2=1+p*q:=by omega
    have e2:r.1*G.lc r.2.2*(G.iv r.2.2*z)=r.1*z*(G.lc r.2.2*G.iv r.2.2):=by grind
    rw[e2,e];grind
   have hco:ev G (dl t) (r::rp)=r.1*G.lc r.2.2+ev G (dl t) rp:=by simp only[ev];rw[vU hr.1 r.2.1 t heq]
   rcases ih with ih|⟨i,a,c,h1,h2,h3,h4⟩
   .refine L3 ⟨r.2.2,r.2.1,r.1*G.lc r.2.2,hr.1,heq,ih.congr λφ=>?_,?_⟩
    .obtain⟨z,hz⟩:=hself φ;exact⟨z,by simp only[ev];omega⟩
    .obtain⟨rq,k1,k2⟩:=ih;obtain⟨z,hz⟩:=k2 (dl t);have hz:ev G (dl t) rp-ev G (dl t) rq=p*z:=hz;rw[nS t k1] at hz;rw[hco];exact⟨z,by omega⟩
   .have hR:=hA i a r.2.2 r.2.1 h1 hr.1 (by rw[h2,heq]) (by rw[h2];exact ht);unfold Rl at hR;rw[h2] at hR;refine L3 ⟨i,a,c+r.1*G.lc r.2.2,h1,h2,((Vb.add h3 (Vb.scl (-(r.1*G.lc r.2.2)) hR)).congr λφ=>?_),?_⟩
    .obtain⟨z,hz⟩:=hself φ;refine⟨z,?_⟩;simp only[ev];grind
    .obtain⟨z,hz⟩:=h4;rw[hco];exact⟨z,by omega⟩
theorem wE[DecidableEq τ]{S:bY τ M}{p:Int}{G:aV S p}{A:τ->Prop}(hA:nX G A)(hdn:∀{s t},S.lt s t->A t->A s)(T:τ)(hT:A T):∀X:Fn τ,Vb G (λs=>S.lt s T\/s=T) X->(∀φ,p∣X φ)\/∃i a t,G.live i/\S.act a (G.ld i)=t/\¬p∣X (dl t)/\∀s,S.lt t s->p∣X (dl s):=by
 induction T using S.wf.induction with
 |_ T ih=>
  intro X hX;obtain⟨rp,h1,h2⟩:=hX;have hlow:Vb G (λs=>S.lt s T) X->(∀φ,p∣X φ)\/∃i a t,G.live i/\S.act a (G.ld i)=t/\¬p∣X (dl t)/\∀s,S.lt t s->p∣X (dl s):=by
   rintro ⟨rq,k1,k2⟩;cases rq with
   |nil=>exact L0 λφ=>by simpa [ev] using k2 φ
   |cons r rq=>
    have hmax:∀(l:Rp M)(m:τ),S.lt m T->(∀x∈l,S.lt (S.act x.2.1 (G.ld x.2.2)) T)->∃m2,S.lt m2 T/\(S.lt m m2\/m=m2)/\∀x∈l,S.lt (S.act x.2.1 (G.ld x.2.2)) m2\/S.act x.2.1 (G.ld x.2.2)=m2:=by
     intro l;induction l with
     |nil=>exact λm hm _=>⟨m,hm,L3 rfl,λx hx=>by simp at hx⟩
     |cons y l ihl=>
      intro m hm hl;obtain⟨m2,a1,a2,a3⟩:=ihl m hm λx hx=>hl x (by simp[hx]);rcases S.tri (S.act y.2.1 (G.ld y.2.2)) m2 with h|h|h
      .exact⟨m2,a1,a2,λx hx=>(LL.1 hx).elim (λe=>by rw[e];exact L0 h) (a3 x)⟩
      .exact⟨m2,a1,a2,λx hx=>(LL.1 hx).elim (λe=>by rw[e];exact L3 h) (a3 x)⟩
      .refine⟨S.act y.2.1 (G.ld y.2.2),hl y (by simp),L0 (a2.elim (λh2=>S.trans h2 h) (λe=>by rw[e];exact h)),λx hx=>(LL.1 hx).elim (λe=>by rw[e];exact L3 rfl) (λhx=>L0 ((a3 x hx).elim (λh2=>S.trans h2 h) (λe=>by rw[e];exact h)))⟩
    obtain⟨m2,b1,b2,b3⟩:=hmax rq (S.act r.2.1 (G.ld r.2.2)) (k1 r (by simp)).2 (λx hx=>(k1 x (by simp[hx])).2);refine ih m2 b1 (hdn b1 hT) X ⟨r::rq,λx hx=>⟨(k1 x hx).1,?_⟩,k2⟩;rcases LL.1 hx with rfl|hx
    .exact b2
    .exact b3 x hx
  rcases wD hA T hT rp h1 with hd|⟨i,a,c,d1,d2,d3,d4⟩
  .exact hlow (hd.congr h2)
  .by_cases hc:p∣X (dl T)
   .refine hlow (d3.congr λφ=>?_);obtain⟨z1,hz1⟩:=h2 φ;obtain⟨z2,hz2⟩:=h2 (dl T);obtain⟨z3,hz3⟩:=hc;obtain⟨z4,hz4⟩:=d4;have e:c=p*(z3-z2-z4):=by rw[Int.mul_sub,Int.mul_sub];omega
    refine⟨z1+(z3-z2-z4)*Hm G i a φ,?_⟩;rw[e];grind
   .refine L3 ⟨i,a,T,d1,d2,hc,λs hs=>?_⟩;obtain⟨z,hz⟩:=h2 (dl s);rw[nS s λr hr=>⟨(h1 r hr).1,(h1 r hr).2.elim (λh=>S.trans h hs) (λe=>by rw[e];exact hs)⟩] at hz;exact⟨z,by omega⟩
theorem CF{τ M:Type}{S:bY τ M}(canc:∀a b s,S.act a s=S.act b s->a=b){p:Int}{G:aV S p}{D:nU τ}(hdv:∀s t,D.dv s t↔∃a,S.act a s=t){P:Nat->Nat->Prop}(hcon:∀t i j,G.live i->G.live j->D.dv (G.ld i) t->D.dv (G.ld j) t->Pa (Ed D G.ld P t) i j){A:τ->Prop}(hAd:∀{s t},D.dv s t->A t->A s)(good:∀i j t,P i j->D.dv (G.ld i) t->D.dv (G.ld j) t->A (D.lc (G.ld i) (G.ld j))->∃a b,S.act a (G.ld i)=D.lc (G.ld i) (G.ld j)/\S.act b (G.ld j)=D.lc (G.ld i) (G.ld j)/\Rl G i a j b):nX G A:=by
 intro i a j b hi hj e hAt;obtain⟨t,ht⟩:∃t,S.act a (G.ld i)=t:=⟨_,rfl⟩;rw[ht] at hAt;have hp:=hcon t i j hi hj ((hdv _ _).2 ⟨a,ht⟩) ((hdv _ _).2 ⟨b,by rw[<-e,ht]⟩);have key:∀k,Pa (Ed D G.ld P t) i k->∃c,S.act c (G.ld k)=t/\Rl G i a k c:=by
  intro k hk;induction hk using Pa.ind with
  |refl=>exact⟨a,ht,Rl.refl G i a⟩
  |fwd _ e2 ih=>obtain⟨c,hc,hr⟩:=ih;obtain⟨a2,b2,h1,h2,h3⟩:=good _ _ t e2.1 e2.2.1 e2.2.2.1 (hAd e2.2.2.2 hAt);obtain⟨m,hm⟩:=(hdv _ _).1 e2.2.2.2;have e3:S.mul m a2=c:=canc _ _ _ (by rw[S.act_mul,h1,hm,hc]);have h4:=h3.shift m;rw[e3] at h4;exact⟨S.mul m b2,by rw[S.act_mul,h2,hm],Rl.trans (by rw[ht,hc]) hr h4⟩
  |bwd _ e2 ih=>obtain⟨c,hc,hr⟩:=ih;obtain⟨a2,b2,h1,h2,h3⟩:=good _ _ t e2.1 e2.2.1 e2.2.2.1 (hAd e2.2.2.2 hAt);obtain⟨m,hm⟩:=(hdv _ _).1 e2.2.2.2;have e3:S.mul m b2=c:=canc _ _ _ (by rw[S.act_mul,h2,hm,hc]);have h4:=h3.shift m;rw[e3] at h4;have e4:=(S.act_mul m a2 _).trans ((congrArg (S.act m) h1).trans hm);exact⟨S.mul m a2,e4,Rl.trans (by rw[ht,hc]) hr (Rl.symm (by rw[e4,hc]) h4)⟩
 obtain⟨c,hc,hr⟩:=key j hp;have e5:c=b:=canc _ _ _ (by rw[hc,<-e,ht]);rw[e5] at hr;exact hr
end Go.Proofs.YteimdcndjjclnaaGreat.Gb
namespace Go.Proofs.YteimdcndjjclnaaGreat.Gb
open Go.Proofs.Tryz
set_option linter.unusedSimpArgs false
set_option linter.unusedVariables false
def gz(d:Nat->Nat)(t:Te):Nat×Nat×Nat×Nat:=(d t.1+bK t,d t.1+t.2.1+t.2.2.1,d t.1+t.2.1+t.2.2.2,t.1)
theorem CG{d:Nat->Nat}{s t:Te}(h:gz d s=gz d t):s=t:=by
 obtain⟨s0,s1,s2,s3⟩:=s;obtain⟨t0,t1,t2,t3⟩:=t;have h:(d s0+(s1+s2+s3),d s0+s1+s2,d s0+s1+s3,s0)=(d t0+(t1+t2+t3),d t0+t1+t2,d t0+t1+t3,t0):=h;simp only[Prod.mk.injEq] at h;obtain⟨h1,h2,h3,h4⟩:=h;subst h4;have e1:s1=t1:=by omega
 have e2:s2=t2:=by omega
 have e3:s3=t3:=by omega
 rw[e1,e2,e3]
def aD(d:Nat->Nat):bY Te Mo where
 lt s t:=L4 (gz d s) (gz d t)
 act:=aA
 mul:=bF
 act_mul a b t:=by obtain⟨a1,a2,a3⟩:=a;obtain⟨b1,b2,b3⟩:=b;obtain⟨t0,t1,t2,t3⟩:=t;simp only[aA,bF,Prod.mk.injEq,true_and];omega
 wf:=InvImage.wf (gz d) vW
 tri s t:=by
  have h:=@CG d s t;generalize gz d s=x at h⊢;generalize gz d t=y at h⊢;obtain⟨x1,x2,x3,x4⟩:=x;obtain⟨y1,y2,y3,y4⟩:=y;by_cases e:(x1,x2,x3,x4)=(y1,y2,y3,y4)
  .exact L3 (L0 (h e))
  .simp only[Prod.mk.injEq] at e;unfold L4;simp only;have:(x1<y1\/x1=y1/\(x2<y2\/x2=y2/\(x3<y3\/x3=y3/\x4<y4)))\/(y1<x1\/y1=x1/\(y2<x2\/y2=x2/\(y3<x3\/y3=x3/\y4<x4))):=by omega
   exact this.elim L0 λh=>L3 (L3 h)
 trans {a b c} h k:=by revert h k;generalize gz d a=x;generalize gz d b=y;generalize gz d c=z;unfold L4;omega
 mono a {s t} h:=by revert h;obtain⟨s0,s1,s2,s3⟩:=s;obtain⟨t0,t1,t2,t3⟩:=t;obtain⟨m1,m2,m3⟩:=a;unfold gz bK aA L4;simp only;omega
theorem CH(d:Nat->Nat):∀a b s,(aD d).act a s=(aD d).act b s->a=b:=Cv 1 1
theorem pA(d:Nat->Nat)(s t:Te):aW.dv s t↔∃a,(aD d).act a s=t:=Cw 1 1 s t
theorem CI{d:Nat->Nat}{s t:Te}(h:(aD d).lt s t):d s.1+bK s<=d t.1+bK t:=by have h:L4 (gz d s) (gz d t):=h;unfold L4 gz at h;simp only at h;omega
theorem CJ{d:Nat->Nat}{s t:Te}(h:aW.dv s t):d s.1+bK s<=d t.1+bK t:=by have h:s.1=t.1/\s.2.1<=t.2.1/\s.2.2.1<=t.2.2.1/\s.2.2.2<=t.2.2.2:=h;unfold bK;rw[h.1];omega
end Go.Proofs.YteimdcndjjclnaaGreat.Gb
namespace Go.Proofs.YteimdcndjjclnaaGreat.Cn
open Go.Proofs.Tryz
theorem lr(x:Mt)(s:Tt):di x s=Gb.aA x s:=by obtain⟨a,b,c⟩:=x;obtain⟨i,e,f,g⟩:=s;simp only[di,bF,Gb.aA,Nat.add_comm]
def fG(d:Nat->Nat):Od Tt:=⟨(Gb.aD d).lt,(Gb.aD d).wf,(Gb.aD d).tri,(Gb.aD d).trans⟩
theorem wF{d:Nat->Nat}(x:Mt){s t:Tt}(h:(fG d).lt s t):(fG d).lt (di x s) (di x t):=by rw[lr,lr];exact(Gb.aD d).mono x h
def rZ:Od Mt where
 lt s t:=(fG λ_=>0).lt (0,s) (0,t)
 wf:=InvImage.wf (λs:Mt=>((0,s):Tt)) (fG λ_=>0).wf
 tri s t:=by
  rcases (fG λ_=>0).tri (0,s) (0,t) with h|h|h
  .exact L0 h
  .exact L3 (L0 (by simpa using h))
  .exact L3 (L3 h)
 trans h k:=(fG λ_=>0).trans h k
theorem CK(x:Mt){s t:Mt}(h:rZ.lt s t):rZ.lt (bF x s) (bF x t):=wF x h
theorem CL{p:Int}(hp:Pr p)(hp1:¬p∣1){R:Nat}(hR:R<=3){d:Nat->Nat}(hd:∀i,i<R->d i<=6){G:List (Nat×(Tt->Int))}(hG:∀g∈G,g.1<=9){s:Tt}(hs:s.1<R)(hl:LM (fG d) p R d G s)(hm:∀x,aG x=1->dr x s.2->¬LM (fG d) p R d G (s.1,cZ x s.2)):aG s.2+d s.1<=901:=
 CD (fG d) (λx {_ _} h=>wF x h) rZ (λx {_ _} h=>CK x h) hp hp1 hR hd hG hs hl hm
end Go.Proofs.YteimdcndjjclnaaGreat.Cn
namespace Go.Proofs.YteimdcndjjclnaaGreat.Cn
open Go.Proofs.Tryz
set_option linter.unusedSimpArgs false
set_option linter.unusedVariables false
def co(l:List (Int×Tt))(s:Tt):Int:=Gb.ln (Gb.dl s) l
theorem CM(y:Mt)(u v:Tt):Gb.dl (di y u) (Gb.aA y v)=Gb.dl u v:=by
 unfold Gb.dl;rw[<-lr];by_cases h:v=u
 .rw[LI h,LI (by rw[h])]
 .rw[LH h,LH];intro e;apply h;simp only[di,Prod.mk.injEq] at e;obtain⟨e1,e2⟩:=e;exact Prod.ext e1 (r7 (x:=y) e2)
theorem CN{y:Mt}{s v:Tt}(h:¬dr y s.2):Gb.dl s (Gb.aA y v)=0:=by unfold Gb.dl;rw[LH];intro e;apply h;rw[<-e,<-lr];exact r8 y v.2
theorem se(y:Mt)(s:Tt):∀l:List (Int×Tt),Gb.ln (λt=>Gb.dl s (Gb.aA y t)) l=dh y (co l) s
 |[]=>by simp[Gb.ln,dh,co]
 |x::l=>by
  have ih:=se y s l;simp only[Gb.ln];rw[ih];by_cases h:dr y s.2
  .have e:=jS h;rw[<-e];generalize (s.1,cZ y s.2)=u;rw[gA,gA,CM];rfl
  .rw[gB h,gB h,CN h];omega
structure Hg{p:Int}(R:Nat)(d:Nat->Nat)(G:Gb.aV (Gb.aD d) p)(n:Nat)(c:Nat->Nat):Prop where
 hom:∀i,i<n->∀x∈G.g i,x.2∈Ts R d (c i)
 live:∀i,i<n->G.live i
def Hr(n:Nat)(c:Nat->Nat)(t:Nat)(rp:Gb.Rp Gb.Mo):Prop:=∀r∈rp,r.2.2<n/\c r.2.2+aG r.2.1=t
def gl{p:Int}{d:Nat->Nat}(G:Gb.aV (Gb.aD d) p)(c:Nat->Nat):Nat->List (Nat×(Tt->Int))
 |0=>[]
 |n+1=>(c n,co (G.g n))::gl G c n
theorem wG{φ:Mt->Tt->Int}{y:Mt}(t:Tt):∀{l:List Mt},l.Nodup->y∈l->sm l (λz=>if z=y then 1 else 0) φ t=φ y t
 |z::l,hn,hy=>by
  have hnd:=List.nodup_cons.1 hn;rw[eW];rcases LL.1 hy with e0|hy
  .subst e0;rw[LI rfl,jT φ t λw hw=>LH fun(e:w=y)=>hnd.1 (e ▸ hw)];omega
  .have:z≠y:=λe=>hnd.1 (e ▸ hy);rw[LH this,wG t hnd.2 hy];omega
theorem wH{p:Int}{R:Nat}{d:Nat->Nat}{G:Gb.aV (Gb.aD d) p}{c:Nat->Nat}{t:Nat}{y:Mt}{i:Nat}(ht:c i+aG y=t):∀n,i<n->Vm p R d (gl G c n) t (dh y (co (G.g i)))
 |n+1,h=>by
  by_cases e:i=n
  .subst e;refine⟨λz=>if z=y then 1 else 0,_,(lq p R d t (gl G c i)).zero,λs _=>⟨0,?_⟩⟩;rw[LI (by omega),wG s (pz _) (iZ.2 (by omega))];show _-(0+_)=_;omega
  .refine⟨λ_=>0,_,wH ht n (by omega),λs _=>⟨0,?_⟩⟩;have hz:(if c n<=t then sm (Ys (t-c n)) (λ_=>(0:Int)) (λy=>dh y (co (G.g n))) s else 0)=0:=by
    split
    .exact jT _ _ λ_ _=>rfl
    .rfl
   rw[hz];omega
theorem wI{p:Int}{R:Nat}{d:Nat->Nat}{G:Gb.aV (Gb.aD d) p}{c:Nat->Nat}{t n:Nat}:∀{rp:Gb.Rp Gb.Mo},Hr n c t rp->Vm p R d (gl G c n) t λs=>Gb.ev G (Gb.dl s) rp
 |[],_=>(lq p R d t _).zero
 |r::rp,h=>by have h1:=h r (by simp);have hS:=lq p R d t (gl G c n);refine hS.con (λs _=>⟨0,?_⟩) (hS.add (hS.mul r.1 (wH (R:=R) (G:=G) h1.2 n h1.1)) (wI (rp:=rp) λx hx=>h x (by simp[hx])));have e:Gb.ev G (Gb.dl s) (r::rp)=r.1*Gb.ln (λt=>Gb.dl s (Gb.aA r.2.1 t)) (G.g r.2.2)+Gb.ev G (Gb.dl s) rp:=rfl;rw[e,se];omega
theorem wJ{p:Int}{R:Nat}{d:Nat->Nat}{G:Gb.aV (Gb.aD d) p}{c:Nat->Nat}{t:Nat}:∀(n:Nat)(f:Tt->Int),Vm p R d (gl G c n) t f->∃rp,Hr n c t rp/\∀s∈Ts R d t,p∣f s-Gb.ev G (Gb.dl s) rp
 |0,f,h=>⟨[],λr hr=>by simp at hr,λs hs=>by have:=h s hs;simpa [Gb.ev] using this⟩
 |n+1,f,⟨a,h,h1,h2⟩=>by
  obtain⟨rp,r1,r2⟩:=wJ n h h1;by_cases hc:c n<=t
  .refine⟨(Ys (t-c n)).map (λy=>(a y,y,n))++rp,λr hr=>?_,λs hs=>?_⟩
   .rcases Lv.1 hr with hr|hr
    .obtain⟨y,hy,rfl⟩:=LC.1 hr;rw[iZ] at hy;exact⟨Nat.lt_succ_self _,by simp only;omega⟩
    .have:=r1 r hr;exact⟨by omega,this.2⟩
   .rw[Gb.nR];have e:∀l:List Mt,Gb.ev G (Gb.dl s) (l.map λy=>(a y,y,n))=sm l a (λy=>dh y (co (G.g n))) s:=by
     intro l;induction l with
     |nil=>rfl
     |cons y l ih=>rw[eW,<-ih,<-se];rfl
    rw[e];obtain⟨k,hk⟩:=h2 s hs;obtain⟨m,hm⟩:=r2 s hs;rw[LI hc] at hk;exact⟨k+m,by grind⟩
  .refine⟨rp,λr hr=>by have:=r1 r hr;exact⟨by omega,this.2⟩,λs hs=>?_⟩;obtain⟨k,hk⟩:=h2 s hs;obtain⟨m,hm⟩:=r2 s hs;rw[LH hc] at hk;exact⟨k+m,by grind⟩
theorem nY{p:Int}{R:Nat}{d:Nat->Nat}{G:Gb.aV (Gb.aD d) p}{c:Nat->Nat}{n t:Nat}(hG:Hg R d G n c){u:Tt}(hu:u∉Ts R d t):∀{rp:Gb.Rp Gb.Mo},Hr n c t rp->Gb.ev G (Gb.dl u) rp=0
 |[],_=>rfl
 |r::rp,h=>by
  have h1:=h r (by simp);have e:Gb.ev G (Gb.dl u) (r::rp)=r.1*Gb.ln (λt=>Gb.dl u (Gb.aA r.2.1 t)) (G.g r.2.2)+Gb.ev G (Gb.dl u) rp:=rfl;rw[e,nY hG hu λx hx=>h x (by simp[hx]),Gb.iY]
  .simp
  .intro x hx;show Gb.dl u (Gb.aA r.2.1 x.2)=0;unfold Gb.dl;rw[LH];intro e2;apply hu;have h3:=hG.hom _ h1.1 x hx;rw[<-e2,<-lr,<-h1.2,mo];exact h3
theorem wK{p:Int}{d:Nat->Nat}{G0 G1:Gb.aV (Gb.aD d) p}{c0 c1:Nat->Nat}{n0 n1 t:Nat}(ho:∀i,i<n0->∃rp,Hr n1 c1 (c0 i) rp/\∀φ,p∣Gb.ln φ (G0.g i)-Gb.ev G1 φ rp):∀{rp:Gb.Rp Gb.Mo},Hr n0 c0 t rp->∃rq,Hr n1 c1 t rq/\∀φ,p∣Gb.ev G0 φ rp-Gb.ev G1 φ rq
 |[],_=>⟨[],λr hr=>by simp at hr,λφ=>⟨0,by simp[Gb.ev]⟩⟩
 |r::rp,h=>by
  have h1:=h r (by simp);obtain⟨rq,q1,q2⟩:=wK ho (rp:=rp) λx hx=>h x (by simp[hx]);obtain⟨rs,s1,s2⟩:=ho r.2.2 h1.1;refine⟨Gb.dI r.1 (Gb.mn (Gb.aD d) r.2.1 rs)++rq,λx hx=>?_,λφ=>?_⟩
  .rcases Lv.1 hx with hx|hx
   .obtain⟨y,hy,rfl⟩:=LC.1 hx;obtain⟨z,hz,rfl⟩:=LC.1 hy;have h3:=s1 z hz;refine⟨h3.1,?_⟩;show c1 z.2.2+aG (Gb.bF r.2.1 z.2.1)=t;have e:aG (Gb.bF r.2.1 z.2.1)=aG r.2.1+aG z.2.1:=kE _ _;rw[e];omega
   .exact q1 x hx
  .rw[Gb.nR,Gb.pu,Gb.rK];obtain⟨k,hk⟩:=q2 φ;obtain⟨m,hm⟩:=s2 λt=>φ ((Gb.aD d).act r.2.1 t);have e:Gb.ev G0 φ (r::rp)=r.1*Gb.ln (λt=>φ ((Gb.aD d).act r.2.1 t)) (G0.g r.2.2)+Gb.ev G0 φ rp:=rfl;rw[e];exact⟨r.1*m+k,by grind⟩
theorem CO{p:Int}(hp:Pr p)(hp1:¬p∣1){R:Nat}(hR:R<=3){d:Nat->Nat}(hd:∀i,i<R->d i<=6){G0 G1:Gb.aV (Gb.aD d) p}{c0 c1:Nat->Nat}{n0 n1 t:Nat}(h0:Hg R d G0 n0 c0)(h1:Hg R d G1 n1 c1)(hc0:∀i,i<n0->c0 i<=9)(hld:∀i,i<n1->d (G1.ld i).1+aG (G1.ld i).2=c1 i)(ho:∀i,i<n0->∃rp,Hr n1 c1 (c0 i) rp/\∀φ,p∣Gb.ln φ (G0.g i)-Gb.ev G1 φ rp)(hA:Gb.nX G1 λu=>d u.1+aG u.2<t){X:Gb.Fn Tt}{rp:Gb.Rp Gb.Mo}(hr:Hr n0 c0 t rp)(hX:∀φ,p∣X φ-Gb.ev G0 φ rp){s:Tt}(hs:s∈Ts R d t)(hn:¬p∣X (Gb.dl s))(hab:∀u∈Ts R d t,(Gb.aD d).lt s u->p∣X (Gb.dl u))(hnd:∀i,G1.live i->¬Gb.aW.dv (G1.ld i) s):aG s.2+d s.1<=901:=by
 obtain⟨hs1,hs2⟩:=iA.1 hs;have hgl:∀n,(∀i,i<n->c0 i<=9)->∀g∈gl G0 c0 n,g.1<=9:=by
  intro n;induction n with
  |zero=>exact λ_ g hg=>by simp[gl] at hg
  |succ n ih=>
   intro h g hg;rcases LL.1 hg with rfl|hg
   .exact h n (by omega)
   .exact ih (λi hi=>h i (by omega)) g hg
 refine CL hp hp1 hR hd (G:=gl G0 c0 n0) (hgl n0 hc0) hs1 ?_ ?_
 .unfold LM;rw[hs2];refine⟨_,wI hr,hs,λhc=>hn ?_,λu hu hl=>?_⟩
  .obtain⟨a,ha⟩:=hX (Gb.dl s);obtain⟨b,hb⟩:=hc;have hb:Gb.ev G0 (Gb.dl s) rp=p*b:=hb;exact⟨a+b,by rw[Int.mul_add];omega⟩
  .obtain⟨a,ha⟩:=hX (Gb.dl u);obtain⟨b,hb⟩:=hab u hu hl;refine⟨b-a,?_⟩;show Gb.ev G0 (Gb.dl u) rp=p*(b-a);rw[Int.mul_sub];omega
 .intro x hx hle hl;have hsx:di x (s.1,cZ x s.2)=s:=jS hle;have hdx:d s.1+aG (cZ x s.2)+1=t:=by have:=congrArg (λu:Tt=>aG u.2) hsx;simp only[di] at this;rw[kE] at this;omega
  obtain⟨f,f1,f2⟩:=hl;have f2:ic (fG d) p (Ts R d (d s.1+aG (cZ x s.2))) f (s.1,cZ x s.2):=f2;have f1:Vm p R d (gl G0 c0 n0) (d s.1+aG (cZ x s.2)) f:=f1;generalize ht':d s.1+aG (cZ x s.2)=t' at f1 f2 hdx;generalize hu:((s.1,cZ x s.2):Tt)=u at f2 hsx;obtain⟨rq,q1,q2⟩:=wJ n0 f f1;obtain⟨rs,s1,s2⟩:=wK ho q1;have f3:ic (fG d) p (Ts R d t') (λv=>Gb.ev G0 (Gb.dl v) rq) u:=nZ f2 λv hv=>by obtain⟨a,ha⟩:=q2 v hv;exact⟨-a,by rw[Int.mul_neg];omega⟩
  have hmax:∀l:Gb.Rp Gb.Mo,l≠[]->∃r∈l,∀y∈l,(Gb.aD d).lt ((Gb.aD d).act y.2.1 (G1.ld y.2.2)) ((Gb.aD d).act r.2.1 (G1.ld r.2.2))\/(Gb.aD d).act y.2.1 (G1.ld y.2.2)=(Gb.aD d).act r.2.1 (G1.ld r.2.2):=by
   intro l;induction l with
   |nil=>exact λh=>absurd rfl h
   |cons a l ih=>
    intro _;by_cases hl:l=[]
    .subst hl;exact⟨a,by simp,λy hy=>by rw[Lw] at hy;rw[hy];exact L3 rfl⟩
    .obtain⟨r,r1,r2⟩:=ih hl;rcases (Gb.aD d).tri ((Gb.aD d).act a.2.1 (G1.ld a.2.2)) ((Gb.aD d).act r.2.1 (G1.ld r.2.2)) with h|h|h
     .exact⟨r,by simp[r1],λy hy=>(LL.1 hy).elim (λe=>by rw[e];exact L0 h) (r2 y)⟩
     .exact⟨r,by simp[r1],λy hy=>(LL.1 hy).elim (λe=>by rw[e];exact L3 h) (r2 y)⟩
     .refine⟨a,by simp,λy hy=>(LL.1 hy).elim (λe=>by rw[e];exact L3 rfl) λhy=>L0 ?_⟩;rcases r2 y hy with h3|h3
      .exact(Gb.aD d).trans h3 h
      .rw[h3];exact h
  have hne:rs≠[]:=λe=>f3.2.1 (by
   obtain⟨a,ha⟩:=s2 (Gb.dl u);rw[e] at ha;exact⟨a,by simpa [Gb.ev] using ha⟩)
  obtain⟨r,r1,r2⟩:=hmax rs hne;have hT:d ((Gb.aD d).act r.2.1 (G1.ld r.2.2)).1+aG ((Gb.aD d).act r.2.1 (G1.ld r.2.2)).2<t:=by have h3:=s1 r r1;have h4:=hld _ h3.1;have e:(Gb.aD d).act r.2.1 (G1.ld r.2.2)=di r.2.1 (G1.ld r.2.2):=(lr _ _).symm;rw[e];simp only[di];rw[kE];omega
  rcases Gb.wE hA (fun {a b} hl hb=>by have:=Gb.CI hl;unfold Gb.bK at this;unfold aG at hb⊢;omega) ((Gb.aD d).act r.2.1 (G1.ld r.2.2)) hT (λφ=>Gb.ev G0 φ rq) ⟨rs,λy hy=>⟨h1.live _ (s1 y hy).1,r2 y hy⟩,s2⟩ with h|⟨i,a,v,i1,i2,i3,i4⟩
  .exact f3.2.1 (h _)
  .have hv:v∈Ts R d t':=LP λhc=>i3 (by show p∣Gb.ev G0 (Gb.dl v) rq;rw[nY h0 hc q1];exact⟨0,by simp⟩);have e:v=u:=n4 (O:=fG d) (f:=λv=>Gb.ev G0 (Gb.dl v) rq) ⟨hv,i3,λw _ hl=>i4 w hl⟩ f3;refine hnd i i1 ((Gb.pA d _ _).2 ⟨(Gb.aD d).mul x a,?_⟩);rw[(Gb.aD d).act_mul,i2,e];show Gb.aA x u=s;rw[<-lr,hsx]
end Go.Proofs.YteimdcndjjclnaaGreat.Cn
namespace Go.Proofs.YteimdcndjjclnaaGreat.Cn
open Go.Proofs.Tryz
set_option linter.unusedSimpArgs false
set_option linter.unusedVariables false
theorem wL{μ τ:Type}{p:Int}{a:μ->Int}{φ:μ->τ->Int}{t:τ}{j:μ}:∀{l:List μ},l.Nodup->j∈l->(∀i∈l,i≠j->p∣a i*φ i t)->p∣sm l a φ t-a j*φ j t
 |i::l,hn,hj,h=>by
  have hnd:=List.nodup_cons.1 hn;rw[eW];have all:∀{l:List μ},(∀i∈l,p∣a i*φ i t)->p∣sm l a φ t:=by
   intro l;induction l with
   |nil=>exact λ_=>⟨0,by simp[sm]⟩
   |cons i l ih=>exact λh=>by rw[eW];exact Int.dvd_add (h i (by simp)) (ih λk hk=>h k (by simp[hk]))
  rcases LL.1 hj with e|hj
  .subst e;obtain⟨k,hk⟩:=all (l:=l) λi hi=>h i (by simp[hi]) λe=>hnd.1 (e ▸ hi);exact⟨k,by omega⟩
  .obtain⟨k,hk⟩:=wL hnd.2 hj λx hx hne=>h x (by simp[hx]) hne;obtain⟨m,hm⟩:=h i (by simp) λe=>hnd.1 (e ▸ hj);exact⟨k+m,by rw[Int.mul_add];omega⟩
theorem CP{τ:Type}(O:Od τ){p:Int}(hp:Pr p)(hp1:¬p∣1)(T:List τ)(n:Nat)(φ:Nat->τ->Int)(pv:Nat->τ)(hpv:∀k,k<n->pv k∈T)(h1:∀k,k<n->φ k (pv k)=1)(h0:∀j k,j<k->k<n->φ k (pv j)=0):bI (Ld O p T (eX p T (λf=>∀t∈T,p∣f t) ((List.range n).map φ))) n:=by
 have hV:gC p T λf=>∀t∈T,p∣f t:=⟨λ_ _=>⟨0,by simp⟩,λh k s hs=>Int.dvd_add (h s hs) (k s hs),λc f h s hs=>Int.dvd_mul_of_dvd_right (h s hs),λe h s hs=>by
   obtain⟨a,ha⟩:=e s hs;obtain⟨b,hb⟩:=h s hs;exact⟨a+b,by grind⟩⟩
 have hn:=sf O hp (ws:=(List.range n).map φ) hV (n:=0) (bI.none λs ⟨f,k1,k2⟩=>k2.2.1 (k1 s k2.1)) ?_
 .simpa using hn
 .intro l w r e hc;obtain⟨l',q,e1,e2,e3⟩:=List.map_eq_append_iff.1 e;obtain⟨k,m,e4,e5,e6⟩:=List.map_eq_cons_iff.1 e3;subst e2 e4 e5;have hk:k<n/\l'=List.range k:=by
   have hlen:l'.length<n:=by have:=congrArg List.length e1;simp at this;omega
   have hget:∀i:Nat,(List.range n)[i]?=(l'++k::m)[i]?:=λi=>by rw[e1]
   have hkk:k=l'.length:=by have:=hget l'.length;rw[LW (Lc _),List.getElem?_range hlen] at this;simpa using this.symm
   refine⟨by omega,List.ext_getElem? λi=>?_⟩;by_cases hi:i<l'.length
   .have:=hget i;rw[LQ hi] at this;rw[<-this,List.getElem?_range (by omega),List.getElem?_range (by omega)]
   .rw[Lu (by omega),Lu (by simp;omega)]
  obtain⟨hkn,rfl⟩:=hk;obtain⟨a,g,g1,g2⟩:=(jt φ hV List.nodup_range (φ k)).1 hc;have hz:∀j,j<k->p∣a j:=by
   intro j;induction j using Nat.strongRecOn with
   |_ j ih=>
    intro hj;have hT:=hpv j (by omega);obtain⟨b,hb⟩:=g2 _ hT;obtain⟨c,hcc⟩:=g1 _ hT;obtain⟨d,hd⟩:=wL (p:=p) (a:=a) (φ:=φ) (t:=pv j) (j:=j) (l:=List.range k) List.nodup_range (List.mem_range.2 hj) λi hi hne=>by
     rw[List.mem_range] at hi;rcases Nat.lt_or_gt_of_ne hne with h|h
     .obtain⟨x,hx⟩:=ih i h (by omega);exact⟨x*φ i (pv j),by rw[hx];grind⟩
     .rw[h0 j i h (by omega)];exact⟨0,by simp⟩
    rw[h1 j (by omega)] at hd;rw[h0 j k hj hkn] at hb;exact⟨-(b+c+d),by grind⟩
  have hT:=hpv k hkn;obtain⟨b,hb⟩:=g2 _ hT;obtain⟨c,hcc⟩:=g1 _ hT;rw[h1 k hkn] at hb;have hsm:p∣sm (List.range k) a φ (pv k):=by
   have:∀l:List Nat,(∀i∈l,p∣a i)->p∣sm l a φ (pv k):=by
    intro l;induction l with
    |nil=>exact λ_=>⟨0,by simp[sm]⟩
    |cons i l ih=>intro h;rw[eW];obtain⟨x,hx⟩:=h i (by simp);exact Int.dvd_add ⟨x*φ i (pv k),by rw[hx];grind⟩ (ih λy hy=>h y (by simp[hy]))
   exact this _ λi hi=>hz i (List.mem_range.1 hi)
  obtain⟨d,hd⟩:=hsm;exact hp1 ⟨b+c+d,by grind⟩
end Go.Proofs.YteimdcndjjclnaaGreat.Cn
