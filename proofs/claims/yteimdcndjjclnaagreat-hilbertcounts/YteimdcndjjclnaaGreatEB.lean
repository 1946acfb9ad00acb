/- How great the tips of cones may be, by how many monomials there are (plain mathematics). -/
import Derived.Test.YteimdcndjjclnaaGreatEC
import Derived.Test.YteimdcndjjclnaaGreatBA
namespace Go.Proofs.YteimdcndjjclnaaGreat.Cn
open Go.Proofs.Tryz
set_option linter.unusedSimpArgs false
set_option linter.unusedVariables false
theorem sW:∀s,nm 1 s=1
 |0=>rfl
 |s+1=>by rw[oL,sW s];rfl
theorem sX:∀s,nm 2 s=s+1
 |0=>rfl
 |s+1=>by rw[oL,sX s,sW]
theorem xw:∀s,2*nm 3 s=(s+1)*(s+2)
 |0=>rfl
 |s+1=>by rw[oL,sX,Nat.mul_add,xw s];grind
def eN(s:Nat)(Q:List (Nat×Nat)):Prop:=∀q∈Q,1<=q.2->s<=q.1/\∀e,s<=e->e<=q.1->∃q'∈Q,q'.1=e/\q.2<=q'.2
theorem eN.app{s:Nat}{P Q:List (Nat×Nat)}(h:eN s P)(k:eN s Q):eN s (P++Q):=λq hq h1=>by
 rcases MY.1 hq with hq|hq
 .exact⟨(h q hq h1).1,λe a b=>by obtain⟨q',c,d⟩:=(h q hq h1).2 e a b;exact⟨q',MY.2 (Np c),d⟩⟩
 .exact⟨(k q hq h1).1,λe a b=>by obtain⟨q',c,d⟩:=(k q hq h1).2 e a b;exact⟨q',MY.2 (Nq c),d⟩⟩
def rz(c:Nat):Nat->List (Nat×Nat)
 |0=>[(c,0)]
 |j+1=>(c+1,j+1)::rz c j
theorem xy(c t:Nat):∀j,bJ (rz c j) t=fZ (c,j) t
 |0=>by simp[rz,bJ]
 |j+1=>by
  have ih:=xy c t j;unfold bJ at ih⊢;simp only[rz,List.map_cons,List.sum_cons];rw[ih];show (if c+1<=t then nm (j+1) (t-(c+1)) else 0)+(if c<=t then nm j (t-c) else 0)=if c<=t then nm (j+1) (t-c) else 0
  by_cases h:c+1<=t
  .rw[M9 h,M9 (show c<=t by omega),M9 (show c<=t by omega)];obtain⟨k,rfl⟩:∃k,t=c+1+k:=⟨t-(c+1),by omega⟩;rw[show c+1+k-(c+1)=k by omega,show c+1+k-c=k+1 by omega,oL]
  .rw[M8 h];by_cases h2:c<=t
   .rw[M9 h2,M9 h2,show t-c=0 by omega,qq,qq]
   .rw[M8 h2,M8 h2]
theorem sY{c:Nat}{q:Nat×Nat}:∀{j},q∈rz c j->(q=(c,0))\/(q.1=c+1/\1<=q.2/\q.2<=j)
 |0,h=>Np (by simpa [rz] using h)
 |j+1,h=>by
  rcases Nb.1 h with rfl|h
  .exact Nq ⟨rfl,by simp,MI _⟩
  .rcases sY h with h|⟨h1,h2,h3⟩
   .exact Np h
   .exact Nq ⟨h1,h2,by omega⟩
theorem xA(c:Nat):∀j,(c,0)∈rz c j
 |0=>by simp[rz]
 |j+1=>List.mem_cons_of_mem _ (xA c j)
def ky(s:Nat):List (Nat×Nat)->List (Nat×Nat)
 |[]=>[]
 |q::Q=>(if q.1=s then rz s q.2 else [q])++ky s Q
theorem sZ{s:Nat}{p:Nat×Nat}:∀{Q},p∈ky s Q->(p∈Q/\p.1≠s)\/∃q∈Q,q.1=s/\p∈rz s q.2
 |[],h=>by simp[ky] at h
 |q::Q,h=>by
  rcases MY.1 h with h|h
  .by_cases hq:q.1=s
   .rw[M9 hq] at h;exact Nq ⟨q,by simp,hq,h⟩
   .rw[M8 hq,MZ] at h;rw[h];exact Np ⟨by simp,hq⟩
  .rcases sZ h with ⟨a,b⟩|⟨q',a,b⟩
   .exact Np ⟨by simp[a],b⟩
   .exact Nq ⟨q',by simp[a],b⟩
theorem td{s:Nat}{p:Nat×Nat}:∀{Q},p∈Q->p.1≠s->p∈ky s Q
 |q::Q,h,hp=>by
  rcases Nb.1 h with rfl|h
  .exact MY.2 (Np (by rw[M8 hp];simp))
  .exact MY.2 (Nq (td h hp))
theorem xB{s:Nat}{p q:Nat×Nat}:∀{Q},q∈Q->q.1=s->p∈rz s q.2->p∈ky s Q
 |r::Q,h,hq,hp=>by
  rcases Nb.1 h with rfl|h
  .exact MY.2 (Np (by rw[M9 hq];exact hp))
  .exact MY.2 (Nq (xB h hq hp))
theorem xC(s t:Nat):∀Q,bJ (ky s Q) t=bJ Q t
 |[]=>rfl
 |q::Q=>by
  show bJ ((if q.1=s then rz s q.2 else [q])++ky s Q) t=bJ ([q]++Q) t;rw[l7,l7,xC s t Q];congr 1;by_cases hq:q.1=s
  .rw[M9 hq,xy,<-hq];simp[bJ]
  .rw[M8 hq]
theorem eN.raise{s:Nat}{Q:List (Nat×Nat)}(h:eN s Q):eN (s+1) (ky s Q):=λp hp h1=>by
 rcases sZ hp with ⟨a,b⟩|⟨q,a,b,c⟩
 .have hs:=h p a h1;refine⟨by have:=hs.1;omega,λe he1 he2=>?_⟩;obtain⟨q',c1,c2,c3⟩:=hs.2 e (by omega) he2;exact⟨q',td c1 (by omega),c2,c3⟩
 .rcases sY c with rfl|⟨d1,d2,d3⟩
  .simp at h1
  .exact⟨by omega,λe he1 he2=>⟨p,hp,by omega,MI _⟩⟩
theorem eN.later{s:Nat}{Q:List (Nat×Nat)}(h:eN s Q)(hd:∀q∈Q,q.2<=3):∀k,∃P,eN (s+k) P/\(∀t,bJ P t=bJ Q t)/\(∀q∈Q,∃p∈P,q.1<=p.1)/\∀p∈P,p.2<=3
 |0=>⟨Q,h,λ_=>rfl,λq hq=>⟨q,hq,MI _⟩,hd⟩
 |k+1=>by
  obtain⟨P,h1,h2,h3,h4⟩:=eN.later h hd k;refine⟨ky (s+k) P,h1.raise,λt=>by rw[xC,h2],λq hq=>?_,λp hp=>?_⟩
  .obtain⟨p,a,b⟩:=h3 q hq;by_cases e:p.1=s+k
   .exact⟨(s+k,0),xB a e (xA _ _),by simp;omega⟩
   .exact⟨p,td a e,b⟩
  .rcases sZ hp with ⟨a,_⟩|⟨q,a,b,c⟩
   .exact h4 p a
   .rcases sY c with rfl|⟨_,_,d3⟩
    .simp
    .exact MO d3 (h4 q a)
theorem eN.tip{s:Nat}{Q:List (Nat×Nat)}(h:eN s Q){q:Nat×Nat}(hq:q∈Q){j:Nat}(hj:1<=j)(hjq:j<=q.2):q.1+1<=s+(Q.filter λp=>decide (j<=p.2)).length:=by
 have hs:=h q hq (by omega);have:=m5 ((List.range (q.1+1-s)).map λi=>s+i) ((Q.filter λp=>decide (j<=p.2)).map Prod.fst)
  (List.Pairwise.map _ (λa b hne e=>hne (by omega)) List.nodup_range) λx hx=>by obtain⟨i,hi,rfl⟩:=M5.1 hx;rw[List.mem_range] at hi;obtain⟨q',a,b,c⟩:=hs.2 (s+i) (by omega) (by omega);exact M5.2 ⟨q',Nh.2 ⟨a,by simp;omega⟩,b⟩
 simp at this;have:=hs.1;omega
def nD(j:Nat):List (Nat×Nat)->Int
 |[]=>0
 |q::Q=>(if q.2=j then 1 else 0)+nD j Q
def tD(j:Nat):List (Nat×Nat)->Int
 |[]=>0
 |q::Q=>(if q.2=j then (q.1:Int) else 0)+tD j Q
def sD(j:Nat):List (Nat×Nat)->Int
 |[]=>0
 |q::Q=>(if q.2=j then (q.1:Int)*q.1 else 0)+sD j Q
def zD(t:Nat):List (Nat×Nat)->Int
 |[]=>0
 |q::Q=>(if q.2=0/\q.1=t then 1 else 0)+zD t Q
theorem th(q:Nat×Nat)(Q:List (Nat×Nat))(t:Nat):bJ (q::Q) t=fZ q t+bJ Q t:=by simp[bJ]
theorem ti(t:Nat):∀(Q:List (Nat×Nat)),(∀q∈Q,q.2<=3)->(∀q∈Q,1<=q.2->q.1<=t)->(2*bJ Q t:Int)=nD 3 Q*((t:Int)*t)+(3*nD 3 Q-2*tD 3 Q+2*nD 2 Q)*t+(sD 3 Q-3*tD 3 Q+2*nD 3 Q-2*tD 2 Q+2*nD 2 Q+2*nD 1 Q)+2*zD t Q
 |[],_,_=>by simp[bJ,nD,tD,sD,zD]
 |(c,j)::Q,h1,h2=>by
  have ih:=ti t Q (λq hq=>h1 q (by simp[hq])) (λq hq=>h2 q (by simp[hq]));have hj:=h1 (c,j) (by simp);have hc:=h2 (c,j) (by simp);simp only at hj hc;rw[th];simp only[nD,tD,sD,zD];rcases (show j=0\/j=1\/j=2\/j=3 by omega) with rfl|rfl|rfl|rfl
  .by_cases h:c=t
   .subst h;have e:fZ (c,0) c=1:=by simp[fZ,nm]
    rw[e];simp;grind
   .have e:fZ (c,0) t=0:=by
     simp only[fZ,nm];by_cases h3:c<=t
     .rw[M9 h3,M8 (by omega)]
     .rw[M8 h3]
    rw[e];simp[h];grind
  .have e:fZ (c,1) t=1:=by show (if c<=t then nm 1 (t-c) else 0)=1;rw[M9 (hc (by omega)),sW]
   rw[e];simp;grind
  .have e:(fZ (c,2) t:Int)=t-c+1:=by show (((if c<=t then nm 2 (t-c) else 0):Nat):Int)=_;have:=hc (by omega);rw[M9 this,sX];omega
   simp only[Int.natCast_add];rw[e];simp;grind
  .have hct:=hc (by omega);have e:(2*fZ (c,3) t:Int)=((t:Int)-c+1)*(t-c+2):=by
    show (2*(((if c<=t then nm 3 (t-c) else 0):Nat):Int))=_;rw[M9 hct];have h:=xw (t-c);have h':((2*nm 3 (t-c):Nat):Int)=(((t-c+1)*(t-c+2):Nat):Int):=by rw[h]
    simp only[Int.natCast_mul,Int.natCast_add] at h';rw[Int.ofNat_sub hct] at h';exact h'
   simp only[Int.natCast_add];rw[Int.mul_add,e];simp;grind
theorem DA{a b c m:Int}(h0:a*(m*m)+b*m+c=0)(h1:a*((m+1)*(m+1))+b*(m+1)+c=0)(h2:a*((m+2)*(m+2))+b*(m+2)+c=0):a=0/\b=0/\c=0:=by
 have e1:a*((m+1)*(m+1))=a*(m*m)+2*(a*m)+a:=by grind
 have e2:a*((m+2)*(m+2))=a*(m*m)+4*(a*m)+4*a:=by grind
 have e3:b*(m+1)=b*m+b:=by grind
 have e4:b*(m+2)=b*m+2*b:=by grind
 have ha:a=0:=by omega
 subst ha;have hb:b=0:=by omega
 subst hb;refine⟨rfl,rfl,by omega⟩
theorem qr(j:Nat):∀Q,0<=nD j Q
 |[]=>by simp[nD]
 |q::Q=>by have:=qr j Q;simp only[nD];split<;>omega
theorem xD:∀Q:List (Nat×Nat),(∀q∈Q,q.2<=3)->((Q.filter λp=>decide (3<=p.2)).length:Int)=nD 3 Q/\((Q.filter λp=>decide (2<=p.2)).length:Int)=nD 3 Q+nD 2 Q/\((Q.filter λp=>decide (1<=p.2)).length:Int)=nD 3 Q+nD 2 Q+nD 1 Q
 |[],_=>by simp[nD]
 |(c,j)::Q,h=>by obtain⟨h1,h2,h3⟩:=xD Q λq hq=>h q (by simp[hq]);have hj:=h (c,j) (by simp);simp only at hj;simp only[nD,List.filter_cons];rcases (show j=0\/j=1\/j=2\/j=3 by omega) with rfl|rfl|rfl|rfl<;>simp<;>omega
theorem xE{t:Nat}{q:Nat×Nat}:∀{Q},q∈Q->q.2=0->q.1=t->0<zD t Q
 |p::Q,h,h1,h2=>by
  have nn:∀Q,0<=zD t Q:=λQ=>by
   induction Q with
   |nil=>simp[zD]
   |cons q Q ih=>simp only[zD];split<;>omega
  rcases Nb.1 h with rfl|h
  .have:=nn Q;simp only[zD];rw[M9 ⟨h1,h2⟩];omega
  .have:=xE h h1 h2;simp only[zD];split<;>omega
theorem xF{t:Nat}:∀{Q},(∀q∈Q,q.1<t)->zD t Q=0
 |[],_=>rfl
 |q::Q,h=>by have:=h q (by simp);simp only[zD];rw[M8 (by omega),xF λp hp=>h p (by simp[hp])];rfl
theorem xG:∀Q:List (Nat×Nat),∃T,∀q∈Q,q.1<T
 |[]=>⟨0,by simp⟩
 |q::Q=>by
  obtain⟨T,h⟩:=xG Q;refine⟨q.1+1+T,λp hp=>?_⟩;rcases Nb.1 hp with rfl|hp
  .omega
  .have:=h p hp;omega
theorem xH:∀(n:Nat)(l:List Nat)(s:Nat),l.length=n->(∀a∈l,s<=a/\∀e,s<=e->e<=a->e∈l)->2*l.sum+n<=2*(n*s)+n*n
 |0,l,s,hl,_=>by have:l=[]:=Nk.1 hl;subst this;simp
 |n+1,l,s,hl,h=>by
  have hmax:∀k:List Nat,k≠[]->∃m∈k,∀a∈k,a<=m:=by
   intro k;induction k with
   |nil=>exact λh=>absurd rfl h
   |cons a k ih=>
    intro _;by_cases hk:k=[]
    .subst hk;exact⟨a,by simp,λb hb=>by simp at hb;omega⟩
    .obtain⟨m,h1,h2⟩:=ih hk;by_cases ham:m<=a
     .refine⟨a,by simp,λb hb=>?_⟩;rcases Nb.1 hb with rfl|hb
      .exact MI _
      .exact MO (h2 b hb) ham
     .refine⟨m,List.mem_cons_of_mem _ h1,λb hb=>?_⟩;rcases Nb.1 hb with rfl|hb
      .omega
      .exact h2 b hb
  obtain⟨m,m1,m2⟩:=hmax l (λe=>by rw[e] at hl;simp at hl);have hm:=h m m1;have hlen:m+1<=s+l.length:=by
   have:=m5 ((List.range (m+1-s)).map λi=>s+i) l (List.Pairwise.map _ (λa b hne e=>hne (by omega)) List.nodup_range) λx hx=>by obtain⟨i,hi,rfl⟩:=M5.1 hx;rw[List.mem_range] at hi;exact hm.2 _ (by omega) (by omega)
   simp at this;have:=hm.1;omega
  have hs:l.sum=m+(l.erase m).sum:=by have hp:=List.perm_cons_erase m1;rw[hp.sum_nat,List.sum_cons]
  have ih:=xH n (l.erase m) s (by rw[List.length_erase_of_mem m1];omega) λa ha=>by
   have ha':=List.mem_of_mem_erase ha;refine⟨(h a ha').1,λe h1 h2=>?_⟩;have he:=(h a ha').2 e h1 h2;by_cases hem:e=m
   .have:a=m:=Nat.le_antisymm (m2 a ha') (by omega);rw[hem];rw[this] at ha;exact ha
   .exact(List.mem_erase_of_ne hem).2 he
  have e1:(n+1)*s=n*s+s:=Nat.succ_mul n s;have e2:(n+1)*(n+1)=n*n+2*n+1:=by grind
  omega
theorem xI{Q:List (Nat×Nat)}(hs:eN 9 Q){j:Nat}(hj:1<=j):2*((Q.filter λp=>decide (j<=p.2)).map Prod.fst).sum+(Q.filter λp=>decide (j<=p.2)).length<=2*((Q.filter λp=>decide (j<=p.2)).length*9)+(Q.filter λp=>decide (j<=p.2)).length*(Q.filter λp=>decide (j<=p.2)).length:=by
 refine xH (Q.filter λp=>decide (j<=p.2)).length ((Q.filter λp=>decide (j<=p.2)).map Prod.fst) 9 (by simp) λa ha=>?_;obtain⟨q,hq,rfl⟩:=M5.1 ha;obtain⟨h1,h2⟩:=Nh.1 hq;have h2:j<=q.2:=by simpa using h2
 have h:=hs q h1 (by omega);refine⟨h.1,λe e1 e2=>?_⟩;obtain⟨q',a1,a2,a3⟩:=h.2 e e1 e2;exact M5.2 ⟨q',Nh.2 ⟨a1,by simp;omega⟩,a2⟩
theorem xJ:∀Q:List (Nat×Nat),(∀q∈Q,q.2<=3)->(((Q.filter λp=>decide (3<=p.2)).map Prod.fst).sum:Int)=tD 3 Q/\(((Q.filter λp=>decide (2<=p.2)).map Prod.fst).sum:Int)=tD 3 Q+tD 2 Q
 |[],_=>by simp[tD]
 |(c,j)::Q,h=>by obtain⟨h1,h2⟩:=xJ Q λq hq=>h q (by simp[hq]);have hj:=h (c,j) (by simp);simp only at hj;simp only[tD,List.filter_cons];rcases (show j=0\/j=1\/j=2\/j=3 by omega) with rfl|rfl|rfl|rfl<;>simp<;>omega
theorem xK(b:Int):∀Q:List (Nat×Nat),(∀q∈Q,q.2=3->b<=(q.1:Int))->b*tD 3 Q<=sD 3 Q
 |[],_=>by simp[tD,sD]
 |q::Q,h=>by
  have ih:=xK b Q λp hp=>h p (by simp[hp]);have hq:=h q (by simp);simp only[tD,sD];split
  .rename_i hj;have:=Int.mul_le_mul_of_nonneg_right (hq hj) (show (0:Int)<=(q.1:Int) by omega);rw[Int.mul_add];omega
  .rw[Int.zero_add,Int.zero_add];exact ih
theorem DB{Q P:List (Nat×Nat)}(hs:eN 9 Q)(hd:∀q∈Q,q.2<=3)(hP:∀q∈P,q.2=3/\q.1<=6)(hl:P.length<=3)(he:∀t,bJ Q t=bJ P t):∀q∈Q,q.1<=900:=by
 obtain⟨T,hT⟩:=xG Q;have hP3:∀q∈P,q.2<=3:=λq hq=>by rw[(hP q hq).1];exact MI _
 have z0:∀t,zD t P=0:=λt=>by
  have:∀P:List (Nat×Nat),(∀q∈P,q.2=3/\q.1<=6)->zD t P=0:=λP=>by
   induction P with
   |nil=>exact λ_=>rfl
   |cons q P ih=>intro h;have:=(h q (by simp)).1;simp only[zD];rw[M8 (by omega),ih λp hp=>h p (by simp[hp])];rfl
  exact this P hP
 have pn:nD 3 P=P.length/\nD 2 P=0/\nD 1 P=0/\tD 2 P=0/\0<=tD 3 P/\tD 3 P<=6*P.length/\sD 3 P<=6*tD 3 P:=by
  have:∀P:List (Nat×Nat),(∀q∈P,q.2=3/\q.1<=6)->nD 3 P=P.length/\nD 2 P=0/\nD 1 P=0/\tD 2 P=0/\0<=tD 3 P/\tD 3 P<=6*P.length/\sD 3 P<=6*tD 3 P:=λP=>by
   induction P with
   |nil=>exact λ_=>by simp[nD,tD,sD]
   |cons q P ih=>intro h;obtain⟨a1,a2,a3,a4,a5,a6,a7⟩:=ih λp hp=>h p (by simp[hp]);obtain⟨b1,b2⟩:=h q (by simp);simp only[nD,tD,sD,b1];have:(q.1:Int)*q.1<=6*q.1:=Int.mul_le_mul_of_nonneg_right (by omega) (by omega);refine⟨?_,?_,?_,?_,?_,?_,?_⟩<;>simp<;>omega
  exact this P hP
 have eqP:∀t:Nat,6<=t->(2*bJ P t:Int)=nD 3 P*((t:Int)*t)+(3*nD 3 P-2*tD 3 P+2*nD 2 P)*t+(sD 3 P-3*tD 3 P+2*nD 3 P-2*tD 2 P+2*nD 2 P+2*nD 1 P):=λt ht=>by
  have h:=ti t P hP3 λq hq _=>by have:=(hP q hq).2;omega
  rw[z0] at h;omega
 have eqQ:∀t:Nat,(∀q∈Q,1<=q.2->q.1<=t)->_:=λt=>ti t Q hd;have far:∀t:Nat,T+6<=t->(nD 3 Q-nD 3 P)*((t:Int)*t)+((3*nD 3 Q-2*tD 3 Q+2*nD 2 Q)-(3*nD 3 P-2*tD 3 P+2*nD 2 P))*t+((sD 3 Q-3*tD 3 Q+2*nD 3 Q-2*tD 2 Q+2*nD 2 Q+2*nD 1 Q)-(sD 3 P-3*tD 3 P+2*nD 3 P-2*tD 2 P+2*nD 2 P+2*nD 1 P))=0:=λt ht=>by
  have h1:=eqQ t λq hq _=>by have:=hT q hq;omega
  have h2:=eqP t (by omega);rw[xF λq hq=>by have:=hT q hq;omega] at h1;rw[he t] at h1;rw[h1] at h2;generalize (t:Int)=x at h2⊢;grind
 have q1:=far (T+6) (by omega);have q2:=far (T+6+1) (by omega);have q3:=far (T+6+2) (by omega);obtain⟨ca,cb,cc⟩:=DA (m:=((T+6:Nat):Int)) q1 (by simpa using q2) (by simpa using q3);obtain⟨p1,p2,p3,p4,p5,p6,p7⟩:=pn;obtain⟨f3,f2,f1⟩:=xD Q hd;obtain⟨g3,g2⟩:=xJ Q hd;have n3:=qr 3 Q;have n2:=qr 2 Q;have n1:=qr 1 Q;have s3:=xK 9 Q λq hq hj=>by have:=(hs q hq (by omega)).1;omega
 have u3:=xI hs (j:=3) (by omega);have u2:=xI hs (j:=2) (by omega);generalize (Q.filter λp=>decide (3<=p.2)).length=k3 at f3 u3;generalize ((Q.filter λp=>decide (3<=p.2)).map Prod.fst).sum=w3 at g3 u3;generalize (Q.filter λp=>decide (2<=p.2)).length=k2 at f2 u2;generalize ((Q.filter λp=>decide (2<=p.2)).map Prod.fst).sum=w2 at g2 u2;have hk3:k3<=3:=by omega
 have hq3:k3*k3<=3*k3:=Nr _ hk3;have hk2:k2<=33:=by omega
 have hq2:k2*k2<=33*k2:=Nr _ hk2;have low:∀q∈Q,1<=q.2->q.1<=900:=λq hq hj=>by have:=hs.tip hq (j:=1) (by omega) hj;omega
 intro q hq;by_cases hj:1<=q.2
 .exact low q hq hj
 .apply Nat.le_of_not_lt;intro hlt;have h1:=eqQ q.1 λp hp h=>by have:=low p hp h;omega
  have h2:=eqP q.1 (by omega);rw[he q.1] at h1;have h3:=xE hq (by omega) rfl;rw[h1] at h2;have e1:nD 3 Q=nD 3 P:=by omega
  have e2:(3*nD 3 Q-2*tD 3 Q+2*nD 2 Q)=(3*nD 3 P-2*tD 3 P+2*nD 2 P):=by omega
  rw[e2,e1] at h2;omega
end Go.Proofs.YteimdcndjjclnaaGreat.Cn
namespace Go.Proofs.YteimdcndjjclnaaGreat.Cn
open Go.Proofs.Tryz
set_option linter.unusedSimpArgs false
set_option linter.unusedVariables false
theorem bT.uniq{τ:Type}{A:τ->Prop}{a b:Nat}(h:bT A a)(k:bT A b):a=b:=by
 obtain⟨l,p1,p2,p3⟩:=h;obtain⟨m,q1,q2,q3⟩:=k;have:l.Perm m:=(List.perm_ext_iff_of_nodup p1 q1).2 λx=>by rw[p2,q2]
 rw[<-p3,<-q3,this.length_eq]
theorem bT.congr{τ:Type}{A B:τ->Prop}{a:Nat}(h:bT A a)(e:∀t,A t↔B t):bT B a:=by obtain⟨l,p1,p2,p3⟩:=h;exact⟨l,p1,λt=>by rw[p2,e],p3⟩
theorem bT.none{τ:Type}{A:τ->Prop}(h:∀t,¬A t):bT A 0:=⟨[],List.Pairwise.nil,λt=>by simp[h t],rfl⟩
theorem bT.or{τ:Type}{A B:τ->Prop}{a b:Nat}(h:bT A a)(k:bT B b)(hd:∀t,A t->¬B t):bT (λt=>A t\/B t) (a+b):=by obtain⟨l,p1,p2,p3⟩:=h;obtain⟨m,q1,q2,q3⟩:=k;exact⟨l++m,List.nodup_append.2 ⟨p1,q1,λu hu v hv e=>hd u ((p2 u).1 hu) (e ▸ (q2 v).1 hv)⟩,λt=>by rw[MY,p2,q2],by simp[p3,q3]⟩
theorem bT.map{σ τ:Type}{A:σ->Prop}{B:τ->Prop}{a:Nat}(h:bT A a)(f:σ->τ)(hf:∀x y,A x->A y->f x=f y->x=y)(e:∀t,B t↔∃s,A s/\f s=t):bT B a:=by
 obtain⟨l,p1,p2,p3⟩:=h;refine⟨l.map f,?_,λt=>?_,by simp[p3]⟩
 .refine List.pairwise_map.2 (p1.imp_of_mem λhx hy hne e=>hne (hf _ _ ((p2 _).1 hx) ((p2 _).1 hy) e))
 .rw[e,M5];exact⟨fun⟨s,h1,h2⟩=>⟨s,(p2 s).1 h1,h2⟩,fun⟨s,h1,h2⟩=>⟨s,(p2 s).2 h1,h2⟩⟩
def jS(y:Mt):bX:=λi=>if i=0 then y.1 else if i=1 then y.2.1 else if i=2 then y.2.2 else 0
def lq(m:bX):Mt:=(m 0,m 1,m 2)
theorem tj(y:Mt):lq (jS y)=y:=rfl
theorem tn{m:bX}(h:cZ m [0,1,2]):jS (lq m)=m:=by
 funext i;by_cases hi:i=0\/i=1\/i=2
 .rcases hi with rfl|rfl|rfl<;>rfl
 .rw[h i (by simp;omega)];simp only[jS];rw[M8 (by omega),M8 (by omega),M8 (by omega)]
theorem oM(y:Mt):cZ (jS y) [0,1,2]:=λi hi=>by simp at hi;simp only[jS];rw[M8 (by omega),M8 (by omega),M8 (by omega)]
theorem xL(x y:Mt):bM x y=bM y x:=by simp only[bM,Nat.add_comm]
theorem xM{B:bX->Prop}(hs:∀m,B m->cZ m [0,1,2]){s k:Nat}(h:HF B s k):bT (λy=>aK y=s/\B (jS y)) k:=by
 have h2:bT (λm=>B m/\deg m=s) k:=h;refine h2.map lq (λx y hx hy e=>?_) λy=>?_
 .rw[<-tn (hs x hx.1),e,tn (hs y hy.1)]
 .exact⟨fun⟨h1,h2⟩=>⟨jS y,⟨h2,h1⟩,tj y⟩,fun⟨m,⟨h1,h2⟩,h3⟩=>by rw[<-h3,tn (hs m h1)];exact⟨h2,h1⟩⟩
theorem DC(s:Nat):bT (λy:Mt=>aK y=s) (nm 3 s):=
 (xM (B:=λm=>cZ m [0,1,2]) (λm h=>h) (HF.all [0,1,2] (by decide) (by decide) s)).congr λy=>⟨λh=>h.1,λh=>⟨h,oM y⟩⟩
theorem DD{L:Mt->Prop}(hup:∀x {y},L y->L (bM x y)):∃Q,(∀s,bT (λy=>aK y=s/\¬L y) (bJ Q s))/\eN 0 Q/\(∀q∈Q,q.2<=3)/\∀g,L g->(∀x,aK x=1->dW x g->¬L (dA x g))->aK g=0\/∃q∈Q,aK g<=q.1+1:=by
 by_cases h0:L (0,0,0)
 .have hall:∀y,L y:=λy=>by have:=hup y h0;rw[xL] at this;simpa [bM] using this
  refine⟨[],λs=>bT.none λy h=>h.2 (hall y),λq hq=>by simp at hq,λq hq=>by simp at hq,λg _ hm=>?_⟩;left;apply Nf;intro hne;obtain⟨a,b,c⟩:=g;simp only[aK] at hne;rcases (show 0<a\/0<b\/0<c by omega) with h|h|h
  .exact hm (1,0,0) rfl ⟨h,MP _,MP _⟩ (hall _)
  .exact hm (0,1,0) rfl ⟨MP _,h,MP _⟩ (hall _)
  .exact hm (0,0,1) rfl ⟨MP _,MP _,h⟩ (hall _)
 .have hdown:lp λm=>cZ m [0,1,2]/\¬L (lq m):=λa b hab hb=>⟨oK hab hb.1,λhl=>hb.2 (by
   have h:=hup (dA (lq a) (lq b)) hl;rw[xL,tp ⟨hab 0,hab 1,hab 2⟩] at h;exact h)⟩
  obtain⟨Q,d,D⟩:=Dz 3 [0,1,2] rfl (by decide) (by decide) ⟨λm=>cZ m [0,1,2]/\¬L (lq m),hdown,λm h=>h.1⟩ (λm h=>h.1) ⟨λ_ _=>rfl,h0⟩;have hd3:d<=3:=by obtain⟨Z,z1,z2,z3,_⟩:=D.dm;rw[<-z3];exact m5 Z [0,1,2] z1 z2
  refine⟨Q,λs=>(xM (λm h=>h.1) (D.hf s)).congr λy=>?_,λq hq _=>⟨MP _,λe _ he=>D.std q hq e he⟩,λq hq=>MO (D.le q hq) hd3,λg hg hm=>Nq ?_⟩
  .show aK y=s/\cZ (jS y) [0,1,2]/\¬L (lq (jS y))↔_;rw[tj];exact⟨λh=>⟨h.1,h.2.2⟩,λh=>⟨h.1,oM y,h.2⟩⟩
  .obtain⟨q,h1,h2⟩:=D.gen (jS g) (oM g) (λh=>h.2 (by rw[tj];exact hg)) λi hi=>by
    refine⟨oK (sT i _) (oM g),?_⟩;by_cases hi3:i=0\/i=1\/i=2
    .rcases hi3 with rfl|rfl|rfl
     .exact hm (1,0,0) rfl ⟨hi,MP _,MP _⟩
     .exact hm (0,1,0) rfl ⟨MP _,hi,MP _⟩
     .exact hm (0,0,1) rfl ⟨MP _,MP _,hi⟩
    .exact absurd (oM g i (by simp;omega)) (by omega)
   exact⟨q,h1,h2⟩
def oN(c:Nat)(Q:List (Nat×Nat)):List (Nat×Nat):=Q.map λq=>(q.1+c,q.2)
theorem tu(c t:Nat):∀Q,bJ (oN c Q) t=if c<=t then bJ Q (t-c) else 0
 |[]=>by simp[oN,bJ]
 |q::Q=>by
  show bJ ((q.1+c,q.2)::oN c Q) t=_;rw[th,tu c t Q,th];show (if q.1+c<=t then nm q.2 (t-(q.1+c)) else 0)+_=if c<=t then (if q.1<=t-c then nm q.2 (t-c-q.1) else 0)+bJ Q (t-c) else 0
  by_cases h:c<=t
  .rw[M9 h,M9 h];congr 1;by_cases h2:q.1+c<=t
   .rw[M9 h2,M9 (by omega)];congr 1;omega
   .rw[M8 h2,M8 (by omega)]
  .rw[M8 h,M8 h,M8 (by omega)]
theorem DE{c:Nat}{Q:List (Nat×Nat)}(h:eN 0 Q):eN c (oN c Q):=λq hq h1=>by obtain⟨r,hr,rfl⟩:=M5.1 hq;refine⟨by simp,λe h2 h3=>?_⟩;obtain⟨q',a,b,c'⟩:=(h r hr h1).2 (e-c) (MP _) (by simp at h3;omega);exact⟨_,M5.2 ⟨q',a,rfl⟩,by simp only;omega,c'⟩
theorem xN{L:Mt->Prop}(hup:∀x {y},L y->L (bM x y)){c:Nat}(hc:c<=9):∃P,(∀t,c<=t->bT (λy=>aK y=t-c/\¬L y) (bJ P t))/\(∀t,¬c<=t->bJ P t=0)/\eN 9 P/\(∀q∈P,q.2<=3)/\∀g,L g->(∀x,aK x=1->dW x g->¬L (dA x g))->aK g=0\/∃q∈P,aK g+c<=q.1+1:=by
 obtain⟨Q,h1,h2,h3,h4⟩:=DD hup;have hd:∀q∈oN c Q,q.2<=3:=λq hq=>by obtain⟨r,hr,rfl⟩:=M5.1 hq;exact h3 r hr
 obtain⟨P,p1,p2,p3,p4⟩:=(DE (c:=c) h2).later hd (9-c);rw[show c+(9-c)=9 by omega] at p1;refine⟨P,λt ht=>?_,λt ht=>?_,p1,p4,λg hg hm=>?_⟩
 .rw[p2,tu,M9 ht];exact h1 (t-c)
 .rw[p2,tu,M8 ht]
 .rcases h4 g hg hm with h|⟨q,a,b⟩
  .exact Np h
  .obtain⟨r,r1,r2⟩:=p3 (q.1+c,q.2) (M5.2 ⟨q,a,rfl⟩);exact Nq ⟨r,r1,by simp only at r2;omega⟩
theorem xO{τ:Type}{O:Od τ}{p:Int}{T:List τ}{V W:(τ->Int)->Prop}(h:∀f,V f↔W f)(t:τ):Ld O p T V t↔Ld O p T W t:=
 ⟨fun⟨f,h1,h2⟩=>⟨f,(h f).1 h1,h2⟩,fun⟨f,h1,h2⟩=>⟨f,(h f).2 h1,h2⟩⟩
theorem xP(O:Od Tt)(P:Od Mt)(hP:∀x {s t},P.lt s t->P.lt (bM x s) (bM x t)){p:Int}(hp:Pr p)(hp1:¬p∣1)(R:Nat)(d:Nat->Nat):∀(G:List (Nat×(Tt->Int))),(∀g∈G,g.1<=9)->∃Q,eN 9 Q/\(∀q∈Q,q.2<=3)/\∀t,bT (Ld O p (Ts R d t) (Vm p R d G t)) (bJ Q t)
 |[],_=>⟨[],λq hq=>by simp at hq,λq hq=>by simp at hq,λt=>bT.none λs ⟨f,h1,h2⟩=>h2.2.1 (h1 s h2.1)⟩
 |(c,g)::G,hc=>by
  obtain⟨Q,q1,q2,q3⟩:=xP O P hP hp hp1 R d G λg hg=>hc g (List.mem_cons_of_mem _ hg);obtain⟨K,k1,k2,k3,k4,_⟩:=xN (L:=LJ P p R d c g G) (λx {y} h=>h.up hP x) (hc (c,g) (by simp));refine⟨Q++K,q1.app k3,λq hq=>(MY.1 hq).elim (q2 q) (k4 q),λt=>?_⟩;rw[l7];by_cases ht:c<=t
  .have hk:bT (λy=>y∈Ys (t-c)/\¬Ld P p (Ys (t-c)) (λa=>Vm p R d G t λs=>sm (Ys (t-c)) a (λy=>dC y g) s) y) (bJ K t):=(k1 t ht).congr λy=>by rw[jx];refine and_congr_right λe=>?_;unfold LJ;rw[e,show t-c+c=t by omega]
   have hn:=DF O P hp hp1 (l8 p R d t G) (q3 t) (Ys (t-c)) (qt _) (λy=>dC y g) hk;refine hn.congr λs=>xO (λf=>?_) s;show _↔∃(a:Mt->Int)(h:Tt->Int),Vm p R d G t h/\∀s∈Ts R d t,p∣f s-(h s+if c<=t then sm (Ys (t-c)) a (λy=>dC y g) s else 0);simp only[M9 ht]
  .rw[k2 t ht];refine(q3 t).congr λs=>xO (λf=>?_) s;show _↔∃(a:Mt->Int)(h:Tt->Int),Vm p R d G t h/\∀s∈Ts R d t,p∣f s-(h s+if c<=t then sm (Ys (t-c)) a (λy=>dC y g) s else 0);simp only[M8 ht];exact⟨λh=>⟨λ_=>0,f,h,λs _=>⟨0,by simp⟩⟩,fun⟨_,h,h1,h2⟩=>(l8 p R d t G).con (λs hs=>by have:=h2 s hs;simpa using this) h1⟩
theorem xQ{A:Mt->Prop}{i k:Nat}(h:bT A k):bT (λs:Tt=>s.1=i/\A s.2) k:=
 h.map (λy=>(i,y)) (λx y _ _ e=>by simpa using e) λs=>⟨fun⟨h1,h2⟩=>⟨s.2,h2,by rw[<-h1]⟩,fun⟨y,h1,h2⟩=>by rw[<-h2];exact⟨rfl,h1⟩⟩
theorem DG(O:Od Tt)(hO:∀x {s t},O.lt s t->O.lt (dD x s) (dD x t))(P:Od Mt)(hP:∀x {s t},P.lt s t->P.lt (bM x s) (bM x t)){p:Int}(hp:Pr p)(hp1:¬p∣1){R:Nat}(hR:R<=3){d:Nat->Nat}(hd:∀i,i<R->d i<=6){G:List (Nat×(Tt->Int))}(hG:∀g∈G,g.1<=9){s:Tt}(hs:s.1<R)(hl:LM O p R d G s)(hm:∀x,aK x=1->dW x s.2->¬LM O p R d G (s.1,dA x s.2)):aK s.2+d s.1<=901:=by
 obtain⟨QC,c1,c2,c3⟩:=xP O P hP hp hp1 R d G hG;have places:∀r,r<=R->∃QB PB,eN 9 QB/\(∀q∈QB,q.2<=3)/\(∀q∈PB,q.2=3/\q.1<=6)/\PB.length=r/\(∀t,bT (λu:Tt=>u.1<r/\u∈Ts R d t/\¬LM O p R d G u) (bJ QB t))/\(∀t,bT (λu:Tt=>u.1<r/\u∈Ts R d t) (bJ PB t))/\
   ∀u:Tt,u.1<r->LM O p R d G u->(∀x,aK x=1->dW x u.2->¬LM O p R d G (u.1,dA x u.2))->aK u.2=0\/∃q∈QB,aK u.2+d u.1<=q.1+1:=by
  intro r;induction r with
  |zero=>exact λ_=>⟨[],[],λq hq=>by simp at hq,λq hq=>by simp at hq,λq hq=>by simp at hq,rfl,λt=>bT.none λu h=>by omega,λt=>bT.none λu h=>by omega,λu h=>by omega⟩
  |succ r ih=>
   intro hr;obtain⟨QB,PB,a1,a2,a3,a4,a5,a6,a7⟩:=ih (by omega);have hdr:=hd r (by omega);obtain⟨K,k1,k2,k3,k4,k5⟩:=xN (L:=λy=>LM O p R d G (r,y)) (λx {y} h=>LM.up hO x h) (c:=d r) (by omega);refine⟨QB++K,PB++[(d r,3)],a1.app k3,λq hq=>(MY.1 hq).elim (a2 q) (k4 q),λq hq=>?_,by simp[a4],λt=>?_,λt=>?_,λu hu hlu hmu=>?_⟩
   .rcases MY.1 hq with h|h
    .exact a3 q h
    .rw[MZ] at h;rw[h];exact⟨rfl,hdr⟩
   .rw[l7];have hk:bT (λu:Tt=>u.1=r/\(u∈Ts R d t/\¬LM O p R d G u)) (bJ K t):=by
     by_cases ht:d r<=t
     .refine(xQ (i:=r) (k1 t ht)).congr λu=>?_;obtain⟨i,y⟩:=u;rw[jT];constructor
      .rintro ⟨h0,h1,h2⟩;have h0:i=r:=h0;have h1:aK y=t-d r:=h1;subst h0;exact⟨rfl,⟨show i<R by omega,show d i+aK y=t by omega⟩,h2⟩
      .rintro ⟨h0,⟨_,h1⟩,h2⟩;have h0:i=r:=h0;have h1:d i+aK y=t:=h1;subst h0;exact⟨rfl,show aK y=t-d i by omega,h2⟩
     .rw[k2 t ht];refine bT.none λu ⟨h1,h2,_⟩=>?_;have:=(jT.1 h2).2;rw[h1] at this;omega
    refine((a5 t).or hk λu h1 h2=>by omega).congr λu=>?_;constructor
    .rintro (⟨h1,h2⟩|⟨h1,h2⟩)
     .exact⟨by omega,h2⟩
     .exact⟨by omega,h2⟩
    .rintro ⟨h1,h2⟩;by_cases h:u.1<r
     .exact Np ⟨h,h2⟩
     .exact Nq ⟨by omega,h2⟩
   .rw[l7];have e:bJ [(d r,3)] t=if d r<=t then nm 3 (t-d r) else 0:=by simp[bJ,fZ]
    have hk:bT (λu:Tt=>u.1=r/\u∈Ts R d t) (bJ [(d r,3)] t):=by
     rw[e];by_cases ht:d r<=t
     .rw[M9 ht];refine(xQ (i:=r) (DC (t-d r))).congr λu=>?_;obtain⟨i,y⟩:=u;rw[jT];constructor
      .rintro ⟨h0,h1⟩;have h0:i=r:=h0;have h1:aK y=t-d r:=h1;subst h0;exact⟨rfl,show i<R by omega,show d i+aK y=t by omega⟩
      .rintro ⟨h0,_,h1⟩;have h0:i=r:=h0;have h1:d i+aK y=t:=h1;subst h0;exact⟨rfl,show aK y=t-d i by omega⟩
     .rw[M8 ht];refine bT.none λu ⟨h1,h2⟩=>?_;have:=(jT.1 h2).2;rw[h1] at this;omega
    refine((a6 t).or hk λu h1 h2=>by omega).congr λu=>?_;constructor
    .rintro (⟨h1,h2⟩|⟨h1,h2⟩)
     .exact⟨by omega,h2⟩
     .exact⟨by omega,h2⟩
    .rintro ⟨h1,h2⟩;by_cases h:u.1<r
     .exact Np ⟨h,h2⟩
     .exact Nq ⟨by omega,h2⟩
   .by_cases h:u.1<r
    .rcases a7 u h hlu hmu with h|⟨q,b1,b2⟩
     .exact Np h
     .exact Nq ⟨q,MY.2 (Np b1),b2⟩
    .have e:u.1=r:=by omega
     obtain⟨i,y⟩:=u;simp only at e;subst e;rcases k5 y hlu hmu with h|⟨q,b1,b2⟩
     .exact Np h
     .exact Nq ⟨q,MY.2 (Nq b1),b2⟩
 obtain⟨QB,PB,a1,a2,a3,a4,a5,a6,a7⟩:=places R (MI _);have he:∀t,bJ (QC++QB) t=bJ PB t:=λt=>by
  rw[l7];refine bT.uniq (((c3 t).or (a5 t) λu h1 h2=>h2.2.2 ?_).congr λu=>?_) (a6 t)
  .have e:=(jT.1 h2.2.1).2;unfold LM;rw[e];exact h1
  .constructor
   .rintro (h|⟨h1,h2,_⟩)
    .obtain⟨f,_,h2,_⟩:=h;exact⟨(jT.1 h2).1,h2⟩
    .exact⟨h1,h2⟩
   .rintro ⟨h1,h2⟩;by_cases h:Ld O p (Ts R d t) (Vm p R d G t) u
    .exact Np h
    .refine Nq ⟨h1,h2,λhc=>h ?_⟩;unfold LM at hc;rw[(jT.1 h2).2] at hc;exact hc
 have hb:=DB (c1.app a1) (λq hq=>(MY.1 hq).elim (c2 q) (a2 q)) a3 (by omega) he;have hds:=hd s.1 hs;rcases a7 s hs hl hm with h|⟨q,b1,b2⟩
 .omega
 .have:=hb q (MY.2 (Nq b1));omega
end Go.Proofs.YteimdcndjjclnaaGreat.Cn
namespace Go.Proofs.YteimdcndjjclnaaGreat.Gb
open Go.Proofs.Tryz
set_option linter.unusedSimpArgs false
set_option linter.unusedVariables false
variable {τ M:Type}
def oP{S:cj τ M}{p:Int}(G:aZ S p)(A:τ->Prop):Prop:=∀i a j b,G.live i->G.live j->S.act a (G.ld i)=S.act b (G.ld j)->A (S.act a (G.ld i))->Rl G i a j b
theorem xY[DecidableEq τ]{S:cj τ M}{p:Int}{G:aZ S p}{A:τ->Prop}(hA:oP G A)(t:τ)(ht:A t):∀(rp:Rp M),(∀r∈rp,G.live r.2.2/\(S.lt (S.act r.2.1 (G.ld r.2.2)) t\/S.act r.2.1 (G.ld r.2.2)=t))->(Vb G (λs=>S.lt s t) λφ=>ev G φ rp)\/∃i a c,G.live i/\S.act a (G.ld i)=t/\(Vb G (λs=>S.lt s t) λφ=>ev G φ rp-c*Hm G i a φ)/\p∣ev G (dl t) rp-c
 |[],_=>Np (Vb.zero λφ=>by simp[ev])
 |r::rp,h=>by
  have hr:=h r (by simp);have ih:=xY hA t ht rp λx hx=>h x (by simp[hx]);rcases hr.2 with hlt|heq
  .have hv:Vb G (λs=>S.lt s t) λφ=>r.1*ln (λs=>φ (S.act r.2.1 s)) (G.g r.2.2):=⟨[r],λx hx=>by rw[MZ] at hx;rw[hx];exact⟨hr.1,hlt⟩,λφ=>⟨0,by simp[ev]⟩⟩;rcases ih with ih|⟨i,a,c,h1,h2,h3,h4⟩
   .exact Np ((Vb.add hv ih).congr λφ=>⟨0,by simp only[ev];omega⟩)
   .refine Nq ⟨i,a,c,h1,h2,(Vb.add hv h3).congr λφ=>⟨0,by simp only[ev];omega⟩,?_⟩;simp only[ev];rw[sQ hr.1 _ _ hlt];simpa using h4
  .obtain⟨q,hq⟩:=G.inv r.2.2 hr.1;have hself:∀φ,p∣r.1*ln (λs=>φ (S.act r.2.1 s)) (G.g r.2.2)-(r.1*G.lc r.2.2)*Hm G r.2.2 r.2.1 φ:=λφ=>by
    unfold Hm;generalize ln (λs=>φ (S.act r.2.1 s)) (G.g r.2.2)=z;refine⟨-(q*r.1*z),?_⟩;have e:G.lc r.2.2*G.iv r.2.2=1+p*q:=by omega
    have e2:r.1*G.lc r.2.2*(G.iv r.2.2*z)=r.1*z*(G.lc r.2.2*G.iv r.2.2):=by grind
    rw[e2,e];grind
   have hco:ev G (dl t) (r::rp)=r.1*G.lc r.2.2+ev G (dl t) rp:=by simp only[ev];rw[xl hr.1 r.2.1 t heq]
   rcases ih with ih|⟨i,a,c,h1,h2,h3,h4⟩
   .refine Nq ⟨r.2.2,r.2.1,r.1*G.lc r.2.2,hr.1,heq,ih.congr λφ=>?_,?_⟩
    .obtain⟨z,hz⟩:=hself φ;exact⟨z,by simp only[ev];omega⟩
    .obtain⟨rq,k1,k2⟩:=ih;obtain⟨z,hz⟩:=k2 (dl t);have hz:ev G (dl t) rp-ev G (dl t) rq=p*z:=hz;rw[oI t k1] at hz;rw[hco];exact⟨z,by omega⟩
   .have hR:=hA i a r.2.2 r.2.1 h1 hr.1 (by rw[h2,heq]) (by rw[h2];exact ht);unfold Rl at hR;rw[h2] at hR;refine Nq ⟨i,a,c+r.1*G.lc r.2.2,h1,h2,((Vb.add h3 (Vb.scl (-(r.1*G.lc r.2.2)) hR)).congr λφ=>?_),?_⟩
    .obtain⟨z,hz⟩:=hself φ;refine⟨z,?_⟩;simp only[ev];grind
    .obtain⟨z,hz⟩:=h4;rw[hco];exact⟨z,by omega⟩
theorem xZ[DecidableEq τ]{S:cj τ M}{p:Int}{G:aZ S p}{A:τ->Prop}(hA:oP G A)(hdn:∀{s t},S.lt s t->A t->A s)(T:τ)(hT:A T):∀X:Fn τ,Vb G (λs=>S.lt s T\/s=T) X->(∀φ,p∣X φ)\/∃i a t,G.live i/\S.act a (G.ld i)=t/\¬p∣X (dl t)/\∀s,S.lt t s->p∣X (dl s):=by
 induction T using S.wf.induction with
 |_ T ih=>
  intro X hX;obtain⟨rp,h1,h2⟩:=hX;have hlow:Vb G (λs=>S.lt s T) X->(∀φ,p∣X φ)\/∃i a t,G.live i/\S.act a (G.ld i)=t/\¬p∣X (dl t)/\∀s,S.lt t s->p∣X (dl s):=by
   rintro ⟨rq,k1,k2⟩;cases rq with
   |nil=>exact Np λφ=>by simpa [ev] using k2 φ
   |cons r rq=>
    have hmax:∀(l:Rp M)(m:τ),S.lt m T->(∀x∈l,S.lt (S.act x.2.1 (G.ld x.2.2)) T)->∃m2,S.lt m2 T/\(S.lt m m2\/m=m2)/\∀x∈l,S.lt (S.act x.2.1 (G.ld x.2.2)) m2\/S.act x.2.1 (G.ld x.2.2)=m2:=by
     intro l;induction l with
     |nil=>exact λm hm _=>⟨m,hm,Nq rfl,λx hx=>by simp at hx⟩
     |cons y l ihl=>
      intro m hm hl;obtain⟨m2,a1,a2,a3⟩:=ihl m hm λx hx=>hl x (by simp[hx]);rcases S.tri (S.act y.2.1 (G.ld y.2.2)) m2 with h|h|h
      .exact⟨m2,a1,a2,λx hx=>(Nb.1 hx).elim (λe=>by rw[e];exact Np h) (a3 x)⟩
      .exact⟨m2,a1,a2,λx hx=>(Nb.1 hx).elim (λe=>by rw[e];exact Nq h) (a3 x)⟩
      .refine⟨S.act y.2.1 (G.ld y.2.2),hl y (by simp),Np (a2.elim (λh2=>S.trans h2 h) (λe=>by rw[e];exact h)),λx hx=>(Nb.1 hx).elim (λe=>by rw[e];exact Nq rfl) (λhx=>Np ((a3 x hx).elim (λh2=>S.trans h2 h) (λe=>by rw[e];exact h)))⟩
    obtain⟨m2,b1,b2,b3⟩:=hmax rq (S.act r.2.1 (G.ld r.2.2)) (k1 r (by simp)).2 (λx hx=>(k1 x (by simp[hx])).2);refine ih m2 b1 (hdn b1 hT) X ⟨r::rq,λx hx=>⟨(k1 x hx).1,?_⟩,k2⟩;rcases Nb.1 hx with rfl|hx
    .exact b2
    .exact b3 x hx
  rcases xY hA T hT rp h1 with hd|⟨i,a,c,d1,d2,d3,d4⟩
  .exact hlow (hd.congr h2)
  .by_cases hc:p∣X (dl T)
   .refine hlow (d3.congr λφ=>?_);obtain⟨z1,hz1⟩:=h2 φ;obtain⟨z2,hz2⟩:=h2 (dl T);obtain⟨z3,hz3⟩:=hc;obtain⟨z4,hz4⟩:=d4;have e:c=p*(z3-z2-z4):=by rw[Int.mul_sub,Int.mul_sub];omega
    refine⟨z1+(z3-z2-z4)*Hm G i a φ,?_⟩;rw[e];grind
   .refine Nq ⟨i,a,T,d1,d2,hc,λs hs=>?_⟩;obtain⟨z,hz⟩:=h2 (dl s);rw[oI s λr hr=>⟨(h1 r hr).1,(h1 r hr).2.elim (λh=>S.trans h hs) (λe=>by rw[e];exact hs)⟩] at hz;exact⟨z,by omega⟩
theorem DM{τ M:Type}{S:cj τ M}(canc:∀a b s,S.act a s=S.act b s->a=b){p:Int}{G:aZ S p}{D:oJ τ}(hdv:∀s t,D.dv s t↔∃a,S.act a s=t){P:Nat->Nat->Prop}(hcon:∀t i j,G.live i->G.live j->D.dv (G.ld i) t->D.dv (G.ld j) t->Pa (Ed D G.ld P t) i j){A:τ->Prop}(hAd:∀{s t},D.dv s t->A t->A s)(good:∀i j t,P i j->D.dv (G.ld i) t->D.dv (G.ld j) t->A (D.lc (G.ld i) (G.ld j))->∃a b,S.act a (G.ld i)=D.lc (G.ld i) (G.ld j)/\S.act b (G.ld j)=D.lc (G.ld i) (G.ld j)/\Rl G i a j b):oP G A:=by
 intro i a j b hi hj e hAt;obtain⟨t,ht⟩:∃t,S.act a (G.ld i)=t:=⟨_,rfl⟩;rw[ht] at hAt;have hp:=hcon t i j hi hj ((hdv _ _).2 ⟨a,ht⟩) ((hdv _ _).2 ⟨b,by rw[<-e,ht]⟩);have key:∀k,Pa (Ed D G.ld P t) i k->∃c,S.act c (G.ld k)=t/\Rl G i a k c:=by
  intro k hk;induction hk using Pa.ind with
  |refl=>exact⟨a,ht,Rl.refl G i a⟩
  |fwd _ e2 ih=>obtain⟨c,hc,hr⟩:=ih;obtain⟨a2,b2,h1,h2,h3⟩:=good _ _ t e2.1 e2.2.1 e2.2.2.1 (hAd e2.2.2.2 hAt);obtain⟨m,hm⟩:=(hdv _ _).1 e2.2.2.2;have e3:S.mul m a2=c:=canc _ _ _ (by rw[S.act_mul,h1,hm,hc]);have h4:=h3.shift m;rw[e3] at h4;exact⟨S.mul m b2,by rw[S.act_mul,h2,hm],Rl.trans (by rw[ht,hc]) hr h4⟩
  |bwd _ e2 ih=>obtain⟨c,hc,hr⟩:=ih;obtain⟨a2,b2,h1,h2,h3⟩:=good _ _ t e2.1 e2.2.1 e2.2.2.1 (hAd e2.2.2.2 hAt);obtain⟨m,hm⟩:=(hdv _ _).1 e2.2.2.2;have e3:S.mul m b2=c:=canc _ _ _ (by rw[S.act_mul,h2,hm,hc]);have h4:=h3.shift m;rw[e3] at h4;have e4:=(S.act_mul m a2 _).trans ((congrArg (S.act m) h1).trans hm);exact⟨S.mul m a2,e4,Rl.trans (by rw[ht,hc]) hr (Rl.symm (by rw[e4,hc]) h4)⟩
 obtain⟨c,hc,hr⟩:=key j hp;have e5:c=b:=canc _ _ _ (by rw[hc,<-e,ht]);rw[e5] at hr;exact hr
end Go.Proofs.YteimdcndjjclnaaGreat.Gb
namespace Go.Proofs.YteimdcndjjclnaaGreat.Gb
open Go.Proofs.Tryz
set_option linter.unusedSimpArgs false
set_option linter.unusedVariables false
def ie(d:Nat->Nat)(t:Te):Nat×Nat×Nat×Nat:=(d t.1+bP t,d t.1+t.2.1+t.2.2.1,d t.1+t.2.1+t.2.2.2,t.1)
theorem DN{d:Nat->Nat}{s t:Te}(h:ie d s=ie d t):s=t:=by
 obtain⟨s0,s1,s2,s3⟩:=s;obtain⟨t0,t1,t2,t3⟩:=t;have h:(d s0+(s1+s2+s3),d s0+s1+s2,d s0+s1+s3,s0)=(d t0+(t1+t2+t3),d t0+t1+t2,d t0+t1+t3,t0):=h;simp only[Prod.mk.injEq] at h;obtain⟨h1,h2,h3,h4⟩:=h;subst h4;have e1:s1=t1:=by omega
 have e2:s2=t2:=by omega
 have e3:s3=t3:=by omega
 rw[e1,e2,e3]
def aF(d:Nat->Nat):cj Te Mo where
 lt s t:=L4 (ie d s) (ie d t)
 act:=aC
 mul:=bM
 act_mul a b t:=by obtain⟨a1,a2,a3⟩:=a;obtain⟨b1,b2,b3⟩:=b;obtain⟨t0,t1,t2,t3⟩:=t;simp only[aC,bM,Prod.mk.injEq,true_and];omega
 wf:=InvImage.wf (ie d) xp
 tri s t:=by
  have h:=@DN d s t;generalize ie d s=x at h⊢;generalize ie d t=y at h⊢;obtain⟨x1,x2,x3,x4⟩:=x;obtain⟨y1,y2,y3,y4⟩:=y;by_cases e:(x1,x2,x3,x4)=(y1,y2,y3,y4)
  .exact Nq (Np (h e))
  .simp only[Prod.mk.injEq] at e;unfold L4;simp only;have:(x1<y1\/x1=y1/\(x2<y2\/x2=y2/\(x3<y3\/x3=y3/\x4<y4)))\/(y1<x1\/y1=x1/\(y2<x2\/y2=x2/\(y3<x3\/y3=x3/\y4<x4))):=by omega
   exact this.elim Np λh=>Nq (Nq h)
 trans {a b c} h k:=by revert h k;generalize ie d a=x;generalize ie d b=y;generalize ie d c=z;unfold L4;omega
 mono a {s t} h:=by revert h;obtain⟨s0,s1,s2,s3⟩:=s;obtain⟨t0,t1,t2,t3⟩:=t;obtain⟨m1,m2,m3⟩:=a;unfold ie bP aC L4;simp only;omega
theorem DO(d:Nat->Nat):∀a b s,(aF d).act a s=(aF d).act b s->a=b:=Di 1 1
theorem qz(d:Nat->Nat)(s t:Te):a8.dv s t↔∃a,(aF d).act a s=t:=Dj 1 1 s t
theorem DP{d:Nat->Nat}{s t:Te}(h:(aF d).lt s t):d s.1+bP s<=d t.1+bP t:=by have h:L4 (ie d s) (ie d t):=h;unfold L4 ie at h;simp only at h;omega
theorem DQ{d:Nat->Nat}{s t:Te}(h:a8.dv s t):d s.1+bP s<=d t.1+bP t:=by have h:s.1=t.1/\s.2.1<=t.2.1/\s.2.2.1<=t.2.2.1/\s.2.2.2<=t.2.2.2:=h;unfold bP;rw[h.1];omega
end Go.Proofs.YteimdcndjjclnaaGreat.Gb
namespace Go.Proofs.YteimdcndjjclnaaGreat.Cn
open Go.Proofs.Tryz
theorem mf(x:Mt)(s:Tt):dD x s=Gb.aC x s:=by obtain⟨a,b,c⟩:=x;obtain⟨i,e,f,g⟩:=s;simp only[dD,bM,Gb.aC,Nat.add_comm]
def i8(d:Nat->Nat):Od Tt:=⟨(Gb.aF d).lt,(Gb.aF d).wf,(Gb.aF d).tri,(Gb.aF d).trans⟩
theorem ye{d:Nat->Nat}(x:Mt){s t:Tt}(h:(i8 d).lt s t):(i8 d).lt (dD x s) (dD x t):=by rw[mf,mf];exact(Gb.aF d).mono x h
def tE:Od Mt where
 lt s t:=(i8 λ_=>0).lt (0,s) (0,t)
 wf:=InvImage.wf (λs:Mt=>((0,s):Tt)) (i8 λ_=>0).wf
 tri s t:=by
  rcases (i8 λ_=>0).tri (0,s) (0,t) with h|h|h
  .exact Np h
  .exact Nq (Np (by simpa using h))
  .exact Nq (Nq h)
 trans h k:=(i8 λ_=>0).trans h k
theorem DR(x:Mt){s t:Mt}(h:tE.lt s t):tE.lt (bM x s) (bM x t):=ye x h
theorem DT{p:Int}(hp:Pr p)(hp1:¬p∣1){R:Nat}(hR:R<=3){d:Nat->Nat}(hd:∀i,i<R->d i<=6){G:List (Nat×(Tt->Int))}(hG:∀g∈G,g.1<=9){s:Tt}(hs:s.1<R)(hl:LM (i8 d) p R d G s)(hm:∀x,aK x=1->dW x s.2->¬LM (i8 d) p R d G (s.1,dA x s.2)):aK s.2+d s.1<=901:=
 DG (i8 d) (λx {_ _} h=>ye x h) tE (λx {_ _} h=>DR x h) hp hp1 hR hd hG hs hl hm
end Go.Proofs.YteimdcndjjclnaaGreat.Cn
namespace Go.Proofs.YteimdcndjjclnaaGreat.Cn
open Go.Proofs.Tryz
set_option linter.unusedSimpArgs false
set_option linter.unusedVariables false
def co(l:List (Int×Tt))(s:Tt):Int:=Gb.ln (Gb.dl s) l
theorem DU(y:Mt)(u v:Tt):Gb.dl (dD y u) (Gb.aC y v)=Gb.dl u v:=by
 unfold Gb.dl;rw[<-mf];by_cases h:v=u
 .rw[M9 h,M9 (by rw[h])]
 .rw[M8 h,M8];intro e;apply h;simp only[dD,Prod.mk.injEq] at e;obtain⟨e1,e2⟩:=e;exact Prod.ext e1 (tB (x:=y) e2)
theorem DV{y:Mt}{s v:Tt}(h:¬dW y s.2):Gb.dl s (Gb.aC y v)=0:=by unfold Gb.dl;rw[M8];intro e;apply h;rw[<-e,<-mf];exact tA y v.2
theorem tF(y:Mt)(s:Tt):∀l:List (Int×Tt),Gb.ln (λt=>Gb.dl s (Gb.aC y t)) l=dC y (co l) s
 |[]=>by simp[Gb.ln,dC,co]
 |x::l=>by
  have ih:=tF y s l;simp only[Gb.ln];rw[ih];by_cases h:dW y s.2
  .have e:=kA h;rw[<-e];generalize (s.1,dA y s.2)=u;rw[ib,ib,DU];rfl
  .rw[ic h,ic h,DV h];omega
structure Hg{p:Int}(R:Nat)(d:Nat->Nat)(G:Gb.aZ (Gb.aF d) p)(n:Nat)(c:Nat->Nat):Prop where
 hom:∀i,i<n->∀x∈G.g i,x.2∈Ts R d (c i)
 live:∀i,i<n->G.live i
def Hr(n:Nat)(c:Nat->Nat)(t:Nat)(rp:Gb.Rp Gb.Mo):Prop:=∀r∈rp,r.2.2<n/\c r.2.2+aK r.2.1=t
def gl{p:Int}{d:Nat->Nat}(G:Gb.aZ (Gb.aF d) p)(c:Nat->Nat):Nat->List (Nat×(Tt->Int))
 |0=>[]
 |n+1=>(c n,co (G.g n))::gl G c n
theorem yg{φ:Mt->Tt->Int}{y:Mt}(t:Tt):∀{l:List Mt},l.Nodup->y∈l->sm l (λz=>if z=y then 1 else 0) φ t=φ y t
 |z::l,hn,hy=>by
  have hnd:=List.nodup_cons.1 hn;rw[fB];rcases Nb.1 hy with e0|hy
  .subst e0;rw[M9 rfl,kz φ t λw hw=>M8 fun(e:w=y)=>hnd.1 (e ▸ hw)];omega
  .have:z≠y:=λe=>hnd.1 (e ▸ hy);rw[M8 this,yg t hnd.2 hy];omega
theorem yh{p:Int}{R:Nat}{d:Nat->Nat}{G:Gb.aZ (Gb.aF d) p}{c:Nat->Nat}{t:Nat}{y:Mt}{i:Nat}(ht:c i+aK y=t):∀n,i<n->Vm p R d (gl G c n) t (dC y (co (G.g i)))
 |n+1,h=>by
  by_cases e:i=n
  .subst e;refine⟨λz=>if z=y then 1 else 0,_,(l8 p R d t (gl G c i)).zero,λs _=>⟨0,?_⟩⟩;rw[M9 (by omega),yg s (qt _) (jx.2 (by omega))];show _-(0+_)=_;omega
  .refine⟨λ_=>0,_,yh ht n (by omega),λs _=>⟨0,?_⟩⟩;have hz:(if c n<=t then sm (Ys (t-c n)) (λ_=>(0:Int)) (λy=>dC y (co (G.g n))) s else 0)=0:=by
    split
    .exact kz _ _ λ_ _=>rfl
    .rfl
   rw[hz];omega
theorem yi{p:Int}{R:Nat}{d:Nat->Nat}{G:Gb.aZ (Gb.aF d) p}{c:Nat->Nat}{t n:Nat}:∀{rp:Gb.Rp Gb.Mo},Hr n c t rp->Vm p R d (gl G c n) t λs=>Gb.ev G (Gb.dl s) rp
 |[],_=>(l8 p R d t _).zero
 |r::rp,h=>by have h1:=h r (by simp);have hS:=l8 p R d t (gl G c n);refine hS.con (λs _=>⟨0,?_⟩) (hS.add (hS.mul r.1 (yh (R:=R) (G:=G) h1.2 n h1.1)) (yi (rp:=rp) λx hx=>h x (by simp[hx])));have e:Gb.ev G (Gb.dl s) (r::rp)=r.1*Gb.ln (λt=>Gb.dl s (Gb.aC r.2.1 t)) (G.g r.2.2)+Gb.ev G (Gb.dl s) rp:=rfl;rw[e,tF];omega
theorem yj{p:Int}{R:Nat}{d:Nat->Nat}{G:Gb.aZ (Gb.aF d) p}{c:Nat->Nat}{t:Nat}:∀(n:Nat)(f:Tt->Int),Vm p R d (gl G c n) t f->∃rp,Hr n c t rp/\∀s∈Ts R d t,p∣f s-Gb.ev G (Gb.dl s) rp
 |0,f,h=>⟨[],λr hr=>by simp at hr,λs hs=>by have:=h s hs;simpa [Gb.ev] using this⟩
 |n+1,f,⟨a,h,h1,h2⟩=>by
  obtain⟨rp,r1,r2⟩:=yj n h h1;by_cases hc:c n<=t
  .refine⟨(Ys (t-c n)).map (λy=>(a y,y,n))++rp,λr hr=>?_,λs hs=>?_⟩
   .rcases MY.1 hr with hr|hr
    .obtain⟨y,hy,rfl⟩:=M5.1 hr;rw[jx] at hy;exact⟨Nat.lt_succ_self _,by simp only;omega⟩
    .have:=r1 r hr;exact⟨by omega,this.2⟩
   .rw[Gb.oH];have e:∀l:List Mt,Gb.ev G (Gb.dl s) (l.map λy=>(a y,y,n))=sm l a (λy=>dC y (co (G.g n))) s:=by
     intro l;induction l with
     |nil=>rfl
     |cons y l ih=>rw[fB,<-ih,<-tF];rfl
    rw[e];obtain⟨k,hk⟩:=h2 s hs;obtain⟨m,hm⟩:=r2 s hs;rw[M9 hc] at hk;exact⟨k+m,by grind⟩
  .refine⟨rp,λr hr=>by have:=r1 r hr;exact⟨by omega,this.2⟩,λs hs=>?_⟩;obtain⟨k,hk⟩:=h2 s hs;obtain⟨m,hm⟩:=r2 s hs;rw[M8 hc] at hk;exact⟨k+m,by grind⟩
theorem oQ{p:Int}{R:Nat}{d:Nat->Nat}{G:Gb.aZ (Gb.aF d) p}{c:Nat->Nat}{n t:Nat}(hG:Hg R d G n c){u:Tt}(hu:u∉Ts R d t):∀{rp:Gb.Rp Gb.Mo},Hr n c t rp->Gb.ev G (Gb.dl u) rp=0
 |[],_=>rfl
 |r::rp,h=>by
  have h1:=h r (by simp);have e:Gb.ev G (Gb.dl u) (r::rp)=r.1*Gb.ln (λt=>Gb.dl u (Gb.aC r.2.1 t)) (G.g r.2.2)+Gb.ev G (Gb.dl u) rp:=rfl;rw[e,oQ hG hu λx hx=>h x (by simp[hx]),Gb.jv]
  .simp
  .intro x hx;show Gb.dl u (Gb.aC r.2.1 x.2)=0;unfold Gb.dl;rw[M8];intro e2;apply hu;have h3:=hG.hom _ h1.1 x hx;rw[<-e2,<-mf,<-h1.2,m7];exact h3
theorem yk{p:Int}{d:Nat->Nat}{G0 G1:Gb.aZ (Gb.aF d) p}{c0 c1:Nat->Nat}{n0 n1 t:Nat}(ho:∀i,i<n0->∃rp,Hr n1 c1 (c0 i) rp/\∀φ,p∣Gb.ln φ (G0.g i)-Gb.ev G1 φ rp):∀{rp:Gb.Rp Gb.Mo},Hr n0 c0 t rp->∃rq,Hr n1 c1 t rq/\∀φ,p∣Gb.ev G0 φ rp-Gb.ev G1 φ rq
 |[],_=>⟨[],λr hr=>by simp at hr,λφ=>⟨0,by simp[Gb.ev]⟩⟩
 |r::rp,h=>by
  have h1:=h r (by simp);obtain⟨rq,q1,q2⟩:=yk ho (rp:=rp) λx hx=>h x (by simp[hx]);obtain⟨rs,s1,s2⟩:=ho r.2.2 h1.1;refine⟨Gb.ck r.1 (Gb.mZ (Gb.aF d) r.2.1 rs)++rq,λx hx=>?_,λφ=>?_⟩
  .rcases MY.1 hx with hx|hx
   .obtain⟨y,hy,rfl⟩:=M5.1 hx;obtain⟨z,hz,rfl⟩:=M5.1 hy;have h3:=s1 z hz;refine⟨h3.1,?_⟩;show c1 z.2.2+aK (Gb.bM r.2.1 z.2.1)=t;have e:aK (Gb.bM r.2.1 z.2.1)=aK r.2.1+aK z.2.1:=lr _ _;rw[e];omega
   .exact q1 x hx
  .rw[Gb.oH,Gb.qp,Gb.sP];obtain⟨k,hk⟩:=q2 φ;obtain⟨m,hm⟩:=s2 λt=>φ ((Gb.aF d).act r.2.1 t);have e:Gb.ev G0 φ (r::rp)=r.1*Gb.ln (λt=>φ ((Gb.aF d).act r.2.1 t)) (G0.g r.2.2)+Gb.ev G0 φ rp:=rfl;rw[e];exact⟨r.1*m+k,by grind⟩
theorem MC{p:Int}(hp:Pr p)(hp1:¬p∣1){R:Nat}(hR:R<=3){d:Nat->Nat}(hd:∀i,i<R->d i<=6){G0 G1:Gb.aZ (Gb.aF d) p}{c0 c1:Nat->Nat}{n0 n1 t:Nat}(h0:Hg R d G0 n0 c0)(h1:Hg R d G1 n1 c1)(hc0:∀i,i<n0->c0 i<=9)(hld:∀i,i<n1->d (G1.ld i).1+aK (G1.ld i).2=c1 i)(ho:∀i,i<n0->∃rp,Hr n1 c1 (c0 i) rp/\∀φ,p∣Gb.ln φ (G0.g i)-Gb.ev G1 φ rp)(hA:Gb.oP G1 λu=>d u.1+aK u.2<t){X:Gb.Fn Tt}{rp:Gb.Rp Gb.Mo}(hr:Hr n0 c0 t rp)(hX:∀φ,p∣X φ-Gb.ev G0 φ rp){s:Tt}(hs:s∈Ts R d t)(hn:¬p∣X (Gb.dl s))(hab:∀u∈Ts R d t,(Gb.aF d).lt s u->p∣X (Gb.dl u))(hnd:∀i,G1.live i->¬Gb.a8.dv (G1.ld i) s):aK s.2+d s.1<=901:=by
 obtain⟨hs1,hs2⟩:=jT.1 hs;have hgl:∀n,(∀i,i<n->c0 i<=9)->∀g∈gl G0 c0 n,g.1<=9:=by
  intro n;induction n with
  |zero=>exact λ_ g hg=>by simp[gl] at hg
  |succ n ih=>
   intro h g hg;rcases Nb.1 hg with rfl|hg
   .exact h n (by omega)
   .exact ih (λi hi=>h i (by omega)) g hg
 refine DT hp hp1 hR hd (G:=gl G0 c0 n0) (hgl n0 hc0) hs1 ?_ ?_
 .unfold LM;rw[hs2];refine⟨_,yi hr,hs,λhc=>hn ?_,λu hu hl=>?_⟩
  .obtain⟨a,ha⟩:=hX (Gb.dl s);obtain⟨b,hb⟩:=hc;have hb:Gb.ev G0 (Gb.dl s) rp=p*b:=hb;exact⟨a+b,by rw[Int.mul_add];omega⟩
  .obtain⟨a,ha⟩:=hX (Gb.dl u);obtain⟨b,hb⟩:=hab u hu hl;refine⟨b-a,?_⟩;show Gb.ev G0 (Gb.dl u) rp=p*(b-a);rw[Int.mul_sub];omega
 .intro x hx hle hl;have hsx:dD x (s.1,dA x s.2)=s:=kA hle;have hdx:d s.1+aK (dA x s.2)+1=t:=by have:=congrArg (λu:Tt=>aK u.2) hsx;simp only[dD] at this;rw[lr] at this;omega
  obtain⟨f,f1,f2⟩:=hl;have f2:i7 (i8 d) p (Ts R d (d s.1+aK (dA x s.2))) f (s.1,dA x s.2):=f2;have f1:Vm p R d (gl G0 c0 n0) (d s.1+aK (dA x s.2)) f:=f1;generalize ht':d s.1+aK (dA x s.2)=t' at f1 f2 hdx;generalize hu:((s.1,dA x s.2):Tt)=u at f2 hsx;obtain⟨rq,q1,q2⟩:=yj n0 f f1;obtain⟨rs,s1,s2⟩:=yk ho q1;have f3:i7 (i8 d) p (Ts R d t') (λv=>Gb.ev G0 (Gb.dl v) rq) u:=qx f2 λv hv=>by obtain⟨a,ha⟩:=q2 v hv;exact⟨-a,by rw[Int.mul_neg];omega⟩
  have hmax:∀l:Gb.Rp Gb.Mo,l≠[]->∃r∈l,∀y∈l,(Gb.aF d).lt ((Gb.aF d).act y.2.1 (G1.ld y.2.2)) ((Gb.aF d).act r.2.1 (G1.ld r.2.2))\/(Gb.aF d).act y.2.1 (G1.ld y.2.2)=(Gb.aF d).act r.2.1 (G1.ld r.2.2):=by
   intro l;induction l with
   |nil=>exact λh=>absurd rfl h
   |cons a l ih=>
    intro _;by_cases hl:l=[]
    .subst hl;exact⟨a,by simp,λy hy=>by rw[MZ] at hy;rw[hy];exact Nq rfl⟩
    .obtain⟨r,r1,r2⟩:=ih hl;rcases (Gb.aF d).tri ((Gb.aF d).act a.2.1 (G1.ld a.2.2)) ((Gb.aF d).act r.2.1 (G1.ld r.2.2)) with h|h|h
     .exact⟨r,by simp[r1],λy hy=>(Nb.1 hy).elim (λe=>by rw[e];exact Np h) (r2 y)⟩
     .exact⟨r,by simp[r1],λy hy=>(Nb.1 hy).elim (λe=>by rw[e];exact Nq h) (r2 y)⟩
     .refine⟨a,by simp,λy hy=>(Nb.1 hy).elim (λe=>by rw[e];exact Nq rfl) λhy=>Np ?_⟩;rcases r2 y hy with h3|h3
      .exact(Gb.aF d).trans h3 h
      .rw[h3];exact h
  have hne:rs≠[]:=λe=>f3.2.1 (by
   obtain⟨a,ha⟩:=s2 (Gb.dl u);rw[e] at ha;exact⟨a,by simpa [Gb.ev] using ha⟩)
  obtain⟨r,r1,r2⟩:=hmax rs hne;have hT:d ((Gb.aF d).act r.2.1 (G1.ld r.2.2)).1+aK ((Gb.aF d).act r.2.1 (G1.ld r.2.2)).2<t:=by have h3:=s1 r r1;have h4:=hld _ h3.1;have e:(Gb.aF d).act r.2.1 (G1.ld r.2.2)=dD r.2.1 (G1.ld r.2.2):=(mf _ _).symm;rw[e];simp only[dD];rw[lr];omega
  rcases Gb.xZ hA (fun {a b} hl hb=>by have:=Gb.DP hl;unfold Gb.bP at this;unfold aK at hb⊢;omega) ((Gb.aF d).act r.2.1 (G1.ld r.2.2)) hT (λφ=>Gb.ev G0 φ rq) ⟨rs,λy hy=>⟨h1.live _ (s1 y hy).1,r2 y hy⟩,s2⟩ with h|⟨i,a,v,i1,i2,i3,i4⟩
  .exact f3.2.1 (h _)
  .have hv:v∈Ts R d t':=Nf λhc=>i3 (by show p∣Gb.ev G0 (Gb.dl v) rq;rw[oQ h0 hc q1];exact⟨0,by simp⟩);have e:v=u:=qw (O:=i8 d) (f:=λv=>Gb.ev G0 (Gb.dl v) rq) ⟨hv,i3,λw _ hl=>i4 w hl⟩ f3;refine hnd i i1 ((Gb.qz d _ _).2 ⟨(Gb.aF d).mul x a,?_⟩);rw[(Gb.aF d).act_mul,i2,e];show Gb.aC x u=s;rw[<-mf,hsx]
end Go.Proofs.YteimdcndjjclnaaGreat.Cn
namespace Go.Proofs.YteimdcndjjclnaaGreat.Cn
open Go.Proofs.Tryz
set_option linter.unusedSimpArgs false
set_option linter.unusedVariables false
theorem yl{μ τ:Type}{p:Int}{a:μ->Int}{φ:μ->τ->Int}{t:τ}{j:μ}:∀{l:List μ},l.Nodup->j∈l->(∀i∈l,i≠j->p∣a i*φ i t)->p∣sm l a φ t-a j*φ j t
 |i::l,hn,hj,h=>by
  have hnd:=List.nodup_cons.1 hn;rw[fB];have all:∀{l:List μ},(∀i∈l,p∣a i*φ i t)->p∣sm l a φ t:=by
   intro l;induction l with
   |nil=>exact λ_=>⟨0,by simp[sm]⟩
   |cons i l ih=>exact λh=>by rw[fB];exact Int.dvd_add (h i (by simp)) (ih λk hk=>h k (by simp[hk]))
  rcases Nb.1 hj with e|hj
  .subst e;obtain⟨k,hk⟩:=all (l:=l) λi hi=>h i (by simp[hi]) λe=>hnd.1 (e ▸ hi);exact⟨k,by omega⟩
  .obtain⟨k,hk⟩:=yl hnd.2 hj λx hx hne=>h x (by simp[hx]) hne;obtain⟨m,hm⟩:=h i (by simp) λe=>hnd.1 (e ▸ hj);exact⟨k+m,by rw[Int.mul_add];omega⟩
theorem MD{τ:Type}(O:Od τ){p:Int}(hp:Pr p)(hp1:¬p∣1)(T:List τ)(n:Nat)(φ:Nat->τ->Int)(pv:Nat->τ)(hpv:∀k,k<n->pv k∈T)(h1:∀k,k<n->φ k (pv k)=1)(h0:∀j k,j<k->k<n->φ k (pv j)=0):bT (Ld O p T (f9 p T (λf=>∀t∈T,p∣f t) ((List.range n).map φ))) n:=by
 have hV:i6 p T λf=>∀t∈T,p∣f t:=⟨λ_ _=>⟨0,by simp⟩,λh k s hs=>Int.dvd_add (h s hs) (k s hs),λc f h s hs=>Int.dvd_mul_of_dvd_right (h s hs),λe h s hs=>by
   obtain⟨a,ha⟩:=e s hs;obtain⟨b,hb⟩:=h s hs;exact⟨a+b,by grind⟩⟩
 have hn:=tz O hp (ws:=(List.range n).map φ) hV (n:=0) (bT.none λs ⟨f,k1,k2⟩=>k2.2.1 (k1 s k2.1)) ?_
 .simpa using hn
 .intro l w r e hc;obtain⟨l',q,e1,e2,e3⟩:=List.map_eq_append_iff.1 e;obtain⟨k,m,e4,e5,e6⟩:=List.map_eq_cons_iff.1 e3;subst e2 e4 e5;have hk:k<n/\l'=List.range k:=by
   have hlen:l'.length<n:=by have:=congrArg List.length e1;simp at this;omega
   have hget:∀i:Nat,(List.range n)[i]?=(l'++k::m)[i]?:=λi=>by rw[e1]
   have hkk:k=l'.length:=by have:=hget l'.length;rw[Nl (MI _),List.getElem?_range hlen] at this;simpa using this.symm
   refine⟨by omega,List.ext_getElem? λi=>?_⟩;by_cases hi:i<l'.length
   .have:=hget i;rw[Ng hi] at this;rw[<-this,List.getElem?_range (by omega),List.getElem?_range (by omega)]
   .rw[MX (by omega),MX (by simp;omega)]
  obtain⟨hkn,rfl⟩:=hk;obtain⟨a,g,g1,g2⟩:=(l9 φ hV List.nodup_range (φ k)).1 hc;have hz:∀j,j<k->p∣a j:=by
   intro j;induction j using Nat.strongRecOn with
   |_ j ih=>
    intro hj;have hT:=hpv j (by omega);obtain⟨b,hb⟩:=g2 _ hT;obtain⟨c,hcc⟩:=g1 _ hT;obtain⟨d,hd⟩:=yl (p:=p) (a:=a) (φ:=φ) (t:=pv j) (j:=j) (l:=List.range k) List.nodup_range (List.mem_range.2 hj) λi hi hne=>by
     rw[List.mem_range] at hi;rcases Nat.lt_or_gt_of_ne hne with h|h
     .obtain⟨x,hx⟩:=ih i h (by omega);exact⟨x*φ i (pv j),by rw[hx];grind⟩
     .rw[h0 j i h (by omega)];exact⟨0,by simp⟩
    rw[h1 j (by omega)] at hd;rw[h0 j k hj hkn] at hb;exact⟨-(b+c+d),by grind⟩
  have hT:=hpv k hkn;obtain⟨b,hb⟩:=g2 _ hT;obtain⟨c,hcc⟩:=g1 _ hT;rw[h1 k hkn] at hb;have hsm:p∣sm (List.range k) a φ (pv k):=by
   have:∀l:List Nat,(∀i∈l,p∣a i)->p∣sm l a φ (pv k):=by
    intro l;induction l with
    |nil=>exact λ_=>⟨0,by simp[sm]⟩
    |cons i l ih=>intro h;rw[fB];obtain⟨x,hx⟩:=h i (by simp);exact Int.dvd_add ⟨x*φ i (pv k),by rw[hx];grind⟩ (ih λy hy=>h y (by simp[hy]))
   exact this _ λi hi=>hz i (List.mem_range.1 hi)
  obtain⟨d,hd⟩:=hsm;exact hp1 ⟨b+c+d,by grind⟩
end Go.Proofs.YteimdcndjjclnaaGreat.Cn
