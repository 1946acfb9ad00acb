/- Keys of the terms of vectors, and what a vector has of a key: plain mathematics. -/
import Derived.Test.YtglijodcbdcngaaGreatZK
import Derived.Test.YtglijodcbdcngaaGreatPP
import Derived.Test.YtglijodcbdcngaaGreatPM
import Derived.Test.YtglijodcbdcngaaGreatZJ
import Derived.Test.YtglijodcbdcngaaGreatZH
import Derived.Test.YtglijodcbdcngaaGreatM
set_option maxHeartbeats 4000000
set_option maxRecDepth 100000
namespace Go.Proofs.YtglijodcbdcngaaGreat
set_option linter.unusedSimpArgs false
set_option linter.unusedVariables false
open Go.Proofs.Tryz Go.RowKit
theorem mX{o:Int}{N:Nat}{xs:List Int}(ho:o=1\/o=2)(h0:0<N)(h3:N<=3)(hx:dM N xs):0<=a8 o xs/\a8 o xs<1125899906842624:=by
 obtain⟨lx,nx,dx⟩:=hx;unfold a8 W0 W1 W2;rcases qd (xs:=xs) (by omega) (by omega) with ⟨a,rfl⟩|⟨a,b,rfl⟩|⟨a,b,c,rfl⟩
 ·have:=nx a (by simp);simp only[ag] at dx;rcases ho with rfl|rfl<;>simp<;>omega
 ·have:=nx a (by simp);have:=nx b (by simp);simp only[ag] at dx;rcases ho with rfl|rfl<;>simp<;>omega
 ·have:=nx a (by simp);have:=nx b (by simp);have:=nx c (by simp);simp only[ag] at dx;rcases ho with rfl|rfl<;>simp<;>omega
theorem i4{o ov:Int}{N:Nat}{i j:Nat}{xs ys:List Int}(ho:o=1\/o=2)(hov:ov=1\/ov=2)(h0:0<N)(h3:N<=3)(hi:i<256)(hj:j<256)(hx:dM N xs)(hy:dM N ys)(h:ov=1\/i=j)(hm:0<aF o xs ys):aK o ov j ys<aK o ov i xs:=by
 have hk:=tU ho h0 h3 hx hy;unfold aK bG;rcases hk with h1|h1|h1
 ·rcases hov with rfl|rfl
  ·simp;omega
  ·rcases h with h|h
   ·simp at h
   ·subst h;simp;omega
 ·omega
 ·omega
theorem pz{o ov:Int}{N:Nat}{i j:Nat}{xs ys:List Int}(ho:o=1\/o=2)(hov:ov=1\/ov=2)(h0:0<N)(h3:N<=3)(hi:i<256)(hj:j<256)(hx:dM N xs)(hy:dM N ys)(h:ov=2\/xs=ys)(hm:i<j):aK o ov j ys<aK o ov i xs:=by
 have h1:=mX ho h0 h3 hx;have h2:=mX ho h0 h3 hy;unfold aK bG;rcases hov with rfl|rfl
 ·rcases h with h|h
  ·simp at h
  ·subst h;simp;omega
 ·simp;omega
theorem mQ{o ov:Int}{N:Nat}{i j:Nat}{xs ys:List Int}(ho:o=1\/o=2)(hov:ov=1\/ov=2)(h0:0<N)(h3:N<=3)(hi:i<256)(hj:j<256)(hx:dM N xs)(hy:dM N ys)(h:aK o ov i xs=aK o ov j ys):i=j/\xs=ys:=by
 have hz:=fj o xs ys (by rw[hx.len,hy.len]);have hn:=kA o xs ys;rcases Nat.lt_trichotomy i j with hl|hl|hl
 ·exfalso;by_cases h1:ov=2\/xs=ys
  ·have:=pz ho hov h0 h3 hi hj hx hy h1 hl;omega
  ·have h2:ov=1:=by rcases hov with h|h<;>simp_all
   by_cases h4:0<aF o xs ys
   ·have:=i4 ho hov h0 h3 hi hj hx hy (Or.inl h2) h4;omega
   ·have h5:aF o xs ys≠0:=λe=>h1 (Or.inr (hz.1 e));have:=i4 ho hov h0 h3 hj hi hy hx (Or.inl h2) (by omega);omega
 ·subst hl;refine⟨rfl,?_⟩;by_cases h4:0<aF o xs ys
  ·have:=i4 ho hov h0 h3 hi hj hx hy (Or.inr rfl) h4;omega
  ·by_cases h5:aF o xs ys=0
   ·exact hz.1 h5
   ·have:=i4 ho hov h0 h3 hj hi hy hx (Or.inr rfl) (by omega);omega
 ·exfalso;by_cases h1:ov=2\/xs=ys
  ·have:=pz ho hov h0 h3 hj hi hy hx (h1.imp id Eq.symm) hl;omega
  ·have h2:ov=1:=by rcases hov with h|h<;>simp_all
   by_cases h4:0<aF o xs ys
   ·have:=i4 ho hov h0 h3 hi hj hx hy (Or.inl h2) h4;omega
   ·have h5:aF o xs ys≠0:=λe=>h1 (Or.inr (hz.1 e));have:=i4 ho hov h0 h3 hj hi hy hx (Or.inl h2) (by omega);omega
structure b9(p o:Int)(N:Nat)(D:Nat->Int)(fss:List (List Tm)):Prop where
 canon:∀i,bk p o N (fss.getD i [])
 nn:∀i,∀t∈fss.getD i [],∀x∈t.2,0<=x
 deg:∀i,∀t∈fss.getD i [],ag t.2<=D i
theorem b9.exq{p o:Int}{N:Nat}{D:Nat->Int}{fss:List (List Tm)}(h:b9 p o N D fss)(hD:∀i,i<fss.length->D i<=16000){i:Nat}{t:Tm}(ht:t∈fss.getD i []):dM N t.2:=by
 have hi:i<fss.length:=by apply Ib;intro hle;rw[Hs,Hu hle] at ht;simp at ht
 exact⟨(h.canon i).len t ht,h.nn i t ht,Int.le_trans (h.deg i t ht) (hD i hi)⟩
theorem m6{p o ov:Int}{N:Nat}{D:Nat->Int}{fss:List (List Tm)}(ho:o=1\/o=2)(hov:ov=1\/ov=2)(h0:0<N)(h3:N<=3)(hR:fss.length<256)(h:b9 p o N D fss)(hD:∀i,i<fss.length->D i<=16000):∀(n:Nat),n<=fss.length->(aq o ov fss n=none->∀i,i<n->fss.getD i []=[])/\(∀j u,aq o ov fss n=some (j,u)->∀i,i<n->∀t∈fss.getD i [],(i=j/\t=u)\/aK o ov i t.2<aK o ov j u.2)
 |0,_=>⟨λ_ i hi=>by omega,λj u h=>by simp[aq] at h⟩
 |n+1,hn=>by
  obtain⟨a1,a2⟩:=m6 ho hov h0 h3 hR h hD n (by omega);have hc:=h.canon n;simp only[aq];cases hf:fss.getD n [] with
  |nil=>
   simp only[dG];refine⟨λe i hi=>?_,λj u e i hi t ht=>?_⟩
   ·rcases Nat.lt_succ_iff_lt_or_eq.1 hi with hl|rfl
    ·exact a1 e i hl
    ·exact hf
   ·rcases Nat.lt_succ_iff_lt_or_eq.1 hi with hl|rfl
    ·exact a2 j u e i hl t ht
    ·rw[hf] at ht;simp at ht
  |cons t0 ts=>
   rw[hf] at hc;have m0:t0∈fss.getD n []:=by rw[hf];simp
   have x0:=h.exq hD m0;have hself:∀t∈fss.getD n [],(n=n/\t=t0)\/aK o ov n t.2<aK o ov n t0.2:=λt ht=>by
    have xt:=h.exq hD ht;rw[hf] at ht;rcases List.mem_cons.1 ht with rfl|ht
    ·exact Or.inl ⟨rfl,rfl⟩
    ·exact Or.inr (i4 ho hov h0 h3 (by omega) (by omega) x0 xt (Or.inr rfl) (hc.falls.1 t ht))
   cases hs:aq o ov fss n with
   |none=>
    simp only[dG];refine⟨λe=>by simp at e,λj u e i hi t ht=>?_⟩;simp only[H6,Prod.mk.injEq] at e;obtain⟨rfl,rfl⟩:=e;rcases Nat.lt_succ_iff_lt_or_eq.1 hi with hl|rfl
    ·rw[a1 hs i hl] at ht;simp at ht
    ·exact hself t ht
   |some q=>
    obtain⟨j0,u0⟩:=q;obtain⟨hj0,us,hu0⟩:=dJ hs;have mu:u0∈fss.getD j0 []:=by rw[hu0];simp
    have xu:=h.exq hD mu;simp only[dG];by_cases hc1:ov=1/\0<aF o t0.2 u0.2
    ·rw[if_pos hc1];refine⟨λe=>by simp at e,λj u e i hi t ht=>?_⟩;simp only[H6,Prod.mk.injEq] at e;obtain⟨rfl,rfl⟩:=e;have hk:=i4 (i:=n) (j:=j0) ho hov h0 h3 (by omega) (by omega) x0 xu (Or.inl hc1.1) hc1.2;rcases Nat.lt_succ_iff_lt_or_eq.1 hi with hl|rfl
     ·rcases a2 j0 u0 hs i hl t ht with ⟨rfl,rfl⟩|h2
      ·exact Or.inr hk
      ·exact Or.inr (by omega)
     ·exact hself t ht
    ·rw[if_neg hc1];refine⟨λe=>by simp at e,λj u e i hi t ht=>?_⟩;simp only[H6,Prod.mk.injEq] at e;obtain⟨rfl,rfl⟩:=e;have hk:aK o ov n t0.2<aK o ov j0 u0.2:=by
      by_cases h2:ov=2\/u0.2=t0.2
      ·exact pz ho hov h0 h3 (by omega) (by omega) xu x0 h2 hj0
      ·have h4:ov=1:=by rcases hov with h|h<;>simp_all
       have hz:=fj o u0.2 t0.2 (by rw[xu.len,x0.len]);have hneg:=kA o u0.2 t0.2;have h5:aF o u0.2 t0.2≠0:=λe=>h2 (Or.inr (hz.1 e));exact i4 ho hov h0 h3 (by omega) (by omega) xu x0 (Or.inl h4) (by have:¬0<aF o t0.2 u0.2:=λh=>hc1 ⟨h4,h⟩;omega)
     rcases Nat.lt_succ_iff_lt_or_eq.1 hi with hl|rfl
     ·exact a2 j0 u0 hs i hl t ht
     ·rcases hself t ht with ⟨_,rfl⟩|h2
      ·exact Or.inr hk
      ·exact Or.inr (by omega)
def kd(o ov:Int)(i:Nat)(k:Int):List Int->Int:=λxs=>if aK o ov i xs=k then 1 else 0
def cv(o ov k:Int)(fss:List (List Tm)):Nat->Int
 |0=>0
 |i+1=>cv o ov k fss i+aj (kd o ov i k) (fss.getD i [])
theorem pA{φ:List Int->Int}:∀{ts:List Tm},(∀t∈ts,φ t.2=0)->aj φ ts=0
 |[],_=>rfl
 |t::ts,h=>by simp only[aj];rw[h t (by simp),pA λu hu=>h u (by simp[hu])];simp
theorem zf{φ:List Int->Int}{u:Tm}:∀{ts:List Tm},u∈ts->φ u.2=1->ts.Nodup->(∀t∈ts,t=u\/φ t.2=0)->aj φ ts=u.1
 |[],h,_,_,_=>by simp at h
 |t::ts,h,h1,hn,h2=>by
  obtain⟨n1,n2⟩:=List.nodup_cons.1 hn;simp only[aj];rcases List.mem_cons.1 h with rfl|h
  ·rw[h1,pA λx hx=>?_]
   ·omega
   ·rcases h2 x (by simp[hx]) with rfl|h3
    ·exact absurd hx n1
    ·exact h3
  ·rcases h2 t (by simp) with rfl|h3
   ·exact absurd h n1
   ·rw[h3,zf h h1 n2 λx hx=>h2 x (by simp[hx])];omega
theorem GJ{p o:Int}{N:Nat}{ts:List Tm}(h:bk p o N ts):ts.Nodup:=by
 induction ts with
 |nil=>exact List.nodup_nil
 |cons t ts ih=>refine List.nodup_cons.2 ⟨λhm=>nf h.len h.falls t hm rfl,ih ⟨λx hx=>h.len x (by simp[hx]),h.falls.2,λx hx=>h.coef x (by simp[hx])⟩⟩
theorem zg{o ov k:Int}{fss:List (List Tm)}:∀{n:Nat},(∀i,i<n->∀t∈fss.getD i [],aK o ov i t.2≠k)->cv o ov k fss n=0
 |0,_=>rfl
 |n+1,h=>by
  rw[cv,zg λi hi=>h i (by omega),pA λt ht=>?_];· rfl
  unfold kd;rw[if_neg (h n (by omega) t ht)]
theorem sH{p o ov:Int}{N:Nat}{D:Nat->Int}{fss:List (List Tm)}(ho:o=1\/o=2)(hov:ov=1\/ov=2)(h0:0<N)(h3:N<=3)(hR:fss.length<256)(h:b9 p o N D fss)(hD:∀i,i<fss.length->D i<=16000){j:Nat}{u:Tm}(hu:u∈fss.getD j [])(hj:j<fss.length):∀n,n<=fss.length->cv o ov (aK o ov j u.2) fss n=if j<n then u.1 else 0
 |0,_=>by simp[cv]
 |n+1,hn=>by
  have ih:=sH ho hov h0 h3 hR h hD hu hj n (by omega);rw[cv,ih];have xu:=h.exq hD hu;by_cases e:n=j
  ·subst e;rw[if_neg (by omega),if_pos (by omega),zf hu (by unfold kd;rw[if_pos rfl]) (GJ (h.canon n)) λt ht=>?_]
   ·omega
   ·by_cases ek:aK o ov n t.2=aK o ov n u.2
    ·have h4:=mQ ho hov h0 h3 (by omega) (by omega) (h.exq hD ht) xu ek;left;have hc:=h.canon n;have key:∀(ts:List Tm),bk p o N ts->t∈ts->u∈ts->t=u:=by
      intro ts;induction ts with
      |nil=>intro _ ht;simp at ht
      |cons x ts ih=>
       intro hc ht hu;have hne:=nf hc.len hc.falls;rcases List.mem_cons.1 ht with rfl|ht
       ·rcases List.mem_cons.1 hu with rfl|hu
        ·rfl
        ·exact absurd h4.2.symm (hne u hu)
       ·rcases List.mem_cons.1 hu with rfl|hu
        ·exact absurd h4.2 (nf hc.len hc.falls t ‹_›)
        ·exact ih ⟨λx hx=>hc.len x (by simp[hx]),hc.falls.2,λx hx=>hc.coef x (by simp[hx])⟩ ht hu
     exact key _ hc ht hu
    ·right;unfold kd;rw[if_neg ek]
  ·rw[pA λt ht=>?_]
   ·by_cases h4:j<n
    ·rw[if_pos h4,if_pos (by omega)];omega
    ·rw[if_neg h4,if_neg (by omega)];omega
   ·unfold kd;rw[if_neg λek=>e (mQ ho hov h0 h3 (by omega) (by omega) (h.exq hD ht) xu ek).1]
theorem oR{p o ov k:Int}{fss gss:List (List Tm)}(hl:fss.length=gss.length):∀n,n<=fss.length->p∣cv o ov k (ch p o fss gss) n-(cv o ov k fss n+cv o ov k gss n)
 |0,_=>⟨0,by simp[cv]⟩
 |n+1,hn=>by obtain⟨a,ha⟩:=oR (p:=p) (o:=o) (ov:=ov) (k:=k) hl n (by omega);simp only[cv];rw[lU hl (by omega)];obtain⟨b,hb⟩:=jx p o (kd o ov n k) (fss.getD n []++gss.getD n []);rw[iV] at hb;exact⟨a+b,by rw[Int.mul_add];omega⟩
theorem qD{o:Int}{N:Nat}{xs ys:List Int}(h3:N<=3)(hx:xs.length=N)(hy:ys.length=N):a8 o (ah (·+·) xs ys)=a8 o xs+a8 o ys:=by
 unfold a8
 match xs,ys,hx,hy with
 |[],[],_,_=>simp[ah]
 |[a],[x],_,_=>simp[ah];grind
 |[a,b],[x,y],_,_=>simp[ah];grind
 |[a,b,c],[x,y,z],_,_=>simp[ah];grind
 |_::_::_::_::_,_,h,_=>simp at h;omega
 |[],_::_,h,g=>simp at h g;omega
 |[_],[],h,g=>simp at h g;omega
 |[_],_::_::_,h,g=>simp at h g;omega
 |[_,_],[],h,g=>simp at h g;omega
 |[_,_],[_],h,g=>simp at h g;omega
 |[_,_],_::_::_::_,h,g=>simp at h g;omega
 |[_,_,_],[],h,g=>simp at h g;omega
 |[_,_,_],[_],h,g=>simp at h g;omega
 |[_,_,_],[_,_],h,g=>simp at h g;omega
 |[_,_,_],_::_::_::_::_,h,g=>simp at h g;omega
theorem m7{o ov:Int}{N i:Nat}{xs ys:List Int}(h3:N<=3)(hx:xs.length=N)(hy:ys.length=N):aK o ov i (ah (·+·) xs ys)=aK o ov i ys+a8 o xs:=by unfold aK;rw[qD h3 hx hy];omega
theorem oS{p o ov k:Int}{N:Nat}(h3:N<=3){c:Int}{e:List Int}(he:e.length=N){gss:List (List Tm)}(hg:∀i,cT N (gss.getD i [])):∀n,n<=gss.length->p∣cv o ov k (aN p o [(c,e)] gss) n-c*cv o ov (k-a8 o e) gss n
 |0,_=>⟨0,by simp[cv]⟩
 |n+1,hn=>by
  obtain⟨a,ha⟩:=oS (p:=p) (o:=o) (ov:=ov) (k:=k) h3 (c:=c) he hg n (by omega);simp only[cv];have e1:(aN p o [(c,e)] gss).getD n []=aG p o (aB p [(c,e)] (gss.getD n [])):=by unfold aN;rw[kh _ _ _ (by omega)]
  rw[e1];obtain⟨b,hb⟩:=jx p o (kd o ov n k) (aB p [(c,e)] (gss.getD n []));have e2:aB p [(c,e)] (gss.getD n [])=aT p (c,e) (gss.getD n []):=by simp[aB]
  rw[e2] at hb⊢;obtain⟨d,hd⟩:=lV p (kd o ov n k) (c,e) (gss.getD n []);have e3:aj (λb=>kd o ov n k (ah (·+·) e b)) (gss.getD n [])=aj (kd o ov n (k-a8 o e)) (gss.getD n []):=rO λt ht=>by
   unfold kd;rw[m7 h3 he (hg n t ht)];by_cases h:aK o ov n t.2=k-a8 o e
   ·rw[if_pos (by omega),if_pos h]
   ·rw[if_neg (by omega),if_neg h]
  simp only at hd;rw[e3] at hd;rw[Int.mul_add];exact⟨a+b+d,by rw[Int.mul_add,Int.mul_add];omega⟩
def fu(n j:Nat)(f:List Tm):List (List Tm):=(List.replicate n []).set j f
theorem rD{n j i:Nat}{f:List Tm}(hj:j<n):(fu n j f).getD i []=if j=i then f else []:=by
 unfold fu;by_cases h:j=i
 ·subst h;rw[if_pos rfl];simp[Hs,hj]
 ·rw[if_neg h];rw[Hs,List.getElem?_set_ne h];by_cases h2:i<n
  ·simp[h2]
  ·simp[Hu,h2]
theorem zh{o ov k:Int}{m j:Nat}{c:Int}{e:List Int}(hj:j<m):∀n,n<=m->cv o ov k (fu m j [(c,e)]) n=if j<n/\aK o ov j e=k then c else 0
 |0,_=>by simp[cv]
 |n+1,hn=>by
  rw[cv,zh hj n (by omega),rD hj];by_cases h:j=n
  ·subst h;rw[if_pos rfl,if_neg (by omega)];by_cases hk:aK o ov j e=k
   ·rw[if_pos ⟨by omega,hk⟩];simp[aj,kd,hk]
   ·rw[if_neg λh=>hk h.2];simp[aj,kd,hk]
  ·rw[if_neg h];simp only[aj];by_cases h2:j<n/\aK o ov j e=k
   ·rw[if_pos h2,if_pos ⟨by omega,h2.2⟩];omega
   ·rw[if_neg h2,if_neg λh4=>h2 ⟨by omega,h4.2⟩];omega
structure DS where
 v:List (List Tm)
 q:List (List Tm)
 l:List (List Tm)
def fB(o ov:Int)(j:Nat)(e:List Int)(g:List (List Tm)):Bool:=
 match aq o ov g g.length with
 |none=>false
 |some (k,u)=>decide (k=j)&& !fk e u.2
def d9(o ov:Int)(lss:List (List (List Tm)))(j:Nat)(e:List Int):Option Nat:=lss.findIdx? (fB o ov j e)
def gW(p:Int)(t u:Tm):Tm:=(t.1*aC p u.1%p,ah (· - ·) t.2 u.2)
def fQ(o ov:Int)(g:List (List Tm)):Tm:=((aq o ov g g.length).getD (0,aM)).2
def dK(p o ov:Int)(lss:List (List (List Tm)))(s:DS):Option DS:=
 match aq o ov s.v s.v.length with
 |none=>none
 |some (j,t)=>
  match d9 o ov lss j t.2 with
  |none=>some ⟨ch p o s.v (fu s.v.length j [(p-t.1,t.2)]),s.q,s.l.set j (s.l.getD j []++[t])⟩
  |some i=>some ⟨ch p o s.v (aN p o [(p-(gW p t (fQ o ov (lss.getD i []))).1,(gW p t (fQ o ov (lss.getD i []))).2)] (lss.getD i [])),s.q.set i (s.q.getD i []++[gW p t (fQ o ov (lss.getD i []))]),s.l⟩
def Dv(p o ov:Int)(lss:List (List (List Tm)))(a b:DS):Prop:=∀P:DS->Prop,P a->(∀b c,P b->dK p o ov lss b=some c->P c)->P b
theorem Dv.refl{p o ov:Int}{lss:List (List (List Tm))}(s:DS):Dv p o ov lss s s:=λ_ h _=>h
theorem Dv.step{p o ov:Int}{lss:List (List (List Tm))}{a b c:DS}(h:Dv p o ov lss a b)(k:dK p o ov lss b=some c):Dv p o ov lss a c:=λP h1 h2=>h2 b c (h P h1 h2) k
theorem Dv.ind{p o ov:Int}{lss:List (List (List Tm))}{a:DS}{motive:∀b,Dv p o ov lss a b->Prop}(refl:motive a (Dv.refl a))(step:∀{b c}(h1:Dv p o ov lss a b)(h2:dK p o ov lss b=some c),motive b h1->motive c (h1.step h2)){b:DS}(h:Dv p o ov lss a b):motive b h:=by have:=h (λb=>∃h,motive b h) ⟨_,refl⟩ (λb c ⟨h1,h2⟩ h3=>⟨_,step h1 h3 h2⟩);exact this.2
theorem Dv.trans{p o ov:Int}{lss:List (List (List Tm))}{a b c:DS}(h:Dv p o ov lss a b)(k:Dv p o ov lss b c):Dv p o ov lss a c:=by
 induction k using Dv.ind with
 |refl=>exact h
 |step _ h2 ih=>exact Dv.step ih h2
theorem Dv.first{p o ov:Int}{lss:List (List (List Tm))}{a c:DS}(h:Dv p o ov lss a c):a=c\/∃b,dK p o ov lss a=some b/\Dv p o ov lss b c:=by
 induction h using Dv.ind with
 |refl=>exact Or.inl rfl
 |step h1 h2 ih=>
  rcases ih with rfl|⟨b,hb,hd⟩
  ·exact Or.inr ⟨_,h2,Dv.refl _⟩
  ·exact Or.inr ⟨b,hb,Dv.step hd h2⟩
theorem Dv.linear{p o ov:Int}{lss:List (List (List Tm))}{a b c:DS}(h:Dv p o ov lss a b)(k:Dv p o ov lss a c)(he:dK p o ov lss c=none):Dv p o ov lss b c:=by
 induction h using Dv.ind with
 |refl=>exact k
 |step h1 h2 ih=>
  rcases (ih).first with rfl|⟨d,hd,hc⟩
  ·rw[he] at h2;simp at h2
  ·rw[h2] at hd;simp only[H6] at hd;subst hd;exact hc
def Dg(ov:Int)(i:Nat):Int:=if ov=2 then 200*((i:Int)+1) else 200
structure ef(p o ov:Int)(N R:Nat)(lss:List (List (List Tm)))(s:DS):Prop where
 vl:s.v.length=R
 ql:s.q.length=lss.length
 ll:s.l.length=R
 vok:b9 p o N (Dg ov) s.v
 lok:b9 p o N (Dg ov) s.l
 qok:∀i,bk p o N (s.q.getD i [])/\(∀t∈s.q.getD i [],∀x∈t.2,0<=x)/\∀t∈s.q.getD i [],ag t.2<=8000
 lk:∀i,∀u∈s.l.getD i [],∀j,∀t∈s.v.getD j [],aK o ov j t.2<aK o ov i u.2
 qk:∀i,∀u∈s.q.getD i [],∀k x,aq o ov (lss.getD i []) (lss.getD i []).length=some (k,x)->∀j,∀t∈s.v.getD j [],aK o ov j t.2<aK o ov k (ah (·+·) u.2 x.2)
structure cF(p o:Int)(N R:Nat)(lss:List (List (List Tm))):Prop where
 len:∀g∈lss,g.length=R
 ok:∀g∈lss,b9 p o N (λ_=>200) g
theorem kg{ov:Int}{R:Nat}(hR:R<=40):∀i,i<R->0<=Dg ov i/\Dg ov i<=8000:=by intro i hi;unfold Dg;split<;>omega
theorem jM:∀(xs ys:List Int),xs.length=ys.length->ag (ah (·+·) xs ys)=ag xs+ag ys
 |[],[],_=>by simp[ah,ag]
 |[],_::_,h=>by simp at h
 |_::_,[],h=>by simp at h
 |x::xs,y::ys,h=>by simp only[ah,ag];rw[jM xs ys (by simpa using h)];omega
theorem kZ:∀(xs ys:List Int),(∀x∈xs,0<=x)->(∀x∈ys,0<=x)->∀x∈ah (·+·) xs ys,0<=x
 |[],[],_,_=>by simp[ah]
 |[],_::_,_,_=>by simp[ah]
 |_::_,[],_,_=>by simp[ah]
 |x::xs,y::ys,h,g=>by
  intro z hz;simp only[ah,List.mem_cons] at hz;rcases hz with rfl|hz
  ·have:=h x (by simp);have:=g y (by simp);omega
  ·exact kZ xs ys (λa ha=>h a (by simp[ha])) (λa ha=>g a (by simp[ha])) z hz
theorem ja:∀(xs ys:List Int),xs.length=ys.length->fk xs ys=false->(ah (· - ·) xs ys).length=ys.length/\(∀x∈ah (· - ·) xs ys,0<=x)/\ah (·+·) (ah (· - ·) xs ys) ys=xs
 |[],[],_,_=>by simp[ah]
 |[],_::_,h,_=>by simp at h
 |_::_,[],h,_=>by simp at h
 |x::xs,y::ys,h,g=>by
  unfold fk at g;simp only[ah,List.any_cons,Bool.or_eq_false_iff] at g;obtain⟨a,b,c⟩:=ja xs ys (by simpa using h) g.2;have g1:0<=x-y:=by have:=g.1;simp[gK] at this;omega
  refine⟨by simp[ah,a],λz hz=>?_,by simp only[ah,c,List.cons.injEq,and_true];omega⟩;simp only[ah,List.mem_cons] at hz;rcases hz with rfl|hz
  ·exact g1
  ·exact b z hz
structure bj(p o ov:Int)(N R:Nat):Prop where
 pr:aZ p=0
 o:o=1\/o=2
 ov:ov=1\/ov=2
 n0:0<N
 n3:N<=3
 r:R<=40
theorem kH{α:Type}{l:List (List α)}{i:Nat}{t:α}(ht:t∈l.getD i []):i<l.length:=by apply Ib;intro hle;rw[Hs,Hu hle] at ht;simp at ht
theorem sI{α:Type}(l:List (List α))(i:Nat):l.getD i []=[]\/l.getD i []∈l:=by
 by_cases h:i<l.length
 ·right;rw[Hs,Ht h];exact Hp h
 ·left;rw[Hs,Hu (by omega)];rfl
theorem qG{p a:Int}(h:p∣a)(h1:1<=a)(h2:a<p):False:=by
 obtain⟨k,hk⟩:=h;have hp:0<p:=by omega
 have:0<k:=by apply Int.lt_of_not_ge;intro hle;have:=Int.mul_le_mul_of_nonneg_left hle (Int.le_of_lt hp);rw[Int.mul_zero] at this;omega
 have h3:=Int.mul_le_mul_of_nonneg_left (show 1<=k by omega) (Int.le_of_lt hp);rw[Int.mul_one] at h3;omega
theorem rJ{p o ov:Int}{N R:Nat}(hx:bj p o ov N R){D:Nat->Int}{v:List (List Tm)}(hv:b9 p o N D v)(hl:v.length=R)(hD:∀i,i<R->D i<=16000){K:Int}(h:∀k,K<=k->p∣cv o ov k v R):∀i,∀u∈v.getD i [],aK o ov i u.2<K:=by intro i u hu;apply Int.lt_of_not_ge;intro hge;have hR:=hx.r;have hi:=kH hu;have hc:=sH hx.o hx.ov hx.n0 hx.n3 (by omega) hv (by rw[hl];exact hD) hu hi v.length (He _);rw[if_pos hi] at hc;have h1:=h _ hge;rw[<-hl,hc] at h1;have h2:=(hv.canon i).coef u hu;exact qG h1 h2.1 h2.2
theorem zi{p o:Int}{N:Nat}{t:Tm}(hl:t.2.length=N)(hc:1<=t.1/\t.1<p):∀{f:List Tm},bk p o N f->(∀u∈f,0<aF o u.2 t.2)->bk p o N (f++[t]):=by
 intro f hf h;refine⟨λx hx=>?_,?_,λx hx=>?_⟩
 ·rcases Hv.1 hx with hx|hx
  ·exact hf.len x hx
  ·rw[Hw] at hx;rw[hx];exact hl
 ·have:=hf.falls;clear hf;induction f with
  |nil=>exact⟨λu hu=>by simp at hu,trivial⟩
  |cons y f ih=>
   refine⟨λu hu=>?_,ih (λu hu=>h u (by simp[hu])) this.2⟩;rcases Hv.1 hu with hu|hu
   ·exact this.1 u hu
   ·rw[Hw] at hu;rw[hu];exact h y (by simp)
 ·rcases Hv.1 hx with hx|hx
  ·exact hf.coef x hx
  ·rw[Hw] at hx;rw[hx];exact hc
theorem zj{o:Int}{N:Nat}{xs ys:List Int}(ho:o=1\/o=2)(h0:0<N)(h3:N<=3)(hx:dM N xs)(hy:dM N ys)(h:a8 o ys<a8 o xs):0<aF o xs ys:=by
 rcases tU ho h0 h3 hx hy with h1|h1|h1
 ·exact h1.1
 ·omega
 ·rw[h1.2] at h;omega
theorem GK{o ov:Int}{N:Nat}{i:Nat}{xs ys:List Int}(ho:o=1\/o=2)(h0:0<N)(h3:N<=3)(hx:dM N xs)(hy:dM N ys)(h:aK o ov i ys<aK o ov i xs):0<aF o xs ys:=
 zj ho h0 h3 hx hy (by unfold aK at h;omega)
theorem rI{p o:Int}{N:Nat}{D:Nat->Int}(hp:2<=p){v w:List (List Tm)}(hl:v.length=w.length)(hv:b9 p o N D v)(hw:∀i,cP p N (w.getD i [])/\∀t∈w.getD i [],(∀x∈t.2,0<=x)/\ag t.2<=D i):b9 p o N D (ch p o v w):=by
 have hat:∀i,(ch p o v w).getD i []=aG p o (v.getD i []++w.getD i []):=λi=>by
  by_cases hi:i<v.length
  ·exact lU hl hi
  ·have e1:v.getD i []=[]:=by rw[Hs,Hu (by omega)];rfl
   have e2:w.getD i []=[]:=by rw[Hs,Hu (by omega)];rfl
   rw[e1,e2,Hs,Hu (by rw[iu hl];omega)];rfl
 have hm:∀i,∀t∈(ch p o v w).getD i [],(∀x∈t.2,0<=x)/\ag t.2<=D i:=λi t ht=>by
  rw[hat] at ht;obtain⟨y,hy,e⟩:=ke ht;rw[e];rcases Hv.1 hy with hy|hy
  ·exact⟨hv.nn i y hy,hv.deg i y hy⟩
  ·exact(hw i).2 y hy
 exact⟨λi=>by rw[hat];exact((hv.canon i).okl.append (hw i).1).col hp,λi t ht=>(hm i t ht).1,λi t ht=>(hm i t ht).2⟩
theorem wW{o ov:Int}{j:Nat}{e:List Int}{g:List (List Tm)}(h:fB o ov j e g=true):aq o ov g g.length=some (j,fQ o ov g)/\fk e (fQ o ov g).2=false:=by
 unfold fB at h;unfold fQ;split at h
 ·simp at h
 ·rename_i k u hl;simp only[Bool.and_eq_true,decide_eq_true_eq,Bool.not_eq_true'] at h;rw[hl,h.1];exact⟨rfl,h.2⟩
theorem mZ{o ov:Int}{lss:List (List (List Tm))}{j:Nat}{e:List Int}{i:Nat}(h:d9 o ov lss j e=some i):i<lss.length/\lss.getD i []∈lss/\fB o ov j e (lss.getD i [])=true:=by
 unfold d9 at h;rw[List.findIdx?_eq_some_iff_getElem] at h;obtain⟨hi,h1,_⟩:=h;have e1:lss.getD i []=lss[i]:=by simp[Hs,hi]
 rw[e1];exact⟨hi,Hp hi,h1⟩
structure zk(p o ov:Int)(N R:Nat)(g:List (List Tm))(j:Nat)(t u b:Tm):Prop where
 lead:aq o ov g g.length=some (j,u)
 mem:u∈g.getD j []
 bl:b.2.length=N
 bn:∀x∈b.2,0<=x
 bc:1<=b.1/\b.1<p
 add:ah (·+·) b.2 u.2=t.2
 sum:ag b.2+ag u.2=ag t.2
 un:0<=ag u.2
 bs:0<=ag b.2
 co:p∣t.1+(p-b.1)*u.1
theorem jb:∀{xs:List Int},(∀x∈xs,0<=x)->0<=ag xs
 |[],_=>by simp[ag]
 |x::xs,h=>by simp only[ag];have:=h x (by simp);have:=jb (xs:=xs) λy hy=>h y (by simp[hy]);omega
theorem rA{p o ov:Int}{N R:Nat}(hx:bj p o ov N R){lss:List (List (List Tm))}(hl:cF p o N R lss){j i:Nat}{t:Tm}(htl:t.2.length=N)(htc:1<=t.1/\t.1<p)(h:d9 o ov lss j t.2=some i):zk p o ov N R (lss.getD i []) j t (fQ o ov (lss.getD i [])) (gW p t (fQ o ov (lss.getD i []))):=by
 obtain⟨_,hm,hd⟩:=mZ h;obtain⟨h1,h2⟩:=wW hd;generalize fQ o ov (lss.getD i [])=u at h1 h2;obtain⟨_,us,hus⟩:=dJ h1;have hmem:u∈(lss.getD i []).getD j []:=by rw[hus];simp
 have hok:=hl.ok _ hm;have hul:=(hok.canon j).len u hmem;have huc:=(hok.canon j).coef u hmem;have hun:=hok.nn j u hmem;obtain⟨o1,o2,o3⟩:=ja t.2 u.2 (by rw[htl,hul]) h2;obtain⟨hp1,hp2⟩:=dU hx.pr;obtain⟨i1,i2,i3⟩:=gJ hx.pr (show 0<u.1/\u.1<p by omega);have hs:ag (ah (· - ·) t.2 u.2)+ag u.2=ag t.2:=by rw[<-jM _ _ o1,o3]
 refine⟨h1,hmem,by unfold gW;rw[o1,hul],o2,lH hx.pr htc.1 htc.2 i1 i2,o3,hs,jb hun,jb o2,?_⟩;unfold gW;simp only;obtain⟨m,hm⟩:=gC p (t.1*aC p u.1);have h4:=gC p (u.1*aC p u.1);rw[i3] at h4;obtain⟨q,hq⟩:=h4;refine⟨u.1-m*u.1+q*t.1,?_⟩;have e1:t.1*aC p u.1%p=p*m+t.1*aC p u.1:=by omega
 have e2:u.1*aC p u.1=1-p*q:=by omega
 rw[e1];have e3:(p-(p*m+t.1*aC p u.1))*u.1=p*u.1-p*(m*u.1)-t.1*(u.1*aC p u.1):=by grind
 rw[e3,e2];grind
theorem zl{ov:Int}{j m:Nat}(hov:ov=1\/ov=2)(h:ov=1\/j<m){a b:Int}(ha:a<=Dg ov j)(hb:b<=200)(hab:ov=1->a+b<=200):a+b<=Dg ov m:=by
 unfold Dg at*;rcases hov with rfl|rfl
 ·simp;exact hab rfl
 ·simp at ha⊢;rcases h with h|h
  ·simp at h
  ·omega
theorem GL{p o ov:Int}{N R:Nat}(hx:bj p o ov N R){g:List (List Tm)}(hg:b9 p o N (λ_=>200) g)(hgl:g.length=R){j:Nat}{t u b:Tm}(hb:zk p o ov N R g j t u b)(ht:ag t.2<=Dg ov j){m:Nat}{x:Tm}(hm:x∈g.getD m []):ag b.2+ag x.2<=Dg ov m:=by
 have hR:=hx.r;have hml:=kH hm;have hk:=(m6 hx.o hx.ov hx.n0 hx.n3 (by omega) hg (λ_ _=>by omega) g.length (He _)).2 j u hb.lead m hml x hm;have xx:=hg.exq (λ_ _=>by omega) hm;have xu:=hg.exq (λ_ _=>by omega) hb.mem;have hjl:=kH hb.mem;have hxd:=hg.deg m x hm;have h1:=hb.sum;have h2:=hb.un;have h3:=hb.bs;have key:(ov=1\/m=j)->ag x.2<=ag u.2:=by
  intro hc;rcases hk with ⟨_,rfl⟩|hk
  ·omega
  ·by_cases ho:0<aF o x.2 u.2
   ·have:=i4 (i:=m) (j:=j) hx.o hx.ov hx.n0 hx.n3 (by omega) (by omega) xx xu hc ho;omega
   ·have hz:=fj o u.2 x.2 (by rw[xu.len,xx.len]);have hn:=kA o x.2 u.2;by_cases h0:aF o u.2 x.2=0
    ·rw[hz.1 h0];omega
    ·exact xO (show 0<aF o u.2 x.2 by omega)
 by_cases hc:m=j
 ·have:=key (Or.inr hc);subst hc;omega
 ·rcases hx.ov with h|h
  ·have:=key (Or.inl h);refine zl hx.ov (Or.inl h) (j:=j) (by omega) hxd λ_=>?_;unfold Dg at ht;rw[if_neg (by omega)] at ht;omega
  ·have hlt:j<m:=by
    rcases Nat.lt_trichotomy j m with h4|h4|h4
    ·exact h4
    ·exact absurd h4.symm hc
    ·exfalso;have:=pz (i:=m) (j:=j) hx.o hx.ov hx.n0 hx.n3 (by omega) (by omega) xx xu (Or.inl h) h4;rcases hk with ⟨h5,_⟩|hk
     ·omega
     ·omega
   exact zl hx.ov (Or.inr hlt) (j:=j) (by omega) hxd λh5=>by omega
theorem kR{p o ov:Int}{N R:Nat}(hx:bj p o ov N R){D:Nat->Int}{v:List (List Tm)}(hv:b9 p o N D v)(hl:v.length=R)(hD:∀i,i<R->D i<=16000){j:Nat}{t:Tm}(h:aq o ov v v.length=some (j,t)):t∈v.getD j []/\j<R/\cv o ov (aK o ov j t.2) v R=t.1/\∀k,aK o ov j t.2<k->cv o ov k v R=0:=by
 have hR:=hx.r;obtain⟨hj,ts,e⟩:=dJ h;have hm:t∈v.getD j []:=by rw[e];simp
 have hk:=(m6 hx.o hx.ov hx.n0 hx.n3 (by omega) hv (by rw[hl];exact hD) v.length (He _)).2 j t h;have hc:=sH hx.o hx.ov hx.n0 hx.n3 (by omega) hv (by rw[hl];exact hD) hm hj v.length (He _);rw[if_pos hj,hl] at hc;refine⟨hm,by omega,hc,λk hk2=>zg λi hi u hu=>?_⟩;rcases hk i (by omega) u hu with ⟨rfl,rfl⟩|h4<;>omega
theorem kQ{p o ov:Int}{N R:Nat}(hx:bj p o ov N R){lss:List (List (List Tm))}(hl:cF p o N R lss){s s2:DS}(h:ef p o ov N R lss s)(hs:dK p o ov lss s=some s2):ef p o ov N R lss s2/\∃j t,aq o ov s.v s.v.length=some (j,t)/\∀i,∀u∈s2.v.getD i [],aK o ov i u.2<aK o ov j t.2:=by
 have hR:=hx.r;obtain⟨hp1,hp2⟩:=dU hx.pr;have hD:∀i,i<R->Dg ov i<=16000:=λi hi=>by have:=(kg (ov:=ov) hx.r i hi).2;omega
 unfold dK at hs;cases hld:aq o ov s.v s.v.length with
 |none=>rw[hld] at hs;simp at hs
 |some q=>
 obtain⟨j,t⟩:=q;rw[hld] at hs;simp only at hs;obtain⟨htm,hj,hc1,hc2⟩:=kR hx h.vok h.vl hD hld;have htc:=(h.vok.canon j).coef t htm;have htl:=(h.vok.canon j).len t htm;have htn:=h.vok.nn j t htm;have htd:=h.vok.deg j t htm;have xt:=h.vok.exq (by rw[h.vl];exact hD) htm;cases hdv:d9 o ov lss j t.2 with
 |none=>
  rw[hdv] at hs;simp only[H6] at hs;subst hs;have hal:s.v.length=(fu s.v.length j [(p-t.1,t.2)]).length:=by simp[fu]
  have hv2:b9 p o N (Dg ov) (ch p o s.v (fu s.v.length j [(p-t.1,t.2)])):=by
   refine rI hp1 hal h.vok λi=>?_;rw[rD (by rw[h.vl];exact hj)];by_cases e:j=i
   ·subst e;rw[if_pos rfl];refine⟨⟨λx hx=>?_,λx hx=>?_⟩,λx hx=>?_⟩<;>(rw[Hw] at hx;subst hx)
    ·exact htl
    ·simp only;omega
    ·exact⟨htn,htd⟩
   ·rw[if_neg e];exact⟨⟨λx hx=>by simp at hx,λx hx=>by simp at hx⟩,λx hx=>by simp at hx⟩
  have hvl2:(ch p o s.v (fu s.v.length j [(p-t.1,t.2)])).length=R:=by rw[iu hal,h.vl]
  have hkb:∀i,∀u∈(ch p o s.v (fu s.v.length j [(p-t.1,t.2)])).getD i [],aK o ov i u.2<aK o ov j t.2:=by
   refine rJ hx hv2 hvl2 hD λk hk=>?_;obtain⟨a,ha⟩:=oR (p:=p) (o:=o) (ov:=ov) (k:=k) hal R (by rw[h.vl];exact He _);have hb:=zh (o:=o) (ov:=ov) (k:=k) (m:=s.v.length) (j:=j) (c:=p-t.1) (e:=t.2) (by rw[h.vl];exact hj) R (by rw[h.vl];exact He _);by_cases e:aK o ov j t.2=k
   ·rw[if_pos ⟨hj,e⟩] at hb;rw[e] at hc1;exact⟨a+1,by rw[Int.mul_add];omega⟩
   ·rw[if_neg λh=>e h.2] at hb;rw[hc2 k (by omega)] at ha;exact⟨a,by omega⟩
  refine⟨⟨hvl2,h.ql,by simp[h.ll],hv2,?_,h.qok,λi u hu j2 t2 ht2=>?_,λi u hu k x hkx j2 t2 ht2=>?_⟩,j,t,rfl,hkb⟩
  ·have hat:∀i,(s.l.set j (s.l.getD j []++[t])).getD i []=if j=i/\i<s.l.length then s.l.getD j []++[t] else s.l.getD i []:=λi=>gD _ _ _ _ _
   refine⟨λi=>?_,λi x hx=>?_,λi x hx=>?_⟩
   ·rw[hat];split
    ·refine zi htl htc (h.lok.canon j) λu hu=>?_;exact GK (ov:=ov) (i:=j) hx.o hx.n0 hx.n3 (h.lok.exq (by rw[h.ll];exact hD) hu) xt (h.lk j u hu j t htm)
    ·exact h.lok.canon i
   ·rw[hat] at hx;split at hx
    ·rcases Hv.1 hx with hx|hx
     ·exact h.lok.nn j x hx
     ·rw[Hw] at hx;subst hx;exact htn
    ·exact h.lok.nn i x hx
   ·rw[hat] at hx;split at hx
    ·rename_i e;rw[<-e.1];rcases Hv.1 hx with hx|hx
     ·exact h.lok.deg j x hx
     ·rw[Hw] at hx;subst hx;exact htd
    ·exact h.lok.deg i x hx
  ·have hk:=hkb j2 t2 ht2;simp only[gD] at hu;split at hu
   ·rename_i e;rw[<-e.1];rcases Hv.1 hu with hu|hu
    ·have:=h.lk j u hu j t htm;omega
    ·rw[Hw] at hu;subst hu;exact hk
   ·have:=h.lk i u hu j t htm;omega
  ·have hk:=hkb j2 t2 ht2;have:=h.qk i u hu k x hkx j t htm;omega
 |some i=>
  rw[hdv] at hs;simp only[H6] at hs;have hby:=rA hx hl htl htc hdv;obtain⟨hil,hgm,_⟩:=mZ hdv;generalize fQ o ov (lss.getD i [])=u at hby hs;generalize gW p t u=b at hby hs;subst hs;have hg:=hl.ok _ hgm;have hgl:=hl.len _ hgm;have hal:s.v.length=(aN p o [(p-b.1,b.2)] (lss.getD i [])).length:=by unfold aN;rw[Ia,hgl,h.vl]
  have hpat:∀m,(aN p o [(p-b.1,b.2)] (lss.getD i [])).getD m []=aG p o (aT p (p-b.1,b.2) ((lss.getD i []).getD m [])):=λm=>by
   by_cases hm:m<(lss.getD i []).length
   ·unfold aN;rw[kh _ _ _ hm];simp[aB]
   ·have e1:(lss.getD i []).getD m []=[]:=by rw[Hs (l:=lss.getD i []),Hu (by omega)];rfl
    rw[e1,Hs,Hu (by unfold aN;rw[Ia];omega)];rfl
  have hv2:b9 p o N (Dg ov) (ch p o s.v (aN p o [(p-b.1,b.2)] (lss.getD i []))):=by
   refine rI hp1 hal h.vok λm=>?_;rw[hpat];have hok:cP p N (aT p (p-b.1,b.2) ((lss.getD i []).getD m [])):=by
    refine⟨λx hx=>?_,λx hx=>?_⟩<;>(simp only[aT,H8] at hx;obtain⟨y,hy,rfl⟩:=hx)
    ·simp only;rw[eP _ _ _ (by rw[hby.bl,(hg.canon m).len y hy])];exact hby.bl
    ·exact⟨Int.emod_nonneg _ (by omega),Int.emod_lt_of_pos _ (by omega)⟩
   refine⟨(hok.col (o:=o) hp1).okl,λx hx2=>?_⟩;obtain⟨y,hy,e⟩:=ke hx2;simp only[aT,H8] at hy;obtain⟨z,hz,rfl⟩:=hy;rw[e];simp only;refine⟨kZ _ _ hby.bn (hg.nn m z hz),?_⟩;rw[jM _ _ (by rw[hby.bl,(hg.canon m).len z hz])];exact GL hx hg hgl hby htd hz
  have hvl2:(ch p o s.v (aN p o [(p-b.1,b.2)] (lss.getD i []))).length=R:=by rw[iu hal,h.vl]
  have hul:=(hg.canon j).len u hby.mem;have hkt:aK o ov j t.2=aK o ov j u.2+a8 o b.2:=by rw[<-hby.add,m7 hx.n3 hby.bl hul]
  have hkb:∀m,∀x∈(ch p o s.v (aN p o [(p-b.1,b.2)] (lss.getD i []))).getD m [],aK o ov m x.2<aK o ov j t.2:=by
   refine rJ hx hv2 hvl2 hD λk hk=>?_;obtain⟨a,ha⟩:=oR (p:=p) (o:=o) (ov:=ov) (k:=k) hal R (by rw[h.vl];exact He _);obtain⟨c,hc⟩:=oS (p:=p) (o:=o) (ov:=ov) (k:=k) (N:=N) hx.n3 (c:=p-b.1) (e:=b.2) hby.bl (gss:=lss.getD i []) (λm=>(hg.canon m).len) R (by rw[hgl];exact He _);obtain⟨_,_,g1,g2⟩:=kR hx hg hgl (λ_ _=>by omega) hby.lead;by_cases e:k=aK o ov j t.2
   ·rw[show k-a8 o b.2=aK o ov j u.2 by omega,g1] at hc;rw[<-e] at hc1;obtain⟨d,hd⟩:=hby.co;exact⟨a+c+d,by rw[Int.mul_add,Int.mul_add];omega⟩
   ·rw[g2 (k-a8 o b.2) (by omega),Int.mul_zero] at hc;rw[hc2 k (by omega)] at ha;exact⟨a+c,by rw[Int.mul_add];omega⟩
  have hbd:ag b.2<=8000:=by have:=hby.sum;have:=hby.un;have:=(kg (ov:=ov) hx.r j hj).2;omega
  have xb:dM N b.2:=⟨hby.bl,hby.bn,by omega⟩;refine⟨⟨hvl2,by simp[h.ql],h.ll,hv2,h.lok,λm=>?_,λm x hx j2 t2 ht2=>?_,λm w hw k x hkx j2 t2 ht2=>?_⟩,j,t,rfl,hkb⟩
  ·rw[gD];split
   ·obtain⟨q1,q2,q3⟩:=h.qok i;refine⟨zi hby.bl hby.bc q1 λw hw=>?_,λx hx=>?_,λx hx=>?_⟩
    ·have hk:=h.qk i w hw j u hby.lead j t htm;rw[m7 hx.n3 (q1.len w hw) hul,hkt] at hk;exact zj hx.o hx.n0 hx.n3 ⟨q1.len w hw,q2 w hw,by have:=q3 w hw;omega⟩ xb (by omega)
    ·rcases Hv.1 hx with hx|hx
     ·exact q2 x hx
     ·rw[Hw] at hx;subst hx;exact hby.bn
    ·rcases Hv.1 hx with hx|hx
     ·exact q3 x hx
     ·rw[Hw] at hx;subst hx;exact hbd
   ·exact h.qok m
  ·have hk:=hkb j2 t2 ht2;have:=h.lk m x hx j t htm;omega
  ·have hk:=hkb j2 t2 ht2;simp only[gD] at hw;split at hw
   ·rename_i e;rw[<-e.1] at hkx;rcases Hv.1 hw with hw|hw
    ·have:=h.qk i w hw k x hkx j t htm;omega
    ·rw[Hw] at hw;subst hw;rw[hby.lead] at hkx;simp only[H6,Prod.mk.injEq] at hkx;obtain⟨rfl,rfl⟩:=hkx;rw[hby.add];exact hk
   ·have:=h.qk m w hw k x hkx j t htm;omega
theorem Et{p o ov:Int}{N R:Nat}(hx:bj p o ov N R){lss:List (List (List Tm))}(hl:cF p o N R lss){a b:DS}(h:ef p o ov N R lss a)(hd:Dv p o ov lss a b):ef p o ov N R lss b:=by
 induction hd using Dv.ind with
 |refl=>exact h
 |step _ h2 ih=>exact(kQ hx hl ih h2).1
def lW(o ov:Int)(v:List (List Tm)):Nat:=
 match aq o ov v v.length with
 |none=>0
 |some (j,t)=>(aK o ov j t.2+1).toNat
theorem oP{p o ov:Int}{N R:Nat}(hx:bj p o ov N R){lss:List (List (List Tm))}(hl:cF p o N R lss){s s2:DS}(h:ef p o ov N R lss s)(hs:dK p o ov lss s=some s2):lW o ov s2.v<lW o ov s.v:=by
 obtain⟨h2,j,t,hld,hk⟩:=kQ hx hl h hs;have hR:=hx.r;have hD:∀i,i<R->Dg ov i<=16000:=λi hi=>by have:=(kg (ov:=ov) hx.r i hi).2;omega
 have hpos:∀{j:Nat}{t:Tm},j<R->dM N t.2->0<=aK o ov j t.2:=fun {j t} hj hq=>by have:=mX hx.o hx.n0 hx.n3 hq;unfold aK bG;split<;>omega
 obtain⟨htm,hj,_,_⟩:=kR hx h.vok h.vl hD hld;have h0:=hpos hj (h.vok.exq (by rw[h.vl];exact hD) htm);unfold lW;rw[hld];simp only;cases hl2:aq o ov s2.v s2.v.length with
 |none=>simp only;omega
 |some q=>obtain⟨j2,t2⟩:=q;obtain⟨htm2,hj2,_,_⟩:=kR hx h2.vok h2.vl hD hl2;have h1:=hpos hj2 (h2.vok.exq (by rw[h2.vl];exact hD) htm2);have h3:=hk j2 t2 htm2;simp only;omega
def aJ(N:Nat)(t:Ft):List Int:=[t.a,t.b,t.d].take N
structure Gd(o ov:Int)(N R:Nat)(Q:Int)(t:Ft):Prop where
 k:t.k=aK o ov t.pl (aJ N t)
 a:0<=t.a
 b:0<=t.b
 d:0<=t.d
 deg:t.a+t.b+t.d<=Q
 z:t.z=0
 pl0:0<=t.pl
 pl:t.pl<R
 n1:N<=1->t.b=0
 n2:N<=2->t.d=0
theorem Gd.alk{o ov:Int}{N R:Nat}{Q:Int}(x t:Ft)(h:fN x t)(g:Gd o ov N R Q t):Gd o ov N R Q x:=by
 obtain⟨h1,h2,h3,h4,h5,h6⟩:=h;have e:aJ N x=aJ N t:=by unfold aJ;rw[h2,h3,h4]
 exact⟨by rw[h1,e,h6];exact g.k,by rw[h2];exact g.a,by rw[h3];exact g.b,by rw[h4];exact g.d,by rw[h2,h3,h4];exact g.deg,by rw[h5];exact g.z,by rw[h6];exact g.pl0,by rw[h6];exact g.pl,λh=>by rw[h3];exact g.n1 h,λh=>by rw[h4];exact g.n2 h⟩
theorem Gd.exq{o ov:Int}{N R:Nat}{Q:Int}{t:Ft}(h0:0<N)(h3:N<=3)(hQ:Q<=16000)(g:Gd o ov N R Q t):dM N (aJ N t)/\ag (aJ N t)=t.a+t.b+t.d:=by
 have h1:=g.a;have h2:=g.b;have h4:=g.d;have h5:=g.deg;have hN:N=1\/N=2\/N=3:=by omega
 rcases hN with rfl|rfl|rfl
 ·have:=g.n1 (by omega);have:=g.n2 (by omega);refine⟨⟨by simp[aJ],λx hx=>?_,?_⟩,?_⟩
  ·simp[aJ] at hx;omega
  ·simp[aJ,ag];omega
  ·simp[aJ,ag];omega
 ·have:=g.n2 (by omega);refine⟨⟨by simp[aJ],λx hx=>?_,?_⟩,?_⟩
  ·simp[aJ] at hx;omega
  ·simp[aJ,ag];omega
  ·simp[aJ,ag];omega
 ·refine⟨⟨by simp[aJ],λx hx=>?_,?_⟩,?_⟩
  ·simp[aJ] at hx;omega
  ·simp[aJ,ag];omega
  ·simp[aJ,ag];omega
def jE(ov:Int)(R:Nat):List Int:=(List.range R).map λi:Nat=>bG ov (i:Int)
theorem GM{ov:Int}{R i:Nat}(h:i<R):(jE ov R).getD i 0=bG ov i:=by simp[jE,Hs,h]
def cJ(o ov:Int)(N:Nat)(i:Nat)(t:Tm):Ft:=cr (bG ov i) (aU o N N 0) (aU o N N 1) (aU o N N 2) i t
theorem mN{o ov:Int}{N R i:Nat}{t:Tm}{Q:Int}(h0:0<N)(h3:N<=3)(hl:t.2.length=N)(hn:∀x∈t.2,0<=x)(hd:ag t.2<=Q)(hi:i<R):Gd o ov N R Q (cJ o ov N i t)/\aJ N (cJ o ov N i t)=t.2/\(cJ o ov N i t).c=t.1/\(cJ o ov N i t).pl=i/\(cJ o ov N i t).k=aK o ov i t.2:=by
 have hN:N=1\/N=2\/N=3:=by omega
 obtain⟨c,e⟩:=t;simp only at hl hn hd;have key:aJ N (cJ o ov N i (c,e))=e/\(cJ o ov N i (c,e)).k=aK o ov i e:=by
  rcases hN with rfl|rfl|rfl
  ·obtain⟨a,rfl⟩:∃a,e=[a]:=by
    match e,hl with
    |[a],_=>exact⟨a,rfl⟩
   refine⟨by simp[aJ,cJ,cr],?_⟩;simp[cJ,cr,aK,a8,aU,iY]
  ·obtain⟨a,b,rfl⟩:∃a b,e=[a,b]:=by
    match e,hl with
    |[a,b],_=>exact⟨a,b,rfl⟩
   refine⟨by simp[aJ,cJ,cr],?_⟩;simp[cJ,cr,aK,a8,aU,iY]
  ·obtain⟨a,b,d,rfl⟩:∃a b d,e=[a,b,d]:=by
    match e,hl with
    |[a,b,d],_=>exact⟨a,b,d,rfl⟩
   refine⟨by simp[aJ,cJ,cr],?_⟩;simp[cJ,cr,aK,a8,aU,iY]
 have hpl:(cJ o ov N i (c,e)).pl=i:=rfl;refine⟨?_,key.1,rfl,hpl,key.2⟩;have hg:∀m,0<=e.getD m 0:=λm=>by
  by_cases hm:m<e.length
  ·have:e.getD m 0=e[m]:=by simp[Hs,hm]
   rw[this];exact hn _ (Hp hm)
  ·rw[Hs,Hu (by omega)];simp
 refine⟨by rw[key.1,key.2,hpl],hg 0,hg 1,hg 2,?_,rfl,by rw[hpl];omega,by rw[hpl];omega,λh=>?_,λh=>?_⟩
 ·show e.getD 0 0+e.getD 1 0+e.getD 2 0<=Q;have:e.getD 0 0+e.getD 1 0+e.getD 2 0=ag e:=by
   rcases hN with rfl|rfl|rfl
   ·match e,hl with
    |[a],_=>simp[ag]
   ·match e,hl with
    |[a,b],_=>simp[ag]
   ·match e,hl with
    |[a,b,d],_=>simp[ag];omega
  omega
 ·show e.getD 1 0=0;rw[Hs,Hu (by omega)];rfl
 ·show e.getD 2 0=0;rw[Hs,Hu (by omega)];rfl
def eC(o ov:Int)(N:Nat)(fss:List (List Tm)):Nat->List Ft
 |0=>[]
 |i+1=>eC o ov N fss i++(fss.getD i []).map (cJ o ov N i)
theorem zm{o ov:Int}{N R:Nat}{fss:List (List Tm)}:∀n,n<=R->cR (aU o N N 0) (aU o N N 1) (aU o N N 2) (jE ov R) fss n=eC o ov N fss n
 |0,_=>rfl
 |n+1,h=>by simp only[cR,eC];rw[zm n (by omega),GM (by omega)];rfl
theorem nZ{o ov:Int}{N:Nat}{fss:List (List Tm)}:∀{n:Nat}{x:Ft},x∈eC o ov N fss n->∃i t,i<n/\t∈fss.getD i []/\x=cJ o ov N i t
 |0,x,h=>by simp[eC] at h
 |n+1,x,h=>by
  simp only[eC,Hv,H8] at h;rcases h with h|⟨t,ht,rfl⟩
  ·obtain⟨i,t,h1,h2,h3⟩:=nZ h;exact⟨i,t,by omega,h2,h3⟩
  ·exact⟨n,t,by omega,ht,rfl⟩
theorem zo{o ov:Int}{N:Nat}{fss:List (List Tm)}:∀{n i:Nat}{t:Tm},i<n->t∈fss.getD i []->cJ o ov N i t∈eC o ov N fss n
 |0,i,t,h,_=>by omega
 |n+1,i,t,h,ht=>by
  simp only[eC,Hv,H8];rcases Nat.lt_succ_iff_lt_or_eq.1 h with h|rfl
  ·exact Or.inl (zo h ht)
  ·exact Or.inr ⟨t,ht,rfl⟩
theorem zp{p o ov:Int}{N R:Nat}(hx:bj p o ov N R){D:Nat->Int}{v:List (List Tm)}(hv:b9 p o N D v)(k:Int):∀n,n<=R->aw k (eC o ov N v n)=cv o ov k v n
 |0,_=>rfl
 |n+1,hn=>by
  simp only[eC,cv];rw[iM,zp hx hv k n (by omega)];congr 1;have key:∀ts:List Tm,(∀t∈ts,t∈v.getD n [])->aw k (ts.map (cJ o ov N n))=aj (kd o ov n k) ts:=by
   intro ts;induction ts with
   |nil=>intro _;rfl
   |cons t ts ih=>
    intro h;have hm:=h t (by simp);obtain⟨_,_,h1,_,h2⟩:=mN (o:=o) (ov:=ov) (R:=R) (Q:=D n) hx.n0 hx.n3 ((hv.canon n).len t hm) (hv.nn n t hm) (hv.deg n t hm) (show n<R by omega);simp only[List.map_cons,aw,aj];rw[ih λu hu=>h u (by simp[hu]),h1,h2];unfold kd;by_cases e:aK o ov n t.2=k
    ·simp[e]
    ·simp[e]
  exact key _ λt ht=>ht
theorem zq{p o ov:Int}{N R:Nat}(hx:bj p o ov N R){D:Nat->Int}{v:List (List Tm)}(hv:b9 p o N D v)(hl:v.length=R)(hD:∀i,i<R->D i<=16000):∀n,n<=R->(eC o ov N v n).Pairwise λa b=>a.k≠b.k
 |0,_=>List.Pairwise.nil
 |n+1,hn=>by
  have hR:=hx.r;simp only[eC];have hk:∀{i:Nat}{t:Tm},i<R->t∈v.getD i []->(cJ o ov N i t).k=aK o ov i t.2:=fun {i t} hi hm=>
   (mN (o:=o) (ov:=ov) (R:=R) (Q:=D i) hx.n0 hx.n3 ((hv.canon i).len t hm) (hv.nn i t hm) (hv.deg i t hm) hi).2.2.2.2
  refine List.pairwise_append.2 ⟨zq hx hv hl hD n (by omega),?_,λa ha b hb=>?_⟩
  ·rw[List.pairwise_map];have key:∀ts:List Tm,(∀t∈ts,t∈v.getD n [])->bk p o N ts->ts.Pairwise λa b=>(cJ o ov N n a).k≠(cJ o ov N n b).k:=by
    intro ts;induction ts with
    |nil=>intro _ _;exact List.Pairwise.nil
    |cons t ts ih=>intro h hc;refine List.pairwise_cons.2 ⟨λu hu e=>?_,ih (λu hu=>h u (by simp[hu])) ⟨λx hx=>hc.len x (by simp[hx]),hc.falls.2,λx hx=>hc.coef x (by simp[hx])⟩⟩;rw[hk (by omega) (h t (by simp)),hk (by omega) (h u (by simp[hu]))] at e;have:=(mQ hx.o hx.ov hx.n0 hx.n3 (by omega) (by omega) (hv.exq (by rw[hl];exact hD) (h t (by simp))) (hv.exq (by rw[hl];exact hD) (h u (by simp[hu]))) e).2;exact nf hc.len hc.falls u hu this.symm
   exact key _ (λt ht=>ht) (hv.canon n)
  ·obtain⟨i,t,hi,ht,rfl⟩:=nZ ha;obtain⟨u,hu,rfl⟩:=H8.1 hb;intro e;rw[hk (by omega) ht,hk (by omega) hu] at e;have:=(mQ hx.o hx.ov hx.n0 hx.n3 (by omega) (by omega) (hv.exq (by rw[hl];exact hD) ht) (hv.exq (by rw[hl];exact hD) hu) e).1;omega
structure mP(p o ov:Int)(N R:Nat)(Q:Int)(g:List (List Tm))(fs:List Ft):Prop where
 dn:Dn fs
 co:∀t∈fs,0<t.c/\t.c<p
 gd:∀t∈fs,Gd o ov N R Q t
 cn:∀k,aw k fs=cv o ov k g R
 ld:aq o ov g g.length=(fs.head?).map λL=>(L.pl.toNat,(L.c,aJ N L))
theorem GN{p o ov:Int}{N R:Nat}(hx:bj p o ov N R){v:List (List Tm)}(hv:b9 p o N (λ_=>200) v)(hl:v.length=R){fs:List Ft}(hp:fs.Perm (eC o ov N v R))(hf:kC fs):mP p o ov N R 200 v fs:=by
 have hR:=hx.r;have hD:∀i,i<R->(λ_:Nat=>(200:Int)) i<=16000:=λ_ _=>by simp
 have hne:fs.Pairwise λa b=>a.k≠b.k:=(hp.symm.pairwise_iff (fun {a b} h=>h.symm)).1 (zq hx hv hl hD R (He _));have hmem:∀t∈fs,∃i u,i<R/\u∈v.getD i []/\t=cJ o ov N i u:=λt ht=>nZ (hp.mem_iff.1 ht);have hok:∀{i:Nat}{u:Tm},i<R->u∈v.getD i []->Gd o ov N R 200 (cJ o ov N i u)/\aJ N (cJ o ov N i u)=u.2/\(cJ o ov N i u).c=u.1/\(cJ o ov N i u).pl=i/\(cJ o ov N i u).k=aK o ov i u.2:=fun {i u} hi hm=>mN hx.n0 hx.n3 ((hv.canon i).len u hm) (hv.nn i u hm) (hv.deg i u hm) hi
 have hdn:Dn fs:=by have:=List.Pairwise.and hf hne;exact this.imp fun {a b} h=>by omega
 refine⟨hdn,λt ht=>?_,λt ht=>?_,λk=>?_,?_⟩
 ·obtain⟨i,u,hi,hm,rfl⟩:=hmem t ht;rw[(hok hi hm).2.2.1];have:=(hv.canon i).coef u hm;omega
 ·obtain⟨i,u,hi,hm,rfl⟩:=hmem t ht;exact(hok hi hm).1
 ·rw[GB k hp,zp hx hv k R (He _)]
 ·have hk:=m6 hx.o hx.ov hx.n0 hx.n3 (by omega) hv (by rw[hl];exact hD) v.length (He _);cases hld:aq o ov v v.length with
  |none=>
   have he:=hk.1 hld;cases fs with
   |nil=>rfl
   |cons L fs=>obtain⟨i,u,hi,hm,_⟩:=hmem L (by simp);rw[he i (by omega)] at hm;simp at hm
  |some q=>
   obtain⟨j,u⟩:=q;obtain⟨hm,hj,_,_⟩:=kR hx hv hl hD hld;have hin:cJ o ov N j u∈fs:=hp.mem_iff.2 (zo hj hm);cases fs with
   |nil=>simp at hin
   |cons L fs=>
    obtain⟨i,w,hi,hmw,e⟩:=hmem L (by simp);have h1:=hdn.le _ hin;rw[(hok hj hm).2.2.2.2,e,(hok hi hmw).2.2.2.2] at h1;have h2:=hk.2 j u hld i (by omega) w hmw;rcases h2 with ⟨rfl,rfl⟩|h2
    ·obtain⟨_,e1,e2,e3,_⟩:=hok hi hm;rw[e];simp only[List.head?_cons,Option.map_some];rw[e1,e2,e3];simp
    ·omega
abbrev zr:=Nat×Ft×List Ft
def sJ:Nat->List (List Ft)->List zr
 |_,[]=>[]
 |i,[]::fss=>sJ (i+1) fss
 |i,(L::r)::fss=>(i,L,r)::sJ (i+1) fss
theorem Tryz.infoIntB:(prog.info? 3).map (λi=>(i.zero,i.size,i.bytes))=some (some (.int .i64 0),1,8):=by kernel_rfl
theorem GO:(madeCells #[.int .i64 0] 2)=#[.int .i64 0,.int .i64 0]:=by kernel_rfl
theorem GP(W:World)(a b:Int)(T:TypeId):Sl (W.alloc (.cells #[.int .i64 a,.int .i64 b] T)) (.slice (some ⟨W.heap.size,0,none⟩) 2 2) [a,b]:=by
 refine⟨_,2,rfl,λ_=>⟨_,0,rfl,by simp,λi hi=>?_⟩⟩;rw[cell_of_row _ W.heap.size _ _ T (0,0) (heap_alloc_new W _)];have:i=0\/i=1:=by simp at hi;omega
 rcases this with rfl|rfl<;>rfl
theorem GQ(t:Ft)(w:World)(ha:0<=t.a/\t.a<=30000)(hb:0<=t.b/\t.b<=30000)(hc:0<=t.c/\t.c<=255):Calls prog 177 #[aY t,.int .i64 2] w λe w'=>∃g,e=.returned (.agg #[.int .i64 t.c,.slice (some ⟨g,0,none⟩) 2 2])/\w.heap.size<=g/\Sl w' (.slice (some ⟨g,0,none⟩) 2 2) [t.a,t.b]/\Below w.heap.size w w':=by
 have hmk:=fun(W:World)=>run_make_row' (P:=prog) 37 3 (.int .i64 0) 8 underlying37 Tryz.infoIntB rfl .i64 .i64 2 (by omega) (by omega) W;have hmk2:∀W:World,(Instr.makeSlice 37 (.int .i64 2) (.int .i64 2)).run prog W=.ok (.slice (some ⟨W.heap.size,0,none⟩) 2 2) (W.alloc (.cells #[.int .i64 0,.int .i64 0] 3)):=λW=>by have h:=hmk W;rw[GO] at h;exact h
 clear hmk;obtain⟨ha0,ha1⟩:=ha;obtain⟨hb0,hb1⟩:=hb;obtain⟨hc0,hc1⟩:=hc;have hw1:IntKind.i64.wrap t.a=t.a:=by rw[IntKind.wrap_i64];omega
 have hw2:IntKind.i64.wrap t.b=t.b:=by rw[IntKind.wrap_i64];omega
 have hw3:IntKind.i64.wrap t.c=t.c:=by rw[IntKind.wrap_i64];omega
 unfold aY;go_enter func177,ntmps177;go_wp2;refine wp_loop_rounds 3 ?_;rw[rounds_succ];go_wp2;rw[rounds_succ];go_wp2;rw[rounds_succ];go_wp2;refine Hn (v:=.agg #[.int .i64 t.c,.slice (some ⟨w.heap.size+1+1,0,none⟩) 2 2]) (by simp[results,Tryz.results177,go_sem]) rfl ⟨_,rfl,by omega,?_,jX⟩;have h:=GP ((w.alloc (.cells #[.int .i64 t.k,.int .u16 t.a,.int .u16 t.b,.int .u16 t.d,.int .u16 t.z,.int .u8 t.pl,.int .u8 t.c] 144)).alloc (.cells #[.int .i64 t.c,.slice (some ⟨w.heap.size+1+1,0,none⟩) 2 2] 54)) t.a t.b 3;simpa using h
theorem Tryz.infoPlB:(prog.info? 31).map (λi=>(i.zero,i.size,i.bytes))=some (some (.slice none 0 0),1,24):=by kernel_rfl
theorem Tryz.infoTmB:(prog.info? 54).map (λi=>(i.zero,i.size,i.bytes))=some (some (.agg #[.int .i64 0,.slice none 0 0]),2,32):=by kernel_rfl
theorem GR:(madeCells #[.slice none 0 0] 1)=#[.slice none 0 0]:=by kernel_rfl
theorem GS{W:World}{B:Nat}{v s:Value}{c:Int}{e:List Int}(h:W.ownsRow B 54 2 v 1 [.int .i64 c,s])(hs:Sl W s e):Pl W v [(c,e)]:=by
 rcases h.2 with ⟨rfl,h0⟩|⟨g,cap,ai,rfl,hb,hg,hnc,_⟩
 ·simp at h0
 ·refine⟨_,cap,rfl,hnc,λ_=>⟨g,0,rfl,(Hd h g rfl).2,λi hi=>?_⟩⟩;have e0:i=0:=by simp at hi;omega
  subst e0;exact⟨Hc h 0 (by omega),s,Hc h 1 (by omega),hs⟩
theorem GU{W:World}{b:Nat}{v x:Value}{e:List Int}(hs:Sl W v e){a:Option Addr}{n c:Nat}(hc:W.cell? ⟨b,0,none⟩=some (.slice a n c)):Sl (W.setCell ⟨b,0,none⟩ x) v e:=by
 obtain⟨va,vc,rfl,h⟩:=hs;refine⟨va,vc,rfl,λhp=>?_⟩;obtain⟨b2,off,rfl,hlt,hat⟩:=h hp;refine⟨b2,off,rfl,by simpa [World.setCell] using hlt,λi hi=>?_⟩;have hci:=hat i hi;rw[World.cell?_setCell_other]
 ·exact hci
 ·intro e2;rw[<-e2,hc] at hci;simp at hci
theorem GV{w W:World}{B:Nat}{v5:Value}{c:Int}{e:List Int}{s:Value}(hw:Below w.heap.size w W)(ho:W.ownsRow w.heap.size 31 1 (.slice (some ⟨w.heap.size,0,none⟩) 1 1) 1 [.slice none 0 0])(h5:W.ownsRow B 54 2 v5 1 [.int .i64 c,s])(hs:Sl W s e):Vl (W.setCell ⟨w.heap.size,0,none⟩ v5) (.slice (some ⟨w.heap.size,0,none⟩) 1 1) [[(c,e)]]/\Below w.heap.size w (W.setCell ⟨w.heap.size,0,none⟩ v5):=by
 have st:=ho.stored 0 v5;have hc:=Hc ho 0 (by omega);have h6:(W.setCell ⟨w.heap.size,0,none⟩ v5).ownsRow B 54 2 v5 1 [.int .i64 c,s]:=h5.kept st.2 (by
  rcases iG (by decide) h5 ho with h|h
  ·exact Or.inl h
  ·exact Or.inr h)
 refine⟨⟨_,1,rfl,λ_=>⟨w.heap.size,0,rfl,(Hd st.1 _ rfl).2,λi hi=>?_⟩⟩,hw.setCell (He _) _⟩;have e0:i=0:=by simp at hi;omega
 subst e0;exact⟨v5,Hc st.1 0 (by omega),GS h6 (GU hs hc)⟩
theorem GX(W:World)(c:Int)(s:Value)(T:TypeId):∀j u,[Value.int .i64 c,s][j]?=some u->(W.alloc (.cells #[.int .i64 c,s] T)).cell? ((⟨W.heap.size,0,none⟩:Addr).add j)=some u:=by
 intro j u hj;have hl:j<2:=by apply Ib;intro h;rw[Hu (by simpa using h)] at hj;simp at hj
 have:j=0\/j=1:=by omega
 rcases this with rfl|rfl<;>simp at hj<;>subst hj<;>simp[Addr.add,go_sem]
theorem uO(t:Ft)(r:List Ft)(v:Value)(w:World)(hf:Fv w v (t::r))(ha:0<=t.a/\t.a<=30000)(hb:0<=t.b/\t.b<=30000)(hc:0<=t.c/\t.c<=255)(hp:t.pl=0)(hr:∀u∈r,1<=u.pl/\u.pl<=255)(hl:r.length<=1000):Calls prog 126 #[v,.int .i64 2,.int .i64 0,.int .i64 1] w λe w'=>∃g,e=.returned (.slice (some ⟨g,0,none⟩) 1 1)/\w.heap.size<=g/\Vl w' (.slice (some ⟨g,0,none⟩) 1 1) [[(t.c,[t.a,t.b])]]/\Below w.heap.size w w':=by
 have hmk2:∀W:World,(Instr.makeSlice 33 (.int .i64 1) (.int .i64 1)).run prog W=.ok (.slice (some ⟨W.heap.size,0,none⟩) 1 1) (W.alloc (.cells #[.slice none 0 0] 31)):=λW=>by have h:=run_make_row' (P:=prog) 33 31 (.slice none 0 0) 24 underlying33 Tryz.infoPlB rfl .i64 .i64 1 (by omega) (by omega) W;rw[GR] at h;exact h
 have HF:=aa hf;have HR:=aa hr;obtain⟨va,vc,rfl,_,_⟩:=hf;obtain⟨i0,hi,hz0,hz1,hz2⟩:=info_parts Tryz.infoTmB;have HI:=aa (Hg hi (Hg hz0 (Hg hz1 hz2)));clear hi hz0 hz1 hz2 hr;have HBA:=aa (fun(W:World)=>GQ t W ha hb hc);unfold aY at HBA;clear ha hb hc;obtain⟨w1,hw1⟩:∃w1,w1=w.alloc (.cells #[.slice none 0 0] 31):=⟨_,rfl⟩;have HB1:Ic (Below w.heap.size w w1):=by rw[hw1];exact af
 have HO1:Ic (w1.ownsRow w.heap.size 31 1 (.slice (some ⟨w.heap.size,0,none⟩) 1 1) 1 [.slice none 0 0]):=by rw[hw1];exact⟨by simp,.inr ⟨w.heap.size,1,_,rfl,He _,heap_alloc_new w _,He _,by decide,by simp,by simp⟩⟩
 go_enter func126,ntmps126;go_wp2_with fail;rw[<-hw1];clear hw1;go_loopw [17] (λi wr=>(i=.int .i64 0/\wr=w1)\/∃m:Nat,1<=m/\m<=(t::r).length/\i=.int .i64 m/\Vl wr (.slice (some ⟨w.heap.size,0,none⟩) 1 1) [[(t.c,[t.a,t.b])]]/\Below w.heap.size w wr) (λi _=>(t::r).length-(intOf i).toNat);case atStart=>exact Or.inl ⟨rfl,rfl⟩
 case round=>
  rcases hrel with ⟨rfl,rfl⟩|⟨m,hm1,hm,rfl,hvl,hbr⟩
  ·obtain⟨b,off,rfl,hlt,_,hft⟩:=(HF.o.below HB1.o).at 0 (by simp);have e0:(t::r).getD 0 dC=t:=rfl;rw[e0] at hft;obtain⟨f0,f1,f2,f3,f4,f5,f6⟩:=hft;rw[hp] at f5;simp only[Nat.zero_mul,Nat.add_zero] at f0 f1 f2 f3 f4 f5 f6;go_upto_region 7 with fail;have hwl:=(Hd HO1.o w.heap.size rfl).2;have z0:wr.cell? ⟨w.heap.size,0,none⟩=some (.slice none 0 0):=Hc HO1.o 0 (by omega);rw[hp] at HBA;obtain⟨w2,hw2⟩:∃w2,w2=wr.alloc (.cells #[.int .i64 t.k,.int .u16 t.a,.int .u16 t.b,.int .u16 t.d,.int .u16 t.z,.int .u8 0,.int .u8 t.c] 144):=⟨_,rfl⟩;have HB2:Ic (Below wr.heap.size wr w2):=by rw[hw2];exact af
   have HO2:Ic (∀W,Below w2.heap.size w2 W->W.ownsRow w.heap.size 31 1 (.slice (some ⟨w.heap.size,0,none⟩) 1 1) 1 [.slice none 0 0]/\Below w.heap.size w W):=λW hb=>⟨aH (aH HO1.o HB2.o) hb,(HB1.o.trans (HB2.o.mono HB1.o.size)).trans (hb.mono (Hk HB1.o.size HB2.o.size))⟩;have FX:Ic (cC w2 wr.heap.size 0 {t with pl:=0}):=by rw[hw2];exact(show Bx wr.heap.size _ wr.heap.size {t with pl:=0} from cS (He _) {t with pl:=0}).at
   obtain⟨x0,x1,x2,x3,x4,x5,x6⟩:=FX.o;simp only[Hy] at x0 x1 x2 x3 x4 x5 x6;have y0:=ae z0 HB2.o;rw[<-hw2];clear hw2 f0 f1 f2 f3 f4 f5 f6 z0;go_region_law (first|(refine gr rfl (.tmp 38) (.tmp 42) 31 rfl w8.heap.size 54 i0 _ 2 32 underlying31 HI.o.1 HI.o.2.1 HI.o.2.2.1 HI.o.2.2.2 rfl (by decide) (.slice none 0 0) 0 [] (by simp[Act.eval,Act.put]) (World.ownsRow_nil _ _ _ _) ⟨w8.heap.size,0,none⟩ 1 1 [.int .i64 t.c,.slice (some ⟨g8,0,none⟩) 2 2] (by simp[Act.eval,Act.put]) rfl (GX w8 _ _ _) (by simp[Value.oneCell']) (by unfold maxLen;omega) (by omega) (by simp) ?_;intro v5 w5 r1 r2 r3;simp only[Hy,List.nil_append] at r1;obtain⟨va5,vc5,hv5⟩:=a7 r1;subst hv5;have HB5:=aa ((Hf _ _).grown r2 (He _) λk hk=>by simp[Value.ownBlock] at hk);have HR1:=aa r1;have HS5:=aa ((HS8.o.below af).below HB5.o);have HO5:=aa (HO2.o w5 ((HB8.o.trans (af.mono HB8.o.size)).trans (HB5.o.mono (by have:=HB8.o.size;simp;omega))));have y5:=Hc HO5.o.1 0 (by omega);have y6:=Hb HO5.o.1 0;simp only[List.getElem?_cons_zero] at y5;clear r1 r2 r3)|(go_simp;refine(HBA.o _).mono ?_;rintro e w8 ⟨g8,rfl,q1,q2,q3⟩;have HB8:=aa ((Hf w2.heap.size w2).drew.trans q3);have HS8:=aa q2;have y8:=ae y0 HB8.o;have hl8:w.heap.size<w8.heap.size:=(by have:=HB8.o.size;have:=HB2.o.size;omega);clear q1 q2 q3;dsimp only));all_goals
    have HEND:=aa (GV HO5.o.2 HO5.o.1 HR1.o HS5.o);go_wp2;go_roundw;case rel=>exact Or.inr ⟨1,He _,by simp,by go_num,HEND.o.1,HEND.o.2⟩
    case measure=>simp[intOf]
  ·have HVL:=aa hvl;have HBR:=aa hbr;clear hvl hbr;by_cases hm2:m<(t::r).length
   ·obtain⟨b,off,rfl,hlt,_,hft⟩:=(HF.o.below HBR.o).at m hm2;have HTP:Ic (1<=((t::r).getD m dC).pl/\((t::r).getD m dC).pl<=255):=by
     have hm3:m-1<r.length:=by simp at hm2;omega
     have:(t::r).getD m dC∈r:=by obtain⟨k,rfl⟩:∃k,m=k+1:=⟨m-1,by omega⟩;rw[List.getD_cons_succ,Hs,Ht (by simpa using hm2)];exact Hp _
     exact HR.o _ this
    generalize (t::r).getD m dC=u at hft HTP;obtain⟨f0,f1,f2,f3,f4,f5,f6⟩:=hft;obtain⟨h1,h2⟩:=HTP.o;have hw1:IntKind.i64.wrap u.pl=u.pl:=by rw[IntKind.wrap_i64];omega
    have hn1:¬u.pl<1:=by omega
    have hn2:decide (u.pl<1)=false:=by simpa using hn1
    have hn0:decide (0<=u.pl)=true:=by simp;omega
    have hmI:(m:Int)<(r.length:Int)+1:=by simp at hm2;omega
    have HVL2:=aa (HVL.o.below (af (A:=.cells #[.int .i64 u.k,.int .u16 u.a,.int .u16 u.b,.int .u16 u.d,.int .u16 u.z,.int .u8 u.pl,.int .u8 u.c] 144)));go_wp2;go_roundw;case rel=>exact Or.inr ⟨m+1,by omega,by simp at hm2⊢;omega,by go_num,HVL2.o,HBR.o.alloc HBR.o.size _⟩
    case measure=>simp[intOf] at hm2⊢;omega
   ·have e:m=(t::r).length:=by omega
    subst e;go_wp2;go_ret;exact⟨_,rfl,He _,HVL.o,HBR.o⟩
end Go.Proofs.YtglijodcbdcngaaGreat
