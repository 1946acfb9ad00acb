/- What hangs together: the mathematics of DivideHangs. -/
import Derived.Test.YtglijodcbdcngaaGreatZN
import Derived.Test.YtglijodcbdcngaaGreatWK
import Derived.Test.YtglijodcbdcngaaGreatPP
import Derived.Test.YtglijodcbdcngaaGreatBA
set_option maxHeartbeats 1000000
namespace Go.Proofs.YtglijodcbdcngaaGreat
set_option linter.unusedSimpArgs false
set_option linter.unusedVariables false
open Go.Proofs.Tryz Go.RowKit
def mk(p:Int)(φ:List Int->Int)(lss:List (List (List Tm)))(q:List (List Tm))(i:Nat):Nat->Int
 |0=>0
 |k+1=>mk p φ lss q i k+aj φ (aB p (q.getD k []) ((lss.getD k []).getD i []))
theorem En(p:Int)(f g:List Tm)(b:Tm):aB p (f++[b]) g=aB p f g++aT p b g:=by unfold Go.Proofs.YtglijodcbdcngaaGreat.aB;rw[List.flatMap_append];simp
theorem wY{p:Int}{φ:List Int->Int}{lss:List (List (List Tm))}{q:List (List Tm)}{i m:Nat}{b:Tm}(hm:m<q.length):∀k,mk p φ lss (q.set m (q.getD m []++[b])) i k=mk p φ lss q i k+if m<k then aj φ (aT p b ((lss.getD m []).getD i [])) else 0
 |0=>by simp[mk]
 |k+1=>by
  simp only[mk];rw[wY hm k];by_cases e:m=k
  ·subst e;have e1:(q.set m (q.getD m []++[b])).getD m []=q.getD m []++[b]:=by simp[Hs,hm]
   rw[e1,En,iV,if_neg (by omega),if_pos (by omega)];omega
  ·have e1:(q.set m (q.getD m []++[b])).getD k []=q.getD k []:=by simp[Hs,List.getElem?_set_ne e]
   rw[e1];by_cases h:m<k
   ·rw[if_pos h,if_pos (by omega)];omega
   ·rw[if_neg h,if_neg (by omega)];omega
theorem rC{p o:Int}{φ:List Int->Int}{v w:List (List Tm)}{i:Nat}(hl:v.length=w.length)(hi:i<v.length):p∣aj φ ((ch p o v w).getD i [])-(aj φ (v.getD i [])+aj φ (w.getD i [])):=by rw[lU hl hi,<-iV];exact jx p o φ _
theorem Eo{p:Int}(φ:List Int->Int)(b:Tm)(g:List Tm):p∣aj φ (aB p [(p-b.1,b.2)] g)+aj φ (aT p b g):=by
 have e:aB p [(p-b.1,b.2)] g=aT p (p-b.1,b.2) g:=by unfold Go.Proofs.YtglijodcbdcngaaGreat.aB;simp
 rw[e];obtain⟨a,ha⟩:=lV p φ (p-b.1,b.2) g;obtain⟨c,hc⟩:=lV p φ b g;simp only at ha;refine⟨a+c+aj (λx=>φ (ah (·+·) b.2 x)) g,?_⟩
 rw[Int.sub_mul] at ha;rw[Int.mul_add,Int.mul_add];omega
theorem Ep{p o ov:Int}{N R:Nat}(hx:bj p o ov N R){lss:List (List (List Tm))}(hl:cF p o N R lss){a b:DS}(h:Dv p o ov lss a b)(ha:ef p o ov N R lss a)(φ:List Int->Int)(i:Nat)(hi:i<R):ef p o ov N R lss b/\p∣(aj φ (b.v.getD i [])+mk p φ lss b.q i lss.length+aj φ (b.l.getD i []))-(aj φ (a.v.getD i [])+mk p φ lss a.q i lss.length+aj φ (a.l.getD i [])):=by
 induction h using Dv.ind with
 |refl=>exact⟨ha,⟨0,by omega⟩⟩
 |step h1 h2 ih=>
  rename_i s s2;obtain⟨hs,k0,hk0⟩:=ih;refine⟨(kQ hx hl hs h2).1,?_⟩;have hvl:=hs.vl;unfold dK at h2;cases hld:aq o ov s.v s.v.length with
  |none=>rw[hld] at h2;simp at h2
  |some q=>
   obtain⟨j,t⟩:=q;rw[hld] at h2;simp only at h2;cases hdv:d9 o ov lss j t.2 with
   |none=>
    rw[hdv] at h2;simp only[H6] at h2;subst h2;have hj:j<R:=by have:=(dJ hld).1;omega
    obtain⟨c1,hc1⟩:=rC (p:=p) (o:=o) (φ:=φ) (v:=s.v) (w:=fu s.v.length j [(p-t.1,t.2)]) (i:=i) (by simp[fu]) (by omega);simp only;have e1:=rD (n:=s.v.length) (j:=j) (i:=i) (f:=[(p-t.1,t.2)]) (by omega);rw[e1] at hc1;by_cases e:j=i
    ·subst e;have e2:(s.l.set j (s.l.getD j []++[t])).getD j []=s.l.getD j []++[t]:=by simp[Hs,show j<s.l.length by rw[hs.ll];exact hj]
     rw[e2,iV];rw[if_pos rfl] at hc1;have e3:aj φ [(p-t.1,t.2)]=p*φ t.2-t.1*φ t.2:=by simp[aj,Int.sub_mul]
     have e4:aj φ [t]=t.1*φ t.2:=by simp[aj]
     rw[e3] at hc1;rw[e4];refine⟨c1+k0+φ t.2,?_⟩;rw[Int.mul_add,Int.mul_add];omega
    ·have e2:(s.l.set j (s.l.getD j []++[t])).getD i []=s.l.getD i []:=by simp[Hs,List.getElem?_set_ne e]
     rw[e2];rw[if_neg e] at hc1;have e3:aj φ ([]:List Tm)=0:=rfl;rw[e3] at hc1;refine⟨c1+k0,?_⟩;rw[Int.mul_add];omega
   |some m=>
    rw[hdv] at h2;simp only[H6] at h2;subst h2;obtain⟨hml,hgm,_⟩:=mZ hdv;have hgl:=hl.len _ hgm;generalize gW p t (fQ o ov (lss.getD m []))=b;have hpl:(aN p o [(p-b.1,b.2)] (lss.getD m [])).length=R:=by unfold aN;rw[Ia,hgl]
    obtain⟨c1,hc1⟩:=rC (p:=p) (o:=o) (φ:=φ) (v:=s.v) (w:=aN p o [(p-b.1,b.2)] (lss.getD m [])) (i:=i) (by rw[hpl,hvl]) (by omega);have e1:(aN p o [(p-b.1,b.2)] (lss.getD m [])).getD i []=aG p o (aB p [(p-b.1,b.2)] ((lss.getD m []).getD i [])):=by unfold aN;rw[kh (λg=>aG p o (aB p [(p-b.1,b.2)] g)) _ _ (by rw[hgl];exact hi)]
    rw[e1] at hc1;obtain⟨c2,hc2⟩:=jx p o φ (aB p [(p-b.1,b.2)] ((lss.getD m []).getD i []));obtain⟨c3,hc3⟩:=Eo (p:=p) φ b ((lss.getD m []).getD i []);simp only;rw[wY (by rw[hs.ql];exact hml),if_pos hml];refine⟨c1+c2+c3+k0,?_⟩;rw[Int.mul_add,Int.mul_add,Int.mul_add];omega
theorem Er{p o ov:Int}{lss:List (List (List Tm))}{a b:DS}(h:Dv p o ov lss a b)(ha:∀i,∀t∈a.l.getD i [],d9 o ov lss i t.2=none):∀i,∀t∈b.l.getD i [],d9 o ov lss i t.2=none:=by
 induction h using Dv.ind with
 |refl=>exact ha
 |step h1 h2 ih=>
  rename_i s s2;unfold dK at h2;cases hld:aq o ov s.v s.v.length with
  |none=>rw[hld] at h2;simp at h2
  |some q=>
   obtain⟨j,t⟩:=q;rw[hld] at h2;simp only at h2;cases hdv:d9 o ov lss j t.2 with
   |none=>
    rw[hdv] at h2;simp only[H6] at h2;subst h2;intro i x hx;simp only[gD] at hx;split at hx
    ·rename_i e;rcases Hv.1 hx with hx|hx
     ·rw[<-e.1];exact ih j x hx
     ·rw[Hw] at hx;rw[hx,<-e.1];exact hdv
    ·exact ih i x hx
   |some m=>rw[hdv] at h2;simp only[H6] at h2;subst h2;exact ih
theorem tG{p o ov:Int}{lss:List (List (List Tm))}{s:DS}(h:dK p o ov lss s=none):aq o ov s.v s.v.length=none:=by
 unfold dK at h;split at h
 ·assumption
 ·split at h<;>simp at h
theorem tF{p o ov:Int}{N R:Nat}(hx:bj p o ov N R){lss:List (List (List Tm))}(hl:cF p o N R lss):∀(n:Nat)(s:DS),ef p o ov N R lss s->lW o ov s.v<=n->∃f,Dv p o ov lss s f/\ef p o ov N R lss f/\dK p o ov lss f=none
 |0,s,hi,hn=>by
  cases hd:dK p o ov lss s with
  |none=>exact⟨s,Dv.refl _,hi,hd⟩
  |some s2=>have:=oP hx hl hi hd;omega
 |n+1,s,hi,hn=>by
  cases hd:dK p o ov lss s with
  |none=>exact⟨s,Dv.refl _,hi,hd⟩
  |some s2=>have:=oP hx hl hi hd;obtain⟨f,h1,h2,h3⟩:=tF hx hl n s2 (kQ hx hl hi hd).1 (by omega);exact⟨f,((Dv.refl _).step hd).trans h1,h2,h3⟩
theorem rE{o ov:Int}{v:List (List Tm)}:∀k,k<=v.length->aq o ov v k=none->∀i,i<k->v.getD i []=[]
 |0,_,_,i,hi=>by omega
 |k+1,hk,h,i,hi=>by
  have e:aq o ov v (k+1)=dG o ov (aq o ov v k) k (v.getD k []):=rfl;rw[e] at h;cases hf:v.getD k [] with
  |nil=>
   rw[hf] at h;have h2:aq o ov v k=none:=by
    cases hl:aq o ov v k with
    |none=>rfl
    |some q=>rw[hl] at h;simp[dG] at h
   rcases Nat.lt_or_ge i k with h3|h3
   ·exact rE k (by omega) h2 i h3
   ·have:i=k:=by omega
    rw[this];exact hf
  |cons t ts=>
   exfalso;rw[hf] at h;cases hl:aq o ov v k with
   |none=>rw[hl] at h;simp[dG] at h
   |some q=>obtain⟨j,x⟩:=q;rw[hl] at h;simp only[dG] at h;split at h<;>simp at h
def aL(R i:Nat)(e:List Int):Gb.Te:=(R-1-i,(e.getD 0 0).toNat,(e.getD 1 0).toNat,(e.getD 2 0).toNat)
def cB(e:List Int):Gb.Mo:=((e.getD 0 0).toNat,(e.getD 1 0).toNat,(e.getD 2 0).toNat)
def ci(R:Nat)(v:List (List Tm)):Nat->List (Int×Gb.Te)
 |0=>[]
 |k+1=>ci R v k++(v.getD k []).map λt=>(t.1,aL R k t.2)
theorem jZ{τ:Type}(φ:τ->Int):∀a b:List (Int×τ),Gb.ln φ (a++b)=Gb.ln φ a+Gb.ln φ b
 |[],b=>by simp[Gb.ln]
 |x::a,b=>by simp only[List.cons_append,Gb.ln];rw[jZ φ a b];omega
theorem xe(R i:Nat)(φ:Gb.Te->Int):∀f:List Tm,Gb.ln φ (f.map λt=>(t.1,aL R i t.2))=aj (λe=>φ (aL R i e)) f
 |[]=>rfl
 |t::f=>by simp only[List.map_cons,Gb.ln,aj];rw[xe R i φ f]
def cY(F:Nat->Int):Nat->Int
 |0=>0
 |k+1=>cY F k+F k
theorem lX(R:Nat)(φ:Gb.Te->Int)(v:List (List Tm)):∀k,Gb.ln φ (ci R v k)=cY (λi=>aj (λe=>φ (aL R i e)) (v.getD i [])) k
 |0=>rfl
 |k+1=>by simp only[ci,cY];rw[jZ,xe,lX R φ v k]
theorem m5(F H:Nat->Int):∀k,cY (λi=>F i+H i) k=cY F k+cY H k
 |0=>rfl
 |k+1=>by simp only[cY];rw[m5 F H k];omega
theorem xf(c:Int)(F:Nat->Int):∀k,cY (λi=>c*F i) k=c*cY F k
 |0=>by simp[cY]
 |k+1=>by simp only[cY];rw[xf c F k,Int.mul_add]
theorem oQ{p:Int}{F H:Nat->Int}:∀k,(∀i,i<k->p∣F i-H i)->p∣cY F k-cY H k
 |0,_=>⟨0,by simp[cY]⟩
 |k+1,h=>by obtain⟨a,ha⟩:=oQ k λi hi=>h i (by omega);obtain⟨b,hb⟩:=h k (by omega);exact⟨a+b,by simp only[cY];rw[Int.mul_add];omega⟩
theorem mA{N R i:Nat}{a b:List Int}(hN:N<=3)(ha:a.length=N)(hb:b.length=N)(na:∀x∈a,0<=x)(nb:∀x∈b,0<=x):aL R i (ah (·+·) a b)=Gb.bB (cB a) (aL R i b):=by
 have hz:∀k,(ah (·+·) a b).getD k 0=a.getD k 0+b.getD k 0:=λk=>by
  by_cases hk:k<N
  ·have:=ky (·+·) a b (by omega) k (by omega)
   simpa using this
  ·have h1:=eP (·+·) a b (by omega)
   simp[Hs,Hu (show (ah (·+·) a b).length<=k by omega),Hu (show a.length<=k by omega),Hu (show b.length<=k by omega)]
 have hnn:∀(l:List Int)(h:∀x∈l,0<=x)(k:Nat),0<=l.getD k 0:=λl h k=>by
  by_cases hk:k<l.length
  ·rw[Hs,Ht hk];exact h _ (Hp hk)
  ·rw[Hs,Hu (by omega)];simp
 unfold aL Gb.bB cB;simp only[hz,Prod.mk.injEq,true_and];have a0:=hnn a na 0;have a1:=hnn a na 1;have a2:=hnn a na 2;have b0:=hnn b nb 0;have b1:=hnn b nb 1;have b2:=hnn b nb 2;omega
theorem rF{p:Int}{N R:Nat}(hN:N<=3){b:Tm}(hb:b.2.length=N)(nb:∀x∈b.2,0<=x){g:List (List Tm)}(hg:∀i,cT N (g.getD i []))(ng:∀i,∀t∈g.getD i [],∀x∈t.2,0<=x)(φ:Gb.Te->Int)(k:Nat):p∣cY (λi=>aj (λe=>φ (aL R i e)) (aT p b (g.getD i []))) k-b.1*Gb.ln (λt=>φ (Gb.bB (cB b.2) t)) (ci R g k):=by
 rw[lX,<-xf];refine oQ k λi _=>?_;obtain⟨a,ha⟩:=lV p (λe=>φ (aL R i e)) b (g.getD i []);refine⟨a,?_⟩;rw[<-ha];have e:∀f:List Tm,(∀t∈f,t.2.length=N/\∀x∈t.2,0<=x)->aj (λx=>φ (aL R i (ah (·+·) b.2 x))) f=aj (λe=>φ (Gb.bB (cB b.2) (aL R i e))) f:=by
  intro f;induction f with
  |nil=>intro _;rfl
  |cons t f ih=>intro h;simp only[aj];rw[ih λx hx=>h x (by simp[hx]),mA hN hb (h t (by simp)).1 nb (h t (by simp)).2]
 rw[e _ λt ht=>⟨hg i t ht,ng i t ht⟩]
theorem dj{l:List Int}(h:∀x∈l,0<=x)(k:Nat):0<=l.getD k 0:=by
 by_cases hk:k<l.length
 ·rw[Hs,Ht hk];exact h _ (Hp hk)
 ·rw[Hs,Hu (by omega)];simp
theorem xg{N:Nat}{xs:List Int}(h3:N<=3)(hl:xs.length=N):xs.getD 0 0+xs.getD 1 0+xs.getD 2 0=ag xs:=by
 match xs,hl with
 |[],_=>simp[ag]
 |[a],_=>simp[ag]
 |[a,b],_=>simp[ag]
 |[a,b,c],_=>simp[ag];omega
 |_::_::_::_::_,hl=>simp at hl;omega
theorem qB{o ov:Int}{N R i j:Nat}{xs ys:List Int}(ho:o=1\/o=2)(hov:ov=1\/ov=2)(h3:N<=3)(hR:R<=40)(hi:i<R)(hj:j<R)(hx:dM N xs)(hy:dM N ys)(h:aK o ov i xs<aK o ov j ys):(Gb.bi o ov).lt (aL R i xs) (aL R j ys):=by
 have a0:=dj hx.nn 0;have a1:=dj hx.nn 1;have a2:=dj hx.nn 2;have b0:=dj hy.nn 0;have b1:=dj hy.nn 1;have b2:=dj hy.nn 2;have sx:=xg h3 hx.len;have sy:=xg h3 hy.len;have dx:=hx.deg;have dy:=hy.deg;show Gb.L4 (Gb.dS o ov (aL R i xs)) (Gb.dS o ov (aL R j ys));unfold aK a8 at h;unfold aL;generalize xs.getD 0 0=a at*;generalize xs.getD 1 0=b at*;generalize xs.getD 2 0=c at*;generalize ys.getD 0 0=x at*;generalize ys.getD 1 0=y at*;generalize ys.getD 2 0=z at*;rw[<-sx] at dx;rw[<-sy] at dy;clear sx sy;obtain⟨an,rfl⟩:∃n:Nat,a=n:=⟨a.toNat,by omega⟩;obtain⟨bn,rfl⟩:∃n:Nat,b=n:=⟨b.toNat,by omega⟩;obtain⟨cn,rfl⟩:∃n:Nat,c=n:=⟨c.toNat,by omega⟩;obtain⟨xn,rfl⟩:∃n:Nat,x=n:=⟨x.toNat,by omega⟩;obtain⟨yn,rfl⟩:∃n:Nat,y=n:=⟨y.toNat,by omega⟩;obtain⟨zn,rfl⟩:∃n:Nat,z=n:=⟨z.toNat,by omega⟩;simp only[Int.toNat_natCast];rcases ho with rfl|rfl<;>rcases hov with rfl|rfl
 ·simp only[W0,W1,W2,bG,show¬((1:Int)=2) from by decide,if_true,if_false] at h;simp only[Gb.L4,Gb.dS,Gb.c1,Gb.c2,Gb.ie,if_true];omega
 ·simp only[W0,W1,W2,bG,if_true] at h;simp only[Gb.L4,Gb.dS,Gb.c1,Gb.c2,Gb.ie,if_true,show¬((2:Int)=1) from by decide,if_false];omega
 ·simp only[W0,W1,W2,bG,show¬((2:Int)=1) from by decide,show¬((1:Int)=2) from by decide,if_false] at h;simp only[Gb.L4,Gb.dS,Gb.c1,Gb.c2,Gb.ie,if_true,show¬((2:Int)=1) from by decide,if_false];omega
 ·simp only[W0,W1,W2,bG,show¬((2:Int)=1) from by decide,if_true,if_false] at h;simp only[Gb.L4,Gb.dS,Gb.c1,Gb.c2,Gb.ie,show¬((2:Int)=1) from by decide,if_false];omega
theorem rG{R j:Nat}{g:List (List Tm)}{u:Tm}{us:List Tm}(hj:g.getD j []=u::us):∀k,j<k->∃r:List (Int×Gb.Te),(∀φ,Gb.ln φ (ci R g k)=u.1*φ (aL R j u.2)+Gb.ln φ r)/\∀x∈r,∃i t,i<k/\x=(t.1,aL R i t.2)/\((i≠j/\t∈g.getD i [])\/(i=j/\t∈us))
 |0,h=>by omega
 |k+1,h=>by
  rcases Nat.lt_or_ge j k with h1|h1
  ·obtain⟨r,e,hr⟩:=rG hj k h1;refine⟨r++(g.getD k []).map λt=>(t.1,aL R k t.2),λφ=>?_,λx hx=>?_⟩
   ·simp only[ci];rw[jZ,jZ,e];omega
   ·rcases Hv.1 hx with hx|hx
    ·obtain⟨i,t,h2,h3,h4⟩:=hr x hx;exact⟨i,t,by omega,h3,h4⟩
    ·obtain⟨t,ht,rfl⟩:=H8.1 hx;exact⟨k,t,by omega,rfl,Or.inl ⟨by omega,ht⟩⟩
  ·have e:j=k:=by omega
   subst e;refine⟨ci R g j++us.map λt=>(t.1,aL R j t.2),λφ=>?_,λx hx=>?_⟩
   ·simp only[ci];rw[hj,jZ,jZ];simp only[List.map_cons,Gb.ln];omega
   ·rcases Hv.1 hx with hx|hx
    ·have key:∀k,k<=j->x∈ci R g k->∃i t,i<k/\x=(t.1,aL R i t.2)/\t∈g.getD i []:=by
      intro k;induction k with
      |zero=>intro _ h;simp[ci] at h
      |succ k ih=>
       intro hk h;simp only[ci] at h;rcases Hv.1 h with h|h
       ·obtain⟨i,t,a,b,c⟩:=ih (by omega) h;exact⟨i,t,by omega,b,c⟩
       ·obtain⟨t,ht,rfl⟩:=H8.1 h;exact⟨k,t,by omega,rfl,ht⟩
     obtain⟨i,t,a,b,c⟩:=key j (He _) hx;exact⟨i,t,by omega,b,Or.inl ⟨by omega,c⟩⟩
    ·obtain⟨t,ht,rfl⟩:=H8.1 hx;exact⟨j,t,by omega,rfl,Or.inr ⟨rfl,ht⟩⟩
def bq(p o ov:Int)(N R:Nat)(hx:bj p o ov N R)(lss:List (List (List Tm)))(hl:cF p o N R lss):Gb.bw (Gb.bi o ov) p where
 live i:=i<lss.length/\(aq o ov (lss.getD i []) (lss.getD i []).length).isSome=true
 g i:=ci R (lss.getD i []) R
 ld i:=aL R ((aq o ov (lss.getD i []) (lss.getD i []).length).getD (0,aM)).1 ((aq o ov (lss.getD i []) (lss.getD i []).length).getD (0,aM)).2.2
 lc i:=((aq o ov (lss.getD i []) (lss.getD i []).length).getD (0,aM)).2.1
 iv i:=aC p ((aq o ov (lss.getD i []) (lss.getD i []).length).getD (0,aM)).2.1
 shape i hi:=by
  obtain⟨h1,h2⟩:=hi;have hm:=de lss i h1;have hok:=hl.ok _ hm;have hgl:=hl.len _ hm;generalize lss.getD i []=g at h2 hok hgl hm;cases hld:aq o ov g g.length with
  |none=>rw[hld] at h2;simp at h2
  |some q=>
   obtain⟨j,u⟩:=q;simp only[Option.getD_some];obtain⟨hj,us,hus⟩:=dJ hld;have hR:=hx.r;obtain⟨r,e,hr⟩:=rG (R:=R) hus R (by omega);refine⟨r,e,λx hxr=>?_⟩;obtain⟨i2,t,a1,rfl,a3⟩:=hr x hxr;have htm:t∈g.getD i2 []:=by
    rcases a3 with ⟨_,a⟩|⟨e2,a⟩
    ·exact a
    ·rw[e2,hus];exact List.mem_cons_of_mem _ a
   have hk:=(m6 hx.o hx.ov hx.n0 hx.n3 (by omega) hok (λ_ _=>by omega) g.length (He _)).2 j u hld i2 (by omega) t htm;have xt:=hok.exq (λ_ _=>by omega) htm;have xu:=hok.exq (λ_ _=>by omega) (show u∈g.getD j [] by rw[hus];simp);rcases hk with ⟨e2,e3⟩|hk
   ·exfalso;rcases a3 with ⟨ne,_⟩|⟨_,a⟩
    ·exact ne e2
    ·have hf:=(hok.canon j).falls;rw[hus] at hf;have h9:=hf.1 t a;rw[e3,(fj o u.2 u.2 rfl).2 rfl] at h9;omega
   ·exact qB hx.o hx.ov hx.n3 hx.r (by omega) (by omega) xt xu hk
 inv i hi:=by
  obtain⟨h1,h2⟩:=hi;have hm:=de lss i h1;have hok:=hl.ok _ hm;generalize lss.getD i []=g at h2 hok hm;cases hld:aq o ov g g.length with
  |none=>rw[hld] at h2;simp at h2
  |some q=>obtain⟨j,u⟩:=q;simp only[Option.getD_some];obtain⟨hj,us,hus⟩:=dJ hld;have hc:=(hok.canon j).coef u (by rw[hus];simp);obtain⟨_,_,i3⟩:=gJ hx.pr (show 0<u.1/\u.1<p by omega);have h4:=gC p (u.1*aC p u.1);rw[i3] at h4;obtain⟨z,hz⟩:=h4;exact⟨-z,by rw[Int.mul_neg];omega⟩
def gX(q:List (List Tm)):Nat->Gb.Rp Gb.Mo
 |0=>[]
 |k+1=>gX q k++(q.getD k []).map λb=>(b.1,cB b.2,k)
theorem rH{q:List (List Tm)}{x:Int×Gb.Mo×Nat}:∀k,x∈gX q k->∃i b,i<k/\b∈q.getD i []/\x=(b.1,cB b.2,i)
 |0,h=>by simp[gX] at h
 |k+1,h=>by
  simp only[gX] at h;rcases Hv.1 h with h|h
  ·obtain⟨i,b,h1,h2,h3⟩:=rH k h;exact⟨i,b,by omega,h2,h3⟩
  ·obtain⟨b,hb,rfl⟩:=H8.1 h;exact⟨k,b,by omega,hb,rfl⟩
theorem xh(p:Int)(φ:List Int->Int)(g:List Tm):∀f:List Tm,aj φ (aB p f g)=(f.map λb=>aj φ (aT p b g)).sum
 |[]=>rfl
 |b::f=>by
  have e:aB p (b::f) g=aT p b g++aB p f g:=by unfold Go.Proofs.YtglijodcbdcngaaGreat.aB;simp
  rw[e,iV,xh p φ g f];simp
theorem xi(A B:Tm->Int):∀f:List Tm,(f.map λb=>A b).sum+(f.map λb=>B b).sum=(f.map λb=>A b+B b).sum
 |[]=>rfl
 |b::f=>by simp only[List.map_cons,List.sum_cons];have:=xi A B f;omega
theorem xj(F:Nat->Tm->Int)(f:List Tm):∀k,cY (λi=>(f.map λb=>F i b).sum) k=(f.map λb=>cY (λi=>F i b) k).sum
 |0=>by
  simp only[cY];induction f with
  |nil=>rfl
  |cons b f ih=>simp[<-ih]
 |k+1=>by simp only[cY];rw[xj F f k];exact xi _ _ f
theorem xk{p o ov:Int}{N R:Nat}(hx:bj p o ov N R){lss:List (List (List Tm))}(hl:cF p o N R lss){k:Nat}(hk:k<lss.length)(φ:Gb.Te->Int):∀f:List Tm,(∀b∈f,b.2.length=N/\∀x∈b.2,0<=x)->p∣(f.map λb=>cY (λi=>aj (λe=>φ (aL R i e)) (aT p b ((lss.getD k []).getD i []))) R).sum-Gb.ev (bq p o ov N R hx lss hl) φ (f.map λb=>(b.1,cB b.2,k))
 |[],_=>⟨0,by simp[Gb.ev]⟩
 |b::f,h=>by obtain⟨a,ha⟩:=xk hx hl hk φ f λx hxm=>h x (by simp[hxm]);have hok:=hl.ok _ (de lss k hk);obtain⟨c,hc⟩:=rF (p:=p) (R:=R) hx.n3 (h b (by simp)).1 (h b (by simp)).2 (g:=lss.getD k []) (λi=>(hok.canon i).len) (λi t ht=>hok.nn i t ht) φ R;refine⟨a+c,?_⟩;simp only[List.map_cons,List.sum_cons,Gb.ev];have e:Gb.ln (λt=>φ ((Gb.bi o ov).act (cB b.2) t)) ((bq p o ov N R hx lss hl).g k)=Gb.ln (λt=>φ (Gb.bB (cB b.2) t)) (ci R (lss.getD k []) R):=rfl;rw[e,Int.mul_add];omega
theorem xo{p o ov:Int}{N R:Nat}(hx:bj p o ov N R){lss:List (List (List Tm))}(hl:cF p o N R lss){q:List (List Tm)}(hq:∀i,∀b∈q.getD i [],b.2.length=N/\∀x∈b.2,0<=x)(φ:Gb.Te->Int):∀k,k<=lss.length->p∣cY (λi=>mk p (λe=>φ (aL R i e)) lss q i k) R-Gb.ev (bq p o ov N R hx lss hl) φ (gX q k)
 |0,_=>by
  have e:∀n,cY (λ_=>(0:Int)) n=0:=λn=>by
   induction n with
   |zero=>rfl
   |succ n ih=>simp only[cY];omega
  exact⟨0,by simp only[mk,gX,Gb.ev];rw[e];omega⟩
 |k+1,hk=>by
  obtain⟨a,ha⟩:=xo hx hl hq φ k (by omega);obtain⟨c,hc⟩:=xk hx hl (k:=k) (by omega) φ (q.getD k []) (hq k);refine⟨a+c,?_⟩;simp only[mk,gX];rw[m5,Gb.pK,Int.mul_add];have e:cY (λi=>aj (λe=>φ (aL R i e)) (aB p (q.getD k []) ((lss.getD k []).getD i []))) R=((q.getD k []).map λb=>cY (λi=>aj (λe=>φ (aL R i e)) (aT p b ((lss.getD k []).getD i []))) R).sum:=by
   have e2:(λi=>aj (λe=>φ (aL R i e)) (aB p (q.getD k []) ((lss.getD k []).getD i [])))=λi=>((q.getD k []).map λb=>aj (λe=>φ (aL R i e)) (aT p b ((lss.getD k []).getD i []))).sum:=by funext i;rw[xh]
   rw[e2,xj]
  rw[e];omega
theorem xp{p o ov:Int}{N R:Nat}(hx:bj p o ov N R){lss:List (List (List Tm))}(hl:cF p o N R lss){a b:DS}(h:Dv p o ov lss a b)(ha:ef p o ov N R lss a)(hq:∀k,a.q.getD k []=[])(hal:∀k,a.l.getD k []=[])(φ:Gb.Te->Int):p∣Gb.ln φ (ci R a.v R)-(Gb.ln φ (ci R b.v R)+Gb.ev (bq p o ov N R hx lss hl) φ (gX b.q lss.length)+Gb.ln φ (ci R b.l R)):=by
 have hb:=Et hx hl ha h;obtain⟨c,hc⟩:=xo hx hl (q:=b.q) (λi t ht=>⟨(hb.qok i).1.len t ht,(hb.qok i).2.1 t ht⟩) φ lss.length (He _);have hm0:∀i k,mk p (λe=>φ (aL R i e)) lss a.q i k=0:=λi k=>by
  induction k with
  |zero=>rfl
  |succ k ih=>simp only[mk];rw[ih,hq];rfl
 obtain⟨d,hd⟩:=oQ (p:=p) (F:=λi=>aj (λe=>φ (aL R i e)) (b.v.getD i [])+mk p (λe=>φ (aL R i e)) lss b.q i lss.length+aj (λe=>φ (aL R i e)) (b.l.getD i [])) (H:=λi=>aj (λe=>φ (aL R i e)) (a.v.getD i [])) R (λi hi=>by
  obtain⟨_,z,hz⟩:=Ep hx hl h ha (λe=>φ (aL R i e)) i hi;rw[hm0,hal] at hz;have e0:aj (λe=>φ (aL R i e)) ([]:List Tm)=0:=rfl;rw[e0] at hz;exact⟨z,by omega⟩)
 rw[lX,lX,lX];rw[m5,m5] at hd;refine⟨c-d,?_⟩;rw[Int.mul_sub];omega
theorem xq{p o ov:Int}{N R:Nat}(hx:bj p o ov N R){lss:List (List (List Tm))}(hl:cF p o N R lss){K:Int}{a b:DS}(h:Dv p o ov lss a b)(ha:ef p o ov N R lss a)(hv:∀i,∀t∈a.v.getD i [],aK o ov i t.2<K)(hq:∀k,a.q.getD k []=[]):ef p o ov N R lss b/\(∀i,∀t∈b.v.getD i [],aK o ov i t.2<K)/\∀k,∀y∈b.q.getD k [],k<lss.length/\∃j x,aq o ov (lss.getD k []) (lss.getD k []).length=some (j,x)/\aK o ov j (ah (·+·) y.2 x.2)<K/\ag (ah (·+·) y.2 x.2)<=8000:=by
 induction h using Dv.ind with
 |refl=>exact⟨ha,hv,λk y hy=>by rw[hq] at hy;simp at hy⟩
 |step h1 h2 ih=>
  rename_i s s2;obtain⟨hs,hsv,hsq⟩:=ih;obtain⟨hi2,j,t,hld,hk⟩:=kQ hx hl hs h2;obtain⟨hj,us,hus⟩:=dJ hld;have htm:t∈s.v.getD j []:=by rw[hus];simp
  have htk:=hsv j t htm;refine⟨hi2,λi x hxm=>by have:=hk i x hxm;omega,?_⟩;unfold dK at h2;rw[hld] at h2;simp only at h2;cases hdv:d9 o ov lss j t.2 with
  |none=>rw[hdv] at h2;simp only[H6] at h2;subst h2;exact hsq
  |some m=>
   rw[hdv] at h2;simp only[H6] at h2;subst h2;have hby:=rA hx hl ((hs.vok.canon j).len t htm) ((hs.vok.canon j).coef t htm) hdv;obtain⟨hml,_,_⟩:=mZ hdv;intro k y hy;simp only[gD] at hy;split at hy
   ·rename_i e;rcases Hv.1 hy with hy|hy
    ·rw[<-e.1];exact hsq m y hy
    ·rw[Hw] at hy;rw[<-e.1];refine⟨hml,j,_,hby.lead,?_,?_⟩
     ·rw[hy,hby.add];exact htk
     ·rw[hy,hby.add];have h9:=hs.vok.deg j t htm;have h8:=(kg (ov:=ov) hx.r j (by have:=hs.vl;omega)).2;omega
   ·exact hsq k y hy
def dT(p o:Int)(v w:List (List Tm))(a b:Tm):List (List Tm):=ch p o (aN p o [(aC p a.1,ah (· - ·) (ah aS a.2 b.2) a.2)] v) (aN p o [(p-aC p b.1,ah (· - ·) (ah aS a.2 b.2) b.2)] w)
theorem mz:∀(a b:List Int),a.length=b.length->(ah aS a b).length=a.length/\fk (ah aS a b) a=false/\fk (ah aS a b) b=false
 |[],[],_=>by simp[ah,fk]
 |[],_::_,h=>by simp at h
 |_::_,[],h=>by simp at h
 |x::a,y::b,h=>by
  obtain⟨h1,h2,h3⟩:=mz a b (by simpa using h);unfold fk at h2 h3⊢;refine⟨by simp[ah,h1],?_,?_⟩
  ·simp only[ah,List.any_cons,h2,Bool.or_false];unfold gK aS;simp;split<;>omega
  ·simp only[ah,List.any_cons,h3,Bool.or_false];unfold gK aS;simp;split<;>omega
theorem nM:∀(a b:List Int),a.length=b.length->(∀x∈a,0<=x)->(∀x∈b,0<=x)->ag (ah aS a b)<=ag a+ag b
 |[],[],_,_,_=>by simp[ah,ag]
 |[],_::_,h,_,_=>by simp at h
 |_::_,[],h,_,_=>by simp at h
 |x::a,y::b,h,ha,hb=>by
  have h1:=nM a b (by simpa using h) (λz hz=>ha z (by simp[hz])) (λz hz=>hb z (by simp[hz]));have h2:=ha x (by simp);have h3:=hb y (by simp);have h4:aS x y<=x+y:=by unfold aS;split<;>omega
  simp only[ah,ag];omega
theorem xr{p o:Int}{N:Nat}(hp:2<=p){c:Int}{m:List Int}(hm:m.length=N)(nm:∀x∈m,0<=x){D1:Int}{D:Nat->Int}{g:List (List Tm)}(hg:b9 p o N (λ_=>D1) g)(hD:∀i,ag m+D1<=D i):b9 p o N D (aN p o [(c,m)] g):=by
 have hat:∀i,(aN p o [(c,m)] g).getD i []=aG p o (aB p [(c,m)] (g.getD i [])):=λi=>by
  unfold aN;by_cases hi:i<g.length
  ·rw[kh (λf=>aG p o (aB p [(c,m)] f)) _ _ hi]
  ·have e1:g.getD i []=[]:=by rw[Hs,Hu (by omega)];rfl
   rw[e1,Hs,Hu (by rw[Ia];omega)];rfl
 have hmem:∀i,∀y∈aB p [(c,m)] (g.getD i []),∃t∈g.getD i [],y=(c*t.1%p,ah (·+·) m t.2):=λi y hy=>by simp only[Go.Proofs.YtglijodcbdcngaaGreat.aB,aT,List.mem_flatMap,H8,Hw] at hy;obtain⟨z,rfl,t,ht,rfl⟩:=hy;exact⟨t,ht,rfl⟩
 have hokl:∀i,cP p N (aB p [(c,m)] (g.getD i [])):=λi=>⟨λy hy=>by
   obtain⟨t,ht,rfl⟩:=hmem i y hy;simp only;rw[eP _ _ _ (by rw[hm,(hg.canon i).len t ht]),hm],λy hy=>by
   obtain⟨t,ht,rfl⟩:=hmem i y hy;exact⟨Int.emod_nonneg _ (by omega),Int.emod_lt_of_pos _ (by omega)⟩⟩
 refine⟨λi=>by rw[hat];exact(hokl i).col hp,λi t ht=>?_,λi t ht=>?_⟩
 ·rw[hat] at ht;obtain⟨y,hy,e⟩:=ke ht;obtain⟨s,hs,rfl⟩:=hmem i y hy;rw[e];exact kZ _ _ nm (hg.nn i s hs)
 ·rw[hat] at ht;obtain⟨y,hy,e⟩:=ke ht;obtain⟨s,hs,rfl⟩:=hmem i y hy;rw[e];simp only;rw[jM _ _ (by rw[hm,(hg.canon i).len s hs])];have h1:ag s.2<=D1:=hg.deg i s hs;have:=hD i;omega
theorem pP{p o ov:Int}{N R:Nat}(hx:bj p o ov N R){v w:List (List Tm)}(hv:b9 p o N (λ_=>40) v)(hw:b9 p o N (λ_=>40) w)(lv:v.length=R)(lw:w.length=R){j:Nat}{a b:Tm}(ha:aq o ov v v.length=some (j,a))(hb:aq o ov w w.length=some (j,b)):(dT p o v w a b).length=R/\b9 p o N (Dg ov) (dT p o v w a b)/\(∀i,∀t∈(dT p o v w a b).getD i [],aK o ov i t.2<aK o ov j (ah aS a.2 b.2))/\∀φ,p∣Gb.ln φ (ci R (dT p o v w a b) R)-(aC p a.1*Gb.ln (λt=>φ (Gb.bB (cB (ah (· - ·) (ah aS a.2 b.2) a.2)) t)) (ci R v R)-aC p b.1*Gb.ln (λt=>φ (Gb.bB (cB (ah (· - ·) (ah aS a.2 b.2) b.2)) t)) (ci R w R)):=by
 obtain⟨hp1,hp2⟩:=dU hx.pr;have hD:∀i,i<R->(λ_:Nat=>(40:Int)) i<=16000:=λ_ _=>by simp
 obtain⟨am,hj,ac,au⟩:=kR hx hv lv hD ha;obtain⟨bm,_,bc,bu⟩:=kR hx hw lw hD hb;have al:=(hv.canon j).len a am;have bl:=(hw.canon j).len b bm;have aco:=(hv.canon j).coef a am;have bco:=(hw.canon j).coef b bm;have ann:=hv.nn j a am;have bnn:=hw.nn j b bm;have ad:ag a.2<=40:=hv.deg j a am;have bd:ag b.2<=40:=hw.deg j b bm;obtain⟨l1,l2,l3⟩:=mz a.2 b.2 (by rw[al,bl]);have l4:=nM a.2 b.2 (by rw[al,bl]) ann bnn;unfold dT;generalize ah aS a.2 b.2=e at l1 l2 l3 l4⊢;obtain⟨u1,u2,u3⟩:=ja e a.2 l1 l2;obtain⟨w1,w2,w3⟩:=ja e b.2 (by rw[l1,al,bl]) l3;have su:ag (ah (· - ·) e a.2)+ag a.2=ag e:=by rw[<-jM _ _ u1,u3]
 have sw:ag (ah (· - ·) e b.2)+ag b.2=ag e:=by rw[<-jM _ _ w1,w3]
 have an0:=jb ann;have bn0:=jb bnn;have ku:aK o ov j e=aK o ov j a.2+a8 o (ah (· - ·) e a.2):=by
  have h:=m7 (o:=o) (ov:=ov) (i:=j) hx.n3 (show (ah (· - ·) e a.2).length=N by rw[u1,al]) al
  rw[u3] at h;exact h
 have kw:aK o ov j e=aK o ov j b.2+a8 o (ah (· - ·) e b.2):=by
  have h:=m7 (o:=o) (ov:=ov) (i:=j) hx.n3 (show (ah (· - ·) e b.2).length=N by rw[w1,bl]) bl
  rw[w3] at h;exact h
 generalize ah (· - ·) e a.2=m at u1 u2 u3 su ku⊢
 generalize ah (· - ·) e b.2=n at w1 w2 w3 sw kw⊢
 obtain⟨ia1,ia2,ia3⟩:=gJ hx.pr (show 0<a.1/\a.1<p by omega);obtain⟨ib1,ib2,ib3⟩:=gJ hx.pr (show 0<b.1/\b.1<p by omega);have hDg:∀i,(200:Int)<=Dg ov i:=λi=>by unfold Dg;split<;>omega
 have pl1:(aN p o [(aC p a.1,m)] v).length=R:=by unfold aN;rw[Ia,lv]
 have pl2:(aN p o [(p-aC p b.1,n)] w).length=R:=by unfold aN;rw[Ia,lw]
 have V1:b9 p o N (Dg ov) (aN p o [(aC p a.1,m)] v):=xr hp1 (by rw[u1,al]) u2 hv λi=>by have:=hDg i;omega
 have V2:b9 p o N (Dg ov) (aN p o [(p-aC p b.1,n)] w):=xr hp1 (by rw[w1,bl]) w2 hw λi=>by have:=hDg i;omega
 have V:b9 p o N (Dg ov) (ch p o (aN p o [(aC p a.1,m)] v) (aN p o [(p-aC p b.1,n)] w)):=rI hp1 (by rw[pl1,pl2]) V1 λi=>⟨(V2.canon i).okl,λt ht=>⟨V2.nn i t ht,V2.deg i t ht⟩⟩;have hl:(ch p o (aN p o [(aC p a.1,m)] v) (aN p o [(p-aC p b.1,n)] w)).length=R:=by rw[iu (by rw[pl1,pl2]),pl1]
 obtain⟨za,hza⟩:=gC p (a.1*aC p a.1);obtain⟨zb,hzb⟩:=gC p (b.1*aC p b.1);rw[ia3] at hza;rw[ib3] at hzb;refine⟨hl,V,?_,λφ=>?_⟩
 ·refine rJ hx V hl (λi hi=>by have:=(kg (ov:=ov) hx.r i hi).2;omega) λk hk=>?_;obtain⟨c0,h0⟩:=oR (p:=p) (o:=o) (ov:=ov) (k:=k) (show (aN p o [(aC p a.1,m)] v).length=(aN p o [(p-aC p b.1,n)] w).length by rw[pl1,pl2]) R (by rw[pl1];exact He _);obtain⟨c1,h1⟩:=oS (p:=p) (o:=o) (ov:=ov) (k:=k) hx.n3 (c:=aC p a.1) (e:=m) (by rw[u1,al]) (gss:=v) (λi=>(hv.canon i).len) R (by rw[lv];exact He _);obtain⟨c2,h2⟩:=oS (p:=p) (o:=o) (ov:=ov) (k:=k) hx.n3 (c:=p-aC p b.1) (e:=n) (by rw[w1,bl]) (gss:=w) (λi=>(hw.canon i).len) R (by rw[lw];exact He _);by_cases he:k=aK o ov j e
  ·have e1:k-a8 o m=aK o ov j a.2:=by omega
   have e2:k-a8 o n=aK o ov j b.2:=by omega
   rw[e1,ac] at h1;rw[e2,bc] at h2;refine⟨c0+c1+c2-za+zb+b.1,?_⟩;have e3:(p-aC p b.1)*b.1=p*b.1-b.1*aC p b.1:=by grind
   have e4:aC p a.1*a.1=a.1*aC p a.1:=Int.mul_comm _ _;rw[e3] at h2;rw[e4] at h1;grind
  ·rw[au _ (by omega)] at h1;rw[bu _ (by omega)] at h2;refine⟨c0+c1+c2,?_⟩;grind
 ·rw[lX];obtain⟨t1,ht1⟩:=rF (p:=p) (R:=R) hx.n3 (b:=(aC p a.1,m)) (by simp only;rw[u1,al]) u2 (g:=v) (λi=>(hv.canon i).len) (λi t ht=>hv.nn i t ht) φ R;obtain⟨t2,ht2⟩:=rF (p:=p) (R:=R) hx.n3 (b:=(p-aC p b.1,n)) (by simp only;rw[w1,bl]) w2 (g:=w) (λi=>(hw.canon i).len) (λi t ht=>hw.nn i t ht) φ R;obtain⟨t3,ht3⟩:=oQ (p:=p) (F:=λi=>aj (λe=>φ (aL R i e)) ((ch p o (aN p o [(aC p a.1,m)] v) (aN p o [(p-aC p b.1,n)] w)).getD i [])) (H:=λi=>aj (λe=>φ (aL R i e)) (aT p (aC p a.1,m) (v.getD i []))+aj (λe=>φ (aL R i e)) (aT p (p-aC p b.1,n) (w.getD i []))) R (λi hi=>by
   obtain⟨y0,hy0⟩:=rC (p:=p) (o:=o) (φ:=λe=>φ (aL R i e)) (v:=aN p o [(aC p a.1,m)] v) (w:=aN p o [(p-aC p b.1,n)] w) (i:=i) (by rw[pl1,pl2]) (by rw[pl1];exact hi);have q1:(aN p o [(aC p a.1,m)] v).getD i []=aG p o (aB p [(aC p a.1,m)] (v.getD i [])):=by unfold aN;rw[kh (λg=>aG p o (aB p [(aC p a.1,m)] g)) _ _ (by rw[lv];exact hi)]
   have q2:(aN p o [(p-aC p b.1,n)] w).getD i []=aG p o (aB p [(p-aC p b.1,n)] (w.getD i [])):=by unfold aN;rw[kh (λg=>aG p o (aB p [(p-aC p b.1,n)] g)) _ _ (by rw[lw];exact hi)]
   rw[q1,q2] at hy0;obtain⟨y1,hy1⟩:=jx p o (λe=>φ (aL R i e)) (aB p [(aC p a.1,m)] (v.getD i []));obtain⟨y2,hy2⟩:=jx p o (λe=>φ (aL R i e)) (aB p [(p-aC p b.1,n)] (w.getD i []));have q3:aB p [(aC p a.1,m)] (v.getD i [])=aT p (aC p a.1,m) (v.getD i []):=by unfold Go.Proofs.YtglijodcbdcngaaGreat.aB;simp
   have q4:aB p [(p-aC p b.1,n)] (w.getD i [])=aT p (p-aC p b.1,n) (w.getD i []):=by unfold Go.Proofs.YtglijodcbdcngaaGreat.aB;simp
   rw[q3] at hy1 hy0;rw[q4] at hy2 hy0;exact⟨y0+y1+y2,by rw[Int.mul_add,Int.mul_add];omega⟩)
  rw[m5] at ht3;simp only at ht1 ht2;rw[Int.sub_mul] at ht2;refine⟨t1+t2+t3+Gb.ln (λt=>φ (Gb.bB (cB n) t)) (ci R w R),?_⟩;rw[Int.mul_add,Int.mul_add,Int.mul_add];omega
theorem oT{R:Nat}{v:List (List Tm)}(h:∀i,v.getD i []=[]):∀k,ci R v k=[]
 |0=>rfl
 |k+1=>by simp only[ci];rw[oT h k,h k];rfl
theorem jL{p o ov:Int}{N R:Nat}{hx:bj p o ov N R}{lss:List (List (List Tm))}{hl:cF p o N R lss}{i j:Nat}{a:Tm}(h:aq o ov (lss.getD i []) (lss.getD i []).length=some (j,a)):(bq p o ov N R hx lss hl).ld i=aL R j a.2/\(bq p o ov N R hx lss hl).iv i=aC p a.1/\(bq p o ov N R hx lss hl).lc i=a.1:=by
 refine⟨?_,?_,?_⟩
 ·show aL R _ _=_;rw[h];rfl
 ·show aC p _=_;rw[h];rfl
 ·show ((aq o ov (lss.getD i []) (lss.getD i []).length).getD (0,aM)).2.1=_;rw[h];rfl
theorem Eu{p o ov:Int}{N R:Nat}(hx:bj p o ov N R){lss:List (List (List Tm))}(hl:cF p o N R lss){j:Nat}{e:List Int}(hj:j<R)(he:dM N e){q:List (List Tm)}(hqn:∀k,∀y∈q.getD k [],y.2.length=N/\∀x∈y.2,0<=x)(hq:∀k,∀y∈q.getD k [],k<lss.length/\∃j2 x,aq o ov (lss.getD k []) (lss.getD k []).length=some (j2,x)/\aK o ov j2 (ah (·+·) y.2 x.2)<aK o ov j e/\ag (ah (·+·) y.2 x.2)<=8000):∀r∈gX q lss.length,(bq p o ov N R hx lss hl).live r.2.2/\(Gb.bi o ov).lt ((Gb.bi o ov).act r.2.1 ((bq p o ov N R hx lss hl).ld r.2.2)) (aL R j e):=by
 intro r hr;obtain⟨k,y,hk,hy,rfl⟩:=rH _ hr;obtain⟨_,j2,x,hld,hkey,hs⟩:=hq k y hy;have hm:=de lss k hk;have hok:=hl.ok _ hm;have hgl:=hl.len _ hm;obtain⟨hj2,us,hus⟩:=dJ hld;have hxm:x∈(lss.getD k []).getD j2 []:=by rw[hus];simp
 have xl:=(hok.canon j2).len x hxm;have xn:=hok.nn j2 x hxm;obtain⟨yl,yn⟩:=hqn k y hy;refine⟨⟨hk,by rw[hld];rfl⟩,?_⟩;simp only;rw[(jL (hx:=hx) (hl:=hl) hld).1];have e1:(Gb.bi o ov).act (cB y.2) (aL R j2 x.2)=aL R j2 (ah (·+·) y.2 x.2):=(mA hx.n3 yl xl yn xn).symm
 rw[e1];exact qB hx.o hx.ov hx.n3 hx.r (by omega) hj ⟨by rw[eP _ _ _ (by rw[yl,xl]),yl],kZ _ _ yn xn,by omega⟩ he hkey
theorem zS{p o ov:Int}{N R:Nat}(hx:bj p o ov N R){lss:List (List (List Tm))}(hl:cF p o N R lss)(h40:∀g∈lss,b9 p o N (λ_=>40) g){i k j:Nat}{a b:Tm}(hi:i<lss.length)(hk:k<lss.length)(ha:aq o ov (lss.getD i []) (lss.getD i []).length=some (j,a))(hb:aq o ov (lss.getD k []) (lss.getD k []).length=some (j,b)){f:DS}(hdv:Dv p o ov lss ⟨dT p o (lss.getD i []) (lss.getD k []) a b,List.replicate lss.length [],List.replicate R []⟩ f)(hend:aq o ov f.v f.v.length=none)(hleft:∀m,f.l.getD m []=[]):Gb.Rl (bq p o ov N R hx lss hl) i (cB (ah (· - ·) (ah aS a.2 b.2) a.2)) k (cB (ah (· - ·) (ah aS a.2 b.2) b.2)):=by
 have mi:=de lss i hi;have mk2:=de lss k hk;obtain⟨b1,b2,b3,b4⟩:=pP hx (h40 _ mi) (h40 _ mk2) (hl.len _ mi) (hl.len _ mk2) ha hb;obtain⟨hja,us,hua⟩:=dJ ha;obtain⟨hjb,vs,hub⟩:=dJ hb;have am:a∈(lss.getD i []).getD j []:=by rw[hua];simp
 have bm:b∈(lss.getD k []).getD j []:=by rw[hub];simp
 have al:=((h40 _ mi).canon j).len a am;have bl:=((h40 _ mk2).canon j).len b bm;have ann:=(h40 _ mi).nn j a am;have bnn:=(h40 _ mk2).nn j b bm;have ad:ag a.2<=40:=(h40 _ mi).deg j a am;have bd:ag b.2<=40:=(h40 _ mk2).deg j b bm;have hjR:j<R:=by have:=hl.len _ mi;omega
 obtain⟨l1,l2,l3⟩:=mz a.2 b.2 (by rw[al,bl]);have l4:=nM a.2 b.2 (by rw[al,bl]) ann bnn;obtain⟨u1,u2,u3⟩:=ja (ah aS a.2 b.2) a.2 l1 l2;have he:dM N (ah aS a.2 b.2):=⟨by rw[l1,al],by rw[<-u3];exact kZ _ _ u2 ann,by omega⟩;have h0:∀(n m:Nat),(List.replicate n ([]:List Tm)).getD m []=[]:=λn m=>by rw[Hs];by_cases h:m<n<;>simp[h]
 have hinv:ef p o ov N R lss ⟨dT p o (lss.getD i []) (lss.getD k []) a b,List.replicate lss.length [],List.replicate R []⟩:=by have hce:=(pQ p o N).canon;exact⟨b1,by simp,by simp,b2,⟨λm=>by simp only[h0];exact hce,λm t ht=>by simp only[h0] at ht;simp at ht,λm t ht=>by simp only[h0] at ht;simp at ht⟩,λm=>⟨by simp only[h0];exact hce,λt ht=>by simp only[h0] at ht;simp at ht,λt ht=>by simp only[h0] at ht;simp at ht⟩,λm y hy=>by simp only[h0] at hy;simp at hy,λm y hy=>by simp only[h0] at hy;simp at hy⟩
 obtain⟨hfi,_,hfq⟩:=xq hx hl hdv hinv b3 (λm=>h0 _ m);have hfv:∀m,f.v.getD m []=[]:=λm=>by
  by_cases hm:m<f.v.length
  ·exact rE f.v.length (He _) hend m hm
  ·rw[Hs,Hu (by omega)];rfl
 obtain⟨ga1,ga2,_⟩:=jL (hx:=hx) (hl:=hl) ha;obtain⟨gb1,gb2,_⟩:=jL (hx:=hx) (hl:=hl) hb;unfold Gb.Rl;have et:(Gb.bi o ov).act (cB (ah (· - ·) (ah aS a.2 b.2) a.2)) ((bq p o ov N R hx lss hl).ld i)=aL R j (ah aS a.2 b.2):=by
  rw[ga1];have h:=mA (R:=R) (i:=j) hx.n3 (show (ah (· - ·) (ah aS a.2 b.2) a.2).length=N by rw[u1,al]) al u2 ann
  rw[u3] at h;exact h.symm
 rw[et];refine⟨gX f.q lss.length,Eu hx hl hjR he (λm y hy=>⟨(hfi.qok m).1.len y hy,(hfi.qok m).2.1 y hy⟩) hfq,λφ=>?_⟩;obtain⟨z1,hz1⟩:=xp hx hl hdv hinv (λm=>h0 _ m) (λm=>h0 _ m) φ;obtain⟨z2,hz2⟩:=b4 φ;simp only at hz1;rw[oT hfv,oT hleft] at hz1;have e0:Gb.ln φ ([]:List (Int×Gb.Te))=0:=rfl;rw[e0] at hz1;refine⟨z1-z2,?_⟩;unfold Gb.Hm;rw[ga2,gb2,Int.mul_sub];have q1:Gb.ln (λt=>φ ((Gb.bi o ov).act (cB (ah (· - ·) (ah aS a.2 b.2) a.2)) t)) ((bq p o ov N R hx lss hl).g i)=Gb.ln (λt=>φ (Gb.bB (cB (ah (· - ·) (ah aS a.2 b.2) a.2)) t)) (ci R (lss.getD i []) R):=rfl
 have q2:Gb.ln (λt=>φ ((Gb.bi o ov).act (cB (ah (· - ·) (ah aS a.2 b.2) b.2)) t)) ((bq p o ov N R hx lss hl).g k)=Gb.ln (λt=>φ (Gb.bB (cB (ah (· - ·) (ah aS a.2 b.2) b.2)) t)) (ci R (lss.getD k []) R):=rfl
 show aC p a.1*Gb.ln (λt=>φ ((Gb.bi o ov).act (cB (ah (· - ·) (ah aS a.2 b.2) a.2)) t)) ((bq p o ov N R hx lss hl).g i)-aC p b.1*Gb.ln (λt=>φ ((Gb.bi o ov).act (cB (ah (· - ·) (ah aS a.2 b.2) b.2)) t)) ((bq p o ov N R hx lss hl).g k)-_=_
 rw[q1,q2];omega
end Go.Proofs.YtglijodcbdcngaaGreat
