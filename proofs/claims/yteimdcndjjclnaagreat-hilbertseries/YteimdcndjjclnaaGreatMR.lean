/- The reference's CountOf: what it reckons. -/
import Derived.Test.YteimdcndjjclnaaGreatWN
import Derived.Test.YteimdcndjjclnaaGreatZN
namespace Go.Proofs.YteimdcndjjclnaaGreat
set_option linter.all false
open Go.Proofs.Tryz Go.RowKit
def dj(N:Nat)(ds:List Int)(d:Int):Nat->List (Nat×List Int)
 |0=>[]
 |k+1=>dj N ds d k++(dK N (d-ds.getD k 0)).map λm=>(k,m)
def lZ(f:List Tm)(m:List Int):Int:=f.foldl (λa t=>if gW t.2 m=true then t.1 else a) 0
def kV(cols:List (Nat×List Int))(g:List (List Tm)):List Int:=cols.map λc=>lZ (g.getD c.1 []) c.2
def mY(p o:Int)(N:Nat)(ds:List Int)(d:Int)(cols:List (Nat×List Int))(g:List (List Tm)):List (List Int):=if eI (aY ds g g.length)=0 then (dK N (d-iQ (aY ds g g.length))).map (λm=>kV cols (jh p o [(1,m)] g)) else []
def oL(p o:Int)(N:Nat)(ds:List Int)(d:Int)(vss:List (List (List Tm))):List (List Int):=vss.flatMap (mY p o N ds d (dj N ds d ds.length))
def cL(p o:Int)(N:Nat)(ds:List Int)(vss:List (List (List Tm)))(d:Int):Int:=((dj N ds d ds.length).length:Int)-((lA p (oL p o N ds d vss)).length:Int)
theorem Iw{p:Int}(hp:0<p):∀{f:List Tm},(∀t∈f,0<=t.1/\t.1<p)->∀m,0<=lZ f m/\lZ f m<p:=by
 intro f h m;have key:∀(f:List Tm)(a:Int),(∀t∈f,0<=t.1/\t.1<p)->0<=a/\a<p->0<=f.foldl (λa t=>if gW t.2 m=true then t.1 else a) a/\f.foldl (λa t=>if gW t.2 m=true then t.1 else a) a<p:=by
  intro f;induction f with
  |nil=>exact λa _ h=>h
  |cons t f ih=>
   intro a h1 h2;rw[List.foldl_cons];refine ih _ (λu hu=>h1 u (by simp[hu])) ?_;split
   .exact h1 t (by simp)
   .exact h2
 exact key f 0 h ⟨Int.le_refl _,hp⟩
theorem Ix{w:World}{B:Nat}{v:Value}{xs:List Int}(h:iB w B v xs):Sl w v xs:=by obtain⟨a,c,rfl⟩:=cw h;refine⟨a,c,rfl,λhp=>?_⟩;obtain⟨g,c2,e,_,hlt⟩:=Dc h hp;simp only[LB] at e;obtain⟨rfl,_,rfl⟩:=e;exact⟨g,0,rfl,hlt,λi hi=>by rw[Ly];exact C8 h i hi⟩
theorem qd:∀(n:Nat)(d:Int),0<=d->∀r∈dK n d,(∀x∈r,0<=x/\x<=d)/\(0<n->ah r=d)
 |0,d,_,r,h=>by unfold dK at h;split at h<;>simp[jV] at h
 |1,d,hd,r,h=>by unfold dK at h;rw[LH (by omega)] at h;simp[jV] at h;subst h;exact⟨λx hx=>by simp at hx;omega,λ_=>by simp[ah];omega⟩
 |n+2,d,hd,r,h=>by
  rw[<-pM n hd] at h;unfold mr at h;rw[L7] at h;obtain⟨i,hi,h⟩:=h;rw[List.mem_range] at hi;obtain⟨q,hq,rfl⟩:=LC.1 h;have h2:=qd (n+1) (d-(i:Int)) (by omega) q hq;refine⟨λx hx=>?_,λ_=>?_⟩
  .rcases LL.1 hx with rfl|hx
   .omega
   .have:=h2.1 x hx;omega
  .have:=h2.2 (by omega);simp only[ah];omega
theorem qa{n:Nat}{d:Int}(h:d<0):dK n d=[]:=by unfold dK;rw[LI h]
theorem At{p o:Int}{N:Nat}(hp:2<=p){m:List Int}(hm:m.length=N){g:List Tm}(hg:cQ p o N g):dQ p o N (eL p o (cN p [(1,m)] g)):=by
 refine uz hp (λt ht=>?_) (λt ht=>?_)
 .simp only[cN,iP,List.flatMap_cons,List.flatMap_nil,List.append_nil,LC] at ht;obtain⟨u,hu,rfl⟩:=ht;simp only;rw[kF _ _ _ (by rw[hm,hg.canon.len u hu]),hm]
 .simp only[cN,iP,List.flatMap_cons,List.flatMap_nil,List.append_nil,LC] at ht;obtain⟨u,hu,rfl⟩:=ht;exact⟨Int.emod_nonneg _ (by omega),Int.emod_lt_of_pos _ (by omega)⟩
theorem As{p o:Int}{f:List Tm}{gss:List (List Tm)}{k:Nat}(hk:k<gss.length):(jh p o f gss).getD k []=eL p o (cN p f (gss.getD k [])):=by unfold jh;simp[Lr,hk]
theorem ie.rws{B:Nat}{w:World}{v:Value}{qs:List (List Int×Value)}(h:ie B w v qs):pF w v (qs.map Prod.fst):=by
 obtain⟨a,c,rfl⟩:=cw h.own;refine⟨a,c,by rw[LD],λhp=>?_⟩;rw[LD] at hp;obtain⟨g,cap,e,_,hlt⟩:=h.own.form hp;simp only[LB] at e;obtain⟨rfl,_,rfl⟩:=e;refine⟨g,0,rfl,hlt,λi hi=>?_⟩;rw[LD] at hi;refine⟨qs[i].2,?_,?_⟩
 .rw[Ly,La h.own i (by omega)];simp[hi]
 .have e2:(qs.map Prod.fst).getD i []=qs[i].1:=by simp[Lr,hi]
  rw[e2];exact Ix (h.rows qs[i] (Lo hi))
theorem Iy{p o:Int}{N:Nat}(hp:2<=p){cols:List (Nat×List Int)}{m:List Int}(hm:m.length=N){g:List (List Tm)}(hg:∀f∈g,cQ p o N f):cU p cols.length (kV cols (jh p o [(1,m)] g)):=by
 refine⟨by unfold kV;simp,λx hx=>?_⟩;unfold kV at hx;obtain⟨c,_,rfl⟩:=LC.1 hx;refine Iw (by omega) (λt ht=>?_) _;by_cases hc:c.1<g.length
 .rw[As hc] at ht;have hm2:g.getD c.1 []∈g:=by rw[Lr,Ls hc];exact Lo hc
  have:=(At hp hm (hg _ hm2)).coef t ht;omega
 .rw[Lr,Lu (by unfold jh;rw[LD];omega)] at ht;simp at ht
theorem If{p o:Int}{N:Nat}(hp:2<=p){ds:List Int}{d:Int}{cols:List (Nat×List Int)}{vss:List (List (List Tm))}(hg:∀g∈vss,∀f∈g,cQ p o N f):∀r∈vss.flatMap (mY p o N ds d cols),cU p cols.length r:=λr hr=>by
 rw[L7] at hr;obtain⟨g,hgm,hr⟩:=hr;unfold mY at hr;split at hr
 .obtain⟨m,hm,rfl⟩:=LC.1 hr;exact Iy hp (oc N _ m hm) (hg g hgm)
 .simp at hr
end Go.Proofs.YteimdcndjjclnaaGreat
