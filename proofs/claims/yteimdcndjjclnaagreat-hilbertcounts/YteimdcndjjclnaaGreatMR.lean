/- The reference's CountOf: what it reckons. -/
import Derived.Test.YteimdcndjjclnaaGreatWN
import Derived.Test.YteimdcndjjclnaaGreatZN
namespace Go.Proofs.YteimdcndjjclnaaGreat
set_option linter.all false
open Go.Proofs.Tryz Go.RowKit
def bH(N:Nat)(ds:List Int)(d:Int):Nat->List (Nat×List Int)
 |0=>[]
 |k+1=>bH N ds d k++(ba N (d-ds.getD k 0)).map λm=>(k,m)
theorem rS{N:Nat}(hN:N=1\/N=2\/N=3){d:Int}(hd:d<=12):(ba N d).length<=91:=by
 have h1:=λe=>oZ e;have h2:∀e:Int,e<=12->(ba 2 e).length<=13:=λe he=>by
  by_cases h0:e<0
  .unfold ba;rw[M9 h0];simp
  .rw[<-kC 0 (by omega)];have:=oY 0 e (c:=1) (λi=>oZ _) (e.toNat+1);omega
 rcases hN with rfl|rfl|rfl
 .have:=h1 d;omega
 .have:=h2 d hd;omega
 .by_cases h0:d<0
  .unfold ba;rw[M9 h0];simp
  .rw[<-kC 1 (by omega)];obtain⟨e,rfl⟩:=Int.eq_ofNat_of_zero_le (show 0<=d by omega);have key:∀e j:Nat,e<=12->j<=e+1->(gi 1 (e:Int) j).length*2<=j*(2*e+3-j):=by
    intro e j he hj;induction j with
    |zero=>simp[gi]
    |succ j ih=>
     have ih:=ih (by omega);rw[tP,M0,M6];have h3:(ba (1+1) ((e:Int)-(j:Int))).length<=e-j+1:=by show (ba (0+2) _).length<=_;rw[<-kC 0 (by omega)];have:=oY 0 ((e:Int)-(j:Int)) (c:=1) (λi=>oZ _) (((e:Int)-(j:Int)).toNat+1);omega
     have e1:j*(2*e+3-j)+2*(e-j+1)=(j+1)*(2*e+3-(j+1)):=by obtain⟨q,rfl⟩:∃q,e=j+q:=⟨e-j,by omega⟩;rw[show 2*(j+q)+3-j=j+2*q+3 by omega,show j+q-j+1=q+1 by omega,show 2*(j+q)+3-(j+1)=j+2*q+2 by omega];grind
     generalize j*(2*e+3-j)=P at ih e1;generalize (j+1)*(2*e+3-(j+1))=Q at e1⊢;omega
   have h4:=key e (e+1) (by omega) (MI _);have h5:(e+1)*(2*e+3-(e+1))<=13*14:=Nat.mul_le_mul (by omega) (by omega);have e3:((e:Int)).toNat+1=e+1:=by omega
   rw[e3];omega
theorem Bc{N:Nat}(hN:N=1\/N=2\/N=3){ds:List Int}{d:Int}(hd:d<=12)(h0:∀i,0<=ds.getD i 0):∀k,(bH N ds d k).length<=k*91
 |0=>by simp[bH]
 |k+1=>by have:=Bc hN hd h0 k;have:=rS hN (show d-ds.getD k 0<=12 by have:=h0 k;omega);simp only[bH,M0,M6];omega
theorem nZ{W:World}{b:Nat}{x:Value}(h:W.cell? ⟨b,0,none⟩=some x):∀j u,[x][j]?=some u->W.cell? ((⟨b,0,none⟩:Addr).add j)=some u:=λj u hj=>by
 match j,hj with
 |0,hj=>simp at hj;subst hj;simpa [Addr.add] using h
 |j+1,hj=>simp at hj
def gA(f:List Tm)(m:List Int):Int:=f.foldl (λa t=>if fR t.2 m=true then t.1 else a) 0
theorem I9(f:List Tm)(t:Tm)(m:List Int):gA (f++[t]) m=if fR t.2 m=true then t.1 else gA f m:=by unfold gA;rw[List.foldl_append];rfl
def fT(cols:List (Nat×List Int))(g:List (List Tm)):List Int:=cols.map λc=>gA (g.getD c.1 []) c.2
def gW(p o:Int)(N:Nat)(ds:List Int)(d:Int)(cols:List (Nat×List Int))(g:List (List Tm)):List (List Int):=if eF (aV ds g g.length)=0 then (ba N (d-fK (aV ds g g.length))).map (λm=>fT cols (dG p o [(1,m)] g)) else []
def iH(p o:Int)(N:Nat)(ds:List Int)(d:Int)(vss:List (List (List Tm))):List (List Int):=vss.flatMap (gW p o N ds d (bH N ds d ds.length))
def eo(p o:Int)(N:Nat)(ds:List Int)(vss:List (List (List Tm)))(d:Int):Int:=((bH N ds d ds.length).length:Int)-((gJ p (iH p o N ds d vss)).length:Int)
theorem Ja{p:Int}(hp:0<p):∀{f:List Tm},(∀t∈f,0<=t.1/\t.1<p)->∀m,0<=gA f m/\gA f m<p:=by
 intro f h m;have key:∀(f:List Tm)(a:Int),(∀t∈f,0<=t.1/\t.1<p)->0<=a/\a<p->0<=f.foldl (λa t=>if fR t.2 m=true then t.1 else a) a/\f.foldl (λa t=>if fR t.2 m=true then t.1 else a) a<p:=by
  intro f;induction f with
  |nil=>exact λa _ h=>h
  |cons t f ih=>
   intro a h1 h2;rw[List.foldl_cons];refine ih _ (λu hu=>h1 u (by simp[hu])) ?_;split
   .exact h1 t (by simp)
   .exact h2
 exact key f 0 h ⟨Int.le_refl _,hp⟩
theorem Jb{ds:List Int}{g:List (List Tm)}(h0:∀i,0<=ds.getD i 0/\ds.getD i 0<=6)(hg:∀f∈g,∀t∈f,0<=aj t.2/\aj t.2<=200)(k:Nat):∀x∈aV ds g k,0<=x/\x<=206:=by
 intro x hx;unfold aV at hx;rw[Nt] at hx;obtain⟨i,_,hx⟩:=hx;unfold cR at hx;obtain⟨t,ht,rfl⟩:=M5.1 hx;have h1:=h0 i;have hi:i<g.length:=by apply M7;intro hle;rw[MV,MX hle] at ht;simp at ht
 have hm:g.getD i []∈g:=by rw[MV,MW hi];exact MS hi
 have h2:=hg _ hm t ht;omega
theorem Jc{L:List Int}(h:∀x∈L,0<=x/\x<=206):0<=fK L/\fK L<=206:=by
 cases L with
 |nil=>exact⟨Int.le_refl _,by decide⟩
 |cons z zs=>
  rw[n4];split
  .exact h z (by simp)
  .exact⟨Int.le_refl _,by decide⟩
theorem vw{p o:Int}{N:Nat}(hN:N=1\/N=2\/N=3){ds:List Int}{d:Int}(hd:d<=12){cols:List (Nat×List Int)}:∀{vss:List (List (List Tm))},(∀g∈vss,0<=fK (aV ds g g.length))->(vss.flatMap (gW p o N ds d cols)).length<=vss.length*91
 |[],_=>by simp
 |g::vss,h=>by
  have ih:=vw (p:=p) (o:=o) hN hd (cols:=cols) (vss:=vss) λx hx=>h x (by simp[hx]);rw[List.flatMap_cons,M0,Nc];have h1:(gW p o N ds d cols g).length<=91:=by
   unfold gW;split
   .rw[M6];exact rS hN (by have:=h g (by simp);omega)
   .simp
  omega
theorem Be(N:Nat)(ds:List Int)(d:Int):∀k c,c∈bH N ds d k->c.1<k/\c.2.length=N
 |0,c,h=>by simp[bH] at h
 |k+1,c,h=>by
  simp only[bH,MY] at h;rcases h with h|h
  .have:=Be N ds d k c h;exact⟨by omega,this.2⟩
  .obtain⟨m,hm,rfl⟩:=M5.1 h;exact⟨by simp,jV N _ m hm⟩
theorem vx{w:World}{B:Nat}{v:Value}{xs:List Int}(h:cq w B v xs):Sl w v xs:=by obtain⟨a,c,rfl⟩:=bY h;refine⟨a,c,rfl,λhp=>?_⟩;obtain⟨g,c2,e,_,hlt⟩:=mj h hp;simp only[M4] at e;obtain⟨rfl,_,rfl⟩:=e;exact⟨g,0,rfl,hlt,λi hi=>by rw[M1];exact qC h i hi⟩
theorem pt:∀(n:Nat)(d:Int),0<=d->∀r∈ba n d,(∀x∈r,0<=x/\x<=d)/\(0<n->aj r=d)
 |0,d,_,r,h=>by unfold ba at h;split at h<;>simp[iP] at h
 |1,d,hd,r,h=>by unfold ba at h;rw[M8 (by omega)] at h;simp[iP] at h;subst h;exact⟨λx hx=>by simp at hx;omega,λ_=>by simp[aj];omega⟩
 |n+2,d,hd,r,h=>by
  rw[<-kC n hd] at h;unfold gi at h;rw[Nt] at h;obtain⟨i,hi,h⟩:=h;rw[List.mem_range] at hi;obtain⟨q,hq,rfl⟩:=M5.1 h;have h2:=pt (n+1) (d-(i:Int)) (by omega) q hq;refine⟨λx hx=>?_,λ_=>?_⟩
  .rcases Nb.1 hx with rfl|hx
   .omega
   .have:=h2.1 x hx;omega
  .have:=h2.2 (by omega);simp only[aj];omega
theorem pp{n:Nat}{d:Int}(h:d<0):ba n d=[]:=by unfold ba;rw[M9 h]
theorem Jd{p o:Int}{N:Nat}(hp:2<=p)(hN:0<N){d:Int}(hd:d<=12){m:List Int}(hm:m∈ba N d):cL p o N [(1,m)]:=by
 have hd0:0<=d:=by apply Int.not_lt.1;intro h;rw[pp h] at hm;simp at hm
 have h1:=pt N d hd0 m hm;refine⟨⟨λt ht=>?_,?_,λt ht=>?_⟩,λt ht x hx=>?_,by simp,λt ht=>?_⟩
 .rw[MZ] at ht;rw[ht];exact jV N d m hm
 .exact⟨λx hx=>by simp at hx,trivial⟩
 .rw[MZ] at ht;rw[ht];exact⟨Int.le_refl _,by simp only;omega⟩
 .rw[MZ] at ht;rw[ht] at hx;have:=h1.1 x hx;omega
 .rw[MZ] at ht;rw[ht];have:=h1.2 hN;simp only;omega
theorem vy{p o:Int}{N:Nat}(hp:2<=p){m:List Int}(hm:m.length=N){g:List Tm}(hg:cL p o N g):eB p o N (cM p o (bk p [(1,m)] g)):=by
 refine vz hp (λt ht=>?_) (λt ht=>?_)
 .simp only[bk,eK,List.flatMap_cons,List.flatMap_nil,List.append_nil,M5] at ht;obtain⟨u,hu,rfl⟩:=ht;simp only;rw[jz _ _ _ (by rw[hm,hg.canon.len u hu]),hm]
 .simp only[bk,eK,List.flatMap_cons,List.flatMap_nil,List.append_nil,M5] at ht;obtain⟨u,hu,rfl⟩:=ht;exact⟨Int.emod_nonneg _ (by omega),Int.emod_lt_of_pos _ (by omega)⟩
theorem vA{p o:Int}{f:List Tm}{gss:List (List Tm)}{k:Nat}(hk:k<gss.length):(dG p o f gss).getD k []=cM p o (bk p f (gss.getD k [])):=by unfold dG;simp[MV,hk]
theorem vB(xs:List Int)(c:Nat)(z:Int)(i:Nat):(xs.set c z).getD i 0=if c=i/\c<xs.length then z else xs.getD i 0:=by
 rw[MV,List.getElem?_set,MV];by_cases h:c=i
 .subst h;by_cases h2:c<xs.length
  .simp[h2]
  .simp[h2]
 .simp[h]
theorem Je(n:Nat):(madeCells #[.int .i64 0] n).toList=fC (List.replicate n 0):=by
 apply List.ext_getElem
 .simp[size_madeCells]
 .intro i h1 h2;simp[madeCells,Nat.mod_one]
theorem Jf(w:World)(n:Nat)(hn:n<=1000):cq (w.alloc (.cells (madeCells #[.int .i64 0] n) 3)) w.heap.size (.slice (some ⟨w.heap.size,0,none⟩) n n) (List.replicate n 0):=by unfold cq;rw[List.length_replicate];refine⟨by simp,.inr ⟨w.heap.size,n,_,rfl,MI _,heap_alloc_new w _,MI _,by unfold maxLen;omega,by simp[size_madeCells],?_⟩⟩;rw[Je];simp
theorem cr.rws{B:Nat}{w:World}{v:Value}{qs:List (List Int×Value)}(h:cr B w v qs):oS w v (qs.map Prod.fst):=by
 obtain⟨a,c,rfl⟩:=bY h.own;refine⟨a,c,by rw[M6],λhp=>?_⟩;rw[M6] at hp;obtain⟨g,cap,e,_,hlt⟩:=h.own.form hp;simp only[M4] at e;obtain⟨rfl,_,rfl⟩:=e;refine⟨g,0,rfl,hlt,λi hi=>?_⟩;rw[M6] at hi;refine⟨qs[i].2,?_,?_⟩
 .rw[M1,MG h.own i (by omega)];simp[hi]
 .have e2:(qs.map Prod.fst).getD i []=qs[i].1:=by simp[MV,hi]
  rw[e2];exact vx (h.rows qs[i] (MS hi))
theorem Jg{p o:Int}{N:Nat}(hp:2<=p){cols:List (Nat×List Int)}{m:List Int}(hm:m.length=N){g:List (List Tm)}(hg:∀f∈g,cL p o N f):df p cols.length (fT cols (dG p o [(1,m)] g)):=by
 refine⟨by unfold fT;simp,λx hx=>?_⟩;unfold fT at hx;obtain⟨c,_,rfl⟩:=M5.1 hx;refine Ja (by omega) (λt ht=>?_) _;by_cases hc:c.1<g.length
 .rw[vA hc] at ht;have hm2:g.getD c.1 []∈g:=by rw[MV,MW hc];exact MS hc
  have:=(vy hp hm (hg _ hm2)).coef t ht;omega
 .rw[MV,MX (by unfold dG;rw[M6];omega)] at ht;simp at ht
theorem Bf{p o:Int}{N:Nat}(hp:2<=p){ds:List Int}{d:Int}{cols:List (Nat×List Int)}{vss:List (List (List Tm))}(hg:∀g∈vss,∀f∈g,cL p o N f):∀r∈vss.flatMap (gW p o N ds d cols),df p cols.length r:=λr hr=>by
 rw[Nt] at hr;obtain⟨g,hgm,hr⟩:=hr;unfold gW at hr;split at hr
 .obtain⟨m,hm,rfl⟩:=M5.1 hr;exact Jg hp (jV N _ m hm) (hg g hgm)
 .simp at hr
def kQ(ru:List (List Int×Value)):List Value:=ru.map Prod.snd
end Go.Proofs.YteimdcndjjclnaaGreat
