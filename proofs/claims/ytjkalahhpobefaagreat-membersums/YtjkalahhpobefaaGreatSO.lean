/- The filled rows are a. -/
import Derived.Test.YtjkalahhpobefaaGreatSL
import Derived.Test.YtjkalahhpobefaaGreatDQ
import Derived.Test.YtjkalahhpobefaaGreatSH
set_option maxHeartbeats 2000000
set_option maxRecDepth 100000
namespace Go.Proofs.YtjkalahhpobefaaGreat
set_option linter.all false
open Go.Proofs.Tryz Go.RowKit
structure lK(p:Int)(N w n:Nat)(ds:PI)(j:Nat)(v:PB):Prop where
 ex:∃fs E,cM p N w n E 0 fs/\(∀t∈fs,t.pl<w)/\E<=ds.getD j 0/\cM p N w n E 0 (fs++[dO w j])/\v=eE (bn w ds) (ds.getD j 0) (fs++[dO w j])
variable{v:PB}{j N w n:Nat}{ds:PI}{p:Int}
theorem lK.vcS(h:lK p N w n ds j v):dR p (bn w ds) N w n (ds.getD j 0) v/\v≠[]:=by obtain⟨fs,E,h1,h2,h3,h4,rfl⟩:=h.ex;exact⟨K3 h4 (wQ h1 h2 h3),by simp[eE]⟩
theorem K5:ah {dO w j with z:=fD (bn w ds) (ds.getD j 0) (dO w j)}=(w+j,0,0,0,0):=by
 have e:fD (bn w ds) (ds.getD j 0) (dO w j)=0:=by show ds.getD j 0-(0+0+0)-bn w ds (((w+j:Nat):Int).toNat)=0;rw[Int.toNat_natCast];unfold bn;rw[OV (by omega),Nat.add_sub_cancel_left];omega
 rw[e];show ((((w+j:Nat):Int)).toNat,_,_,_,_)=_;rw[Int.toNat_natCast];rfl
theorem lK.co(h:lK p N w n ds j v)(m:Nat)(y:C4.Mt):C4.co (aK v) (w+m,y)=if m=j/\y=(0,0,0,0) then 1 else 0:=by
 obtain⟨fs,E,h1,h2,h3,h4,rfl⟩:=h.ex;have e1:C4.co (aK (eE (bn w ds) (ds.getD j 0) (fs++[dO w j]))) (w+m,y)=aq (Gb.dl (w+m,y)) (eE (bn w ds) (ds.getD j 0) (fs++[dO w j])):=rfl;have e2:eE (bn w ds) (ds.getD j 0) (fs++[dO w j])=eE (bn w ds) (ds.getD j 0) fs++[{dO w j with z:=fD (bn w ds) (ds.getD j 0) (dO w j)}]:=by simp[eE]
 rw[e1,e2,ku,cV,fl,K5];have e3:aq (Gb.dl (w+m,y)) (eE (bn w ds) (ds.getD j 0) fs)=0:=by refine Gb.jl λx hx=>?_;obtain⟨t,ht,rfl⟩:=OR.1 hx;obtain⟨u,hu,rfl⟩:=OR.1 ht;have hpl:=h2 u hu;have hp0:=(h1.gd u hu).pl0;unfold Gb.dl;rw[OV];intro e;have e5:=congrArg Prod.fst e;have e6:u.pl.toNat=w+m:=e5;omega
 rw[e3];have e4:({dO w j with z:=fD (bn w ds) (ds.getD j 0) (dO w j)}:Ft).c=1:=rfl;rw[e4];unfold Gb.dl;by_cases hm:m=j/\y=(0,0,0,0)
 .rw[OW hm,OW]
  .rfl
  .rw[hm.1,hm.2]
 .rw[OV hm,OV]
  .rfl
  .intro e;simp only[Prod.mk.injEq] at e;apply hm;refine⟨by omega,?_⟩;obtain⟨_,rfl⟩:=e;rfl
theorem CA{p:Int}{nb:Nat}{d:Nat->Nat}{G:Gb.bu (C4.aN nb d) p}{c:Nat->Nat}:∀{n:Nat} {h:Nat×(C4.Tt->Int)},h∈C4.gl G c n->∃i,i<n/\h=(c i,C4.co (G.g i))
 |0,h,hm=>by simp[C4.gl] at hm
 |n+1,h,hm=>by
  simp only[C4.gl,OY] at hm;rcases hm with rfl|hm
  .exact⟨n,by omega,rfl⟩
  .obtain⟨i,hi,e⟩:=CA hm;exact⟨i,by omega,e⟩
def sP(w:Nat):Nat->List Nat
 |0=>[]
 |m+1=>(w+m)::sP w m
theorem CB(w:Nat):∀m,(sP w m).Perm ((List.range m).map (w+·))
 |0=>List.Perm.refl _
 |m+1=>by rw[List.range_succ,O0];exact((CB w m).cons _).trans (by simpa using (List.perm_append_singleton (w+m) ((List.range m).map (w+·))).symm)
variable{vs:PC}
theorem K6(hx:bB p (bn w ds) N w n)(hl:vs.length=n)(hv:∀j v,vs[j]?=some v->lK p N w n ds j v):o7 p (bn w ds) w n vs:=by
 have hg:∀m (hm:m<vs.length),(aE p (bn w ds) w vs).g m=aK vs[m]:=λm hm=>qY hm;have key:∀m,m<=n->C4.Un p (dN (bn w ds)) (sP w m) (C4.gl (aE p (bn w ds) w vs) (λi=>aZ (bn w ds) ((aE p (bn w ds) w vs).ld i)) m):=by
  intro m;induction m with
  |zero=>intro _;exact trivial
  |succ m ih=>
   intro hm;have hml:m<vs.length:=by omega
   have hr:=hv m vs[m] (OI hml);refine⟨?_,λy=>?_,λh hh y=>?_,ih (by omega)⟩
   .obtain⟨h1,h2⟩:=hr.vcS;have e:(aE p (bn w ds) w vs).ld m=ii vs[m]:=by show ii (vs.getD m [])=_;rw[OH,OI hml];rfl
    have e2:dN (bn w ds) (w+m)=(ds.getD m 0).toNat:=by unfold dN bn;rw[OV (by omega),Nat.add_sub_cancel_left]
    show dN (bn w ds) (w+m)=aZ (bn w ds) ((aE p (bn w ds) w vs).ld m);rw[e,e2];generalize vs[m]=v at h1 h2;cases v with
    |nil=>exact absurd rfl h2
    |cons t r=>exact((h1.gd t (by simp)).ts hx).1.symm
   .show p∣C4.co ((aE p (bn w ds) w vs).g m) (w+m,y)-_;rw[hg m hml,hr.co m y];refine⟨0,?_⟩;by_cases hy:y=(0,0,0,0)
    .rw[OW ⟨rfl,hy⟩,OW hy];omega
    .rw[OV (λh=>hy h.2),OV hy];omega
   .obtain⟨i,hi,rfl⟩:=CA hh;show p∣C4.co ((aE p (bn w ds) w vs).g i) (w+m,y);rw[hg i (by omega),(hv i _ (OI (by omega))).co m y,OV (λh=>by omega)];exact⟨0,by omega⟩
 exact⟨hl,sP w n,CB w n,key n (Ou _)⟩
variable{t:Ft}{D:Int}{dg:Nat->Int}
theorem CC(hx:bB p dg N w n)(g:aS dg N w n D t):bk N w n D D (bJ t):=by have h1:=hx.dg t.pl.toNat (by have:=g.pl0;have:=g.pl;omega);have h2:=g.deg;have h3:=g.z;exact⟨g.k,g.a,g.b,g.d,rfl,g.pl0,g.pl,g.n1,g.n2,λ_=>by show t.a+t.b+t.d<=D;omega,λ_=>by show t.a+t.b+t.d<=D;omega⟩
theorem K7(hx:bB p dg N w n)(hD:D<=4801){L:Ft}{r:PB}(h:iE p dg N w n D L r):dX p N w n (bJ L) (r.map bJ):=by
 have gL:=CC hx (h.gd L (by simp));have hL:gO (bJ L)<=D:=by
  by_cases c:(bJ L).pl<w
  .exact gL.own c
  .exact gL.oth c
 refine⟨⟨?_,λt ht=>?_,λt ht=>?_⟩,by omega⟩
 .have:=h.dn;unfold Dn at this⊢;rw[show bJ L::r.map bJ=(L::r).map bJ from rfl,List.pairwise_map];exact this
 .rw[show bJ L::r.map bJ=(L::r).map bJ from rfl] at ht;obtain⟨u,hu,rfl⟩:=OR.1 ht;exact h.co u hu
 .rw[show bJ L::r.map bJ=(L::r).map bJ from rfl] at ht;obtain⟨u,hu,rfl⟩:=OR.1 ht;have g:=CC hx (h.gd u hu);have hk:(bJ u).k<=(bJ L).k:=by
   rcases OY.1 hu with rfl|hu
   .exact Int.le_refl _
   .exact Int.le_of_lt (h.dn.head u hu)
  have cases:((bJ u).pl<w->(bJ L).pl<w/\gO (bJ u)<=gO (bJ L))/\(¬(bJ u).pl<w->¬(bJ L).pl<w->gO (bJ u)<=gO (bJ L)):=by
   have l1:=g.lin hx.n0 hx.n3;have l2:=gL.lin hx.n0 hx.n3;have a1:=g.a;have a2:=g.b;have a3:=g.d;have a4:=g.pl0;have a5:=g.pl;have c1:=gL.a;have c2:=gL.b;have c3:=gL.d;have c4:=gL.pl0;have c5:=gL.pl;have w3:=hx.hw;have n4:=hx.hn;have du:gO (bJ u)<=D:=by
    by_cases c:(bJ u).pl<w
    .exact g.own c
    .exact g.oth c
   unfold gO at*;unfold iM at l1 l2;constructor
   .intro c;rw[OW c] at l1;by_cases cL:(bJ L).pl<w
    .rw[OW cL] at l2;exact⟨cL,by omega⟩
    .rw[OV cL] at l2;omega
   .intro c cL;rw[OV c] at l1;rw[OV cL] at l2;omega
  refine⟨g.k,g.a,g.b,g.d,g.z,g.pl0,g.pl,g.n1,g.n2,λc=>?_,λc=>?_⟩
  .have h1:=cases.1 c;unfold eA;rw[OW h1.1];exact h1.2
  .unfold fA;have:=g.oth c;have g1:=gL.a;have g2:=gL.b;have g3:=gL.d;by_cases cL:(bJ L).pl<w
   .rw[OW cL];unfold gO;omega
   .rw[OV cL];exact cases.2 c cL
variable{T:Int}{E:Nat->Nat->Prop}{ms:PD}
theorem K8(hx:bB p dg N w n){qs:PF}(h:Cs p dg N w n vs ms qs E T):∀f∈dz ms,∃L r,f=L::r/\dX p N w n L r/\bp p (fo vs) λφ=>aq φ (L::r):=λf hf=>by obtain⟨x,hx1,rfl⟩:=OR.1 hf;have hxm:=(O5.1 hx1).1;obtain⟨D,hD,hm⟩:=h.mb x hxm;refine⟨bJ x.L,x.r.map bJ,rfl,K7 hx hD hm,?_⟩;have h2:=FQ (h.mx x hxm D hm);refine h2.congr λφ=>⟨0,?_⟩;have e:=uy φ (x.L::x.r);show aq φ ((x.L::x.r).map bJ)-_=_;rw[e];omega
variable{Y:Gb.Fn C4.Tt}
theorem La(hx:bB p dg N w n)(h:Cs p dg N w n vs ms [] E T)(hE:eO p dg w ms E)(hvl:vs.length=n)(hY:bp p (fo vs) Y){t:C4.Tt}(hz:t.2.2.2.2=0)(ht:t.1<w)(hn:¬p∣Y (Gb.dl t))(hab:∀u:C4.Tt,u.2.2.2.2=0->u.1<w->gr w t u->p∣Y (Gb.dl u)):∃L r,(L::r)∈dz ms/\C4.bR.dv (ah L) t:=by obtain⟨x,hxm,hg,hd⟩:=FS hx h hE hvl hY hz ht hn hab;refine⟨bJ x.L,x.r.map bJ,OR.2 ⟨x,O5.2 ⟨hxm,by simp[hg]⟩,rfl⟩,?_⟩;rw[ux];exact hd
theorem wR{τ:Type}[DecidableEq τ](g:τ->Int)(x:τ):∀l:List (Int×τ),Gb.ln g l=g x*Gb.ln (Gb.dl x) l+Gb.ln g (l.filter λy=>decide (y.2≠x))
 |[]=>by simp[Gb.ln]
 |y::l=>by
  have ih:=wR g x l;by_cases h:y.2=x
  .rw[List.filter_cons_of_neg (by simp[h])];simp only[Gb.ln];rw[ih];have e:Gb.dl x y.2=1:=by unfold Gb.dl;rw[OW h]
   rw[e,h];grind
  .rw[List.filter_cons_of_pos (by simp[h])];simp only[Gb.ln];rw[ih];have e:Gb.dl x y.2=0:=by unfold Gb.dl;rw[OV h]
   rw[e];grind
theorem wS{p:Int}{τ:Type}[DecidableEq τ]:∀(k:Nat) (l:List (Int×τ)),l.length<=k->(∀x,p∣Gb.ln (Gb.dl x) l)->∀g:τ->Int,p∣Gb.ln g l
 |_,[],_,_,g=>⟨0,by simp[Gb.ln]⟩
 |0,y::l,h,_,_=>by simp at h
 |k+1,y::l,hl,h,g=>by
  rw[wR g y.2 (y::l)];refine Int.dvd_add (Int.dvd_mul_of_dvd_right (h y.2)) (wS k _ ?_ (λx=>?_) g)
  .rw[List.filter_cons_of_neg (by simp)];have:=Pc (λz:Int×τ=>decide (z.2≠y.2)) l;simp at hl;omega
  .have e:=wR (Gb.dl x) y.2 (y::l);obtain⟨a,ha⟩:=h x;obtain⟨b,hb⟩:=h y.2;rw[ha,hb] at e;have e3:p*(Gb.dl x y.2*b)=Gb.dl x y.2*(p*b):=by grind
   exact⟨a-Gb.dl x y.2*b,by rw[Int.mul_sub];omega⟩
theorem wT(ra:List (List (Int×C4.Tt)))(φ:C4.Tt->Int):∀rp:List (Int×C4.Mt×Nat),cP ra φ rp=Gb.ln (λx:C4.Mt×Nat=>Gb.ln (λt=>φ (C4.aw x.1 t)) (ra.getD x.2 [])) rp
 |[]=>rfl
 |r::rp=>by simp only[cP,Gb.ln];rw[wT ra φ rp]
def oz(w:Nat)(ra:List (List (Int×C4.Tt))):Prop:=∀i,i<ra.length->∀m y,Gb.ln (Gb.dl (w+m,y)) (ra.getD i [])=if m=i/\y=(0,0,0,0) then 1 else 0
variable{ra:List (List (Int×C4.Tt))}
theorem Lb(h:oz w ra){i:Nat}(hi:i<ra.length)(j:Nat)(m y:C4.Mt):Gb.ln (λt=>Gb.dl (w+j,y) (C4.aw m t)) (ra.getD i [])=Gb.dl (y,j) (m,i):=by
 obtain⟨m1,m2,m3,m4⟩:=m;obtain⟨y1,y2,y3,y4⟩:=y;by_cases hle:m1<=y1/\m2<=y2/\m3<=y3/\m4<=y4
 .have e:(λt=>Gb.dl (w+j,y1,y2,y3,y4) (C4.aw (m1,m2,m3,m4) t))=Gb.dl (w+j,y1-m1,y2-m2,y3-m3,y4-m4):=by
   funext t;obtain⟨t0,t1,t2,t3,t4⟩:=t;unfold Gb.dl;have:C4.aw (m1,m2,m3,m4) (t0,t1,t2,t3,t4)=(w+j,y1,y2,y3,y4)↔(t0,t1,t2,t3,t4)=(w+j,y1-m1,y2-m2,y3-m3,y4-m4):=by unfold C4.aw C4.bH;simp only[Prod.mk.injEq];omega
   simp only[this]
  rw[e,h i hi j];unfold Gb.dl;by_cases c:((m1,m2,m3,m4),i)=((y1,y2,y3,y4),j)
  .rw[OW c,OW];simp only[Prod.mk.injEq] at c⊢;omega
  .rw[OV c,OV];intro c2;apply c;simp only[Prod.mk.injEq] at c2⊢;omega
 .have e:(λt=>Gb.dl (w+j,y1,y2,y3,y4) (C4.aw (m1,m2,m3,m4) t))=λ_=>0:=by funext t;obtain⟨t0,t1,t2,t3,t4⟩:=t;unfold Gb.dl;rw[OV];intro c;unfold C4.aw C4.bH at c;simp only[Prod.mk.injEq] at c;omega
  rw[e,Gb.jl λ_ _=>rfl];unfold Gb.dl;rw[OV];intro c;simp only[Prod.mk.injEq] at c;omega
theorem CD{w:Nat}{ra:List (List (Int×C4.Tt))}(h:oz w ra)(j:Nat)(y:C4.Mt):∀rp:List (Int×C4.Mt×Nat),(∀r∈rp,r.2.2<ra.length)->cP ra (Gb.dl (w+j,y)) rp=Gb.ln (Gb.dl (y,j)) rp
 |[],_=>rfl
 |r::rp,hr=>by simp only[cP,Gb.ln];rw[CD h j y rp λx hx=>hr x (by simp[hx]),Lb h (hr r (by simp)) j r.2.1 y]
theorem pV{τ:Type}(g:τ->Int):∀l:List (Int×τ),Gb.ln g (l.map λr=>(-r.1,r.2))=-Gb.ln g l
 |[]=>rfl
 |x::l=>by simp only[List.map_cons,Gb.ln];rw[pV g l];grind
def gC(ws:PB):List (Int×C4.Mt×Nat):=ws.map λt=>(t.c,bY t,t.pl.toNat)
theorem Lc(h:oz w ra)(hY:bp p ra Y){rq:List (Int×C4.Mt×Nat)}(hq:∀r∈rq,r.2.2<ra.length)(hc:∀j y,p∣Y (Gb.dl (w+j,y))-Gb.ln (Gb.dl (y,j)) rq)(φ:C4.Tt->Int):p∣Y φ-cP ra φ rq:=by
 obtain⟨rp,h1,h2⟩:=hY;have hz:=wS (p:=p) _ (rp++rq.map λr=>(-r.1,r.2)) (Ou _) (λx=>by
  obtain⟨y,j⟩:=x;rw[pL,pV];have a:=h2 (Gb.dl (w+j,y));rw[CD h j y rp λr hr=>(h1 r hr).2] at a;obtain⟨a,ha⟩:=a;obtain⟨b,hb⟩:=hc j y;exact⟨b-a,by rw[Int.mul_sub];omega⟩) (λx:C4.Mt×Nat=>Gb.ln (λt=>φ (C4.aw x.1 t)) (ra.getD x.2 []))
 rw[pL,pV,<-wT,<-wT] at hz;obtain⟨a,ha⟩:=hz;obtain⟨b,hb⟩:=h2 φ;exact⟨a+b,by rw[Int.mul_add];omega⟩
theorem CF{w j:Nat}{y:C4.Mt}:∀{v:PB},(∀t∈v,0<=t.pl)->Gb.ln (Gb.dl (y,j)) (gC (cZ w v))=aq (Gb.dl (w+j,y)) v
 |[],_=>rfl
 |t::v,h=>by
  have ih:=CF (w:=w) (j:=j) (y:=y) (v:=v) λu hu=>h u (by simp[hu]);have h0:=h t (by simp);rw[cV];by_cases c:(w:Int)<=t.pl
  .have e:gC (cZ w (t::v))=(t.c,bY t,(t.pl-w).toNat)::gC (cZ w v):=by unfold gC cZ;rw[List.filter_cons_of_pos (by simpa using c)];rfl
   rw[e];simp only[Gb.ln];rw[ih];congr 2;unfold Gb.dl;have:(bY t,(t.pl-w).toNat)=(y,j)↔ah t=(w+j,y):=by obtain⟨y1,y2,y3,y4⟩:=y;unfold bY ah;simp only[Prod.mk.injEq];omega
   simp only[this]
  .have e:gC (cZ w (t::v))=gC (cZ w v):=by unfold gC cZ;rw[List.filter_cons_of_neg (by simpa using c)]
   rw[e,ih];have:Gb.dl (w+j,y) (ah t)=0:=by unfold Gb.dl;rw[OV];intro e;have e2:t.pl.toNat=w+j:=congrArg Prod.fst e;omega
   rw[this];omega
def wU(N w:Nat)(s:C4.Tt):Int:=gq w (s.1:Int) ([(s.2.1:Int),(s.2.2.1:Int),(s.2.2.2.1:Int)].take N)
variable{F:Int}
theorem Lf{E:Int}(g:bk N w n E F t):wU N w (ah t)=t.k:=by rw[g.k];unfold wU ah aD;rw[Int.toNat_of_nonneg g.pl0,Int.toNat_of_nonneg g.a,Int.toNat_of_nonneg g.b,Int.toNat_of_nonneg g.d]
def jF(N w:Nat)(k:Int)(s:C4.Tt):Int:=if wU N w s=k then 1 else 0
theorem pW{N w n:Nat}{E F:Int}{k:Int}:∀{f:PB},(∀t∈f,bk N w n E F t)->ao k f=aq (jF N w k) f
 |[],_=>rfl
 |t::f,h=>by
  rw[cV,<-pW λu hu=>h u (by simp[hu])];simp only[ao];unfold jF;rw[Lf (h t (by simp))];by_cases c:t.k=k
  .rw[OW c,OW c];omega
  .rw[OV c,OV c];omega
structure oA(p:Int)(N n:Nat)(F:Int)(t:Ft):Prop where
 a:0<=t.a
 b:0<=t.b
 d:0<=t.d
 z:t.z=0
 k:-1000000000000000000<=t.k/\t.k<=1000000000000000000
 pl0:0<=t.pl
 pl:t.pl<n
 n1:N<=1->t.b=0
 n2:N<=2->t.d=0
 dg:t.a+t.b+t.d<=F
 c:0<t.c/\t.c<p
theorem Lg(hx:ch p N w n){E:Int}(hE:E<=9700)(hF:F<=9700)(h:cM p N w n E F v):∀t∈cZ w v,oA p N n F t:=λt ht=>by
 obtain⟨u,hu,rfl⟩:=OR.1 ht;obtain⟨hu,hw⟩:=O5.1 hu;have hw:(w:Int)<=u.pl:=by simpa using hw
 have g:=h.gd u hu;have hk:=g.kb hx hE hF;have:=g.pl;exact⟨g.a,g.b,g.d,g.z,⟨by show-1000000000000000000<=u.k;omega,by show u.k<=1000000000000000000;omega⟩,by show 0<=u.pl-w;omega,by show u.pl-w<n;omega,g.n1,g.n2,g.oth (by omega),h.co u hu⟩
theorem CG(hx:ch p N w n){f:PB}(hf:cM p N w n 3 0 f)(hF:F<=9602)(ht:oA p N n F t):aG p (bk N w n 9605 9605) [f.map (aJ p (t.a*am 1 N N 0+t.b*am 1 N N 1+t.d*am 1 N N 2) t)]:=by
 have he:t={t with c:=t.c}:=rfl;refine⟨λr hr=>?_,λr hr x hxm=>?_,λr hr x hxm=>?_⟩<;>(rw[OL] at hr;subst hr)
 .unfold Dn;rw[List.pairwise_map];exact hf.dn.imp fun {a b} h=>by simp only[aJ];omega
 .obtain⟨u,hu,rfl⟩:=OR.1 hxm;have h1:=hf.co u hu;have h2:=ht.c;have:=mi hx.pr (show 1<=u.c by omega) h1.2 (show 1<=t.c by omega) h2.2;simp only[aJ];omega
 .obtain⟨u,hu,rfl⟩:=OR.1 hxm;have g:=hf.gd u hu;have:=ht.dg;rw[he];refine bk.mul hx g (kX hx.n0 hx.n3) ht.a ht.b ht.d ht.z ht.n1 ht.n2 (λhw=>?_) (λhw=>?_)
  .have:=g.own hw;omega
  .have:=g.oth hw;omega
theorem CH{p:Int}{N w n:Nat}(hx:ch p N w n){rows:PC}(hr:∀f∈rows,cM p N w n 3 0 f)(hl:rows.length=n){F:Int}(hF:F<=9602)(k:Int):∀{ws:PB},(∀t∈ws,oA p N n F t)->p∣fV p (am 1 N N 0) (am 1 N N 1) (am 1 N N 2) rows k ws-cP (rows.map aK) (jF N w k) (gC ws)
 |[],_=>⟨0,by simp[fV,gC,cP]⟩
 |t::ws,h=>by
  obtain⟨a,ha⟩:=CH hx hr hl hF k (ws:=ws) λu hu=>h u (by simp[hu]);have ht:=h t (by simp);have hpl:t.pl.toNat<rows.length:=by have:=ht.pl;have:=ht.pl0;omega
  have hrow:rows.getD t.pl.toNat []∈rows:=by rw[OH,OI hpl];exact OE hpl
  have hf:=hr _ hrow;have e1:(rows.map aK).getD t.pl.toNat []=aK (rows.getD t.pl.toNat []):=by rw[OH,OH,List.getElem?_map,OI hpl];rfl
  have hok:=CG hx hf hF ht;have e2:=pW (k:=k) (hok.gd _ (List.mem_singleton_self _));obtain⟨b,hb⟩:=nl (p:=p) (more:=t.a*am 1 N N 0+t.b*am 1 N N 1+t.d*am 1 N N 2) (c:=t.c) (bt:=t) ht.a ht.b ht.d (by rw[ht.z];omega) (jF N w k) (rows.getD t.pl.toNat []) λu hu=>⟨(hf.gd u hu).a,(hf.gd u hu).b,(hf.gd u hu).d,by rw[(hf.gd u hu).z];omega⟩;have e3:cP (rows.map aK) (jF N w k) (gC (t::ws))=t.c*aq (λs=>jF N w k (C4.aw (bY t) s)) (rows.getD t.pl.toNat [])+cP (rows.map aK) (jF N w k) (gC ws):=by show t.c*Gb.ln _ ((rows.map aK).getD t.pl.toNat [])+_=_;rw[e1];rfl
  rw[e3];simp only[fV];rw[e2];refine⟨a+b,?_⟩;rw[Int.mul_add];have hb':aq (jF N w k) ((rows.getD t.pl.toNat []).map (aJ p (t.a*am 1 N N 0+t.b*am 1 N N 1+t.d*am 1 N N 2) t))-t.c*aq (λs=>jF N w k (C4.aw (bY t) s)) (rows.getD t.pl.toNat [])=p*b:=hb;clear hb;omega
theorem Lh(hx:ch p N w n){rows:PC}(hr:∀f∈rows,cM p N w n 3 0 f)(hl:rows.length=n)(hun:oz w (rows.map aK))(hF:F<=9602){ws:PB}(hw:∀t∈ws,oA p N n F t)(hv:cM p N w n 9605 9605 v)(haf:bp p (rows.map aK) λφ=>aq φ v)(hc:∀j y,p∣aq (Gb.dl (w+j,y)) v-Gb.ln (Gb.dl (y,j)) (gC ws)){acc:PB}(ha:nP p (bk N w n 9605 9605) (λk=>fV p (am 1 N N 0) (am 1 N N 1) (am 1 N N 2) rows k ws) acc):acc=v:=by
 refine wV hx (E:=9605) (F:=9605) (by omega) (by omega) hv ⟨ha.dn,ha.co,ha.gd⟩ λk=>?_;obtain⟨a,e1⟩:=ha.cn k;obtain⟨b,e2⟩:=CH hx hr hl hF k hw;obtain⟨c,e3⟩:=Lc hun haf (rq:=gC ws) (λr hr=>by
  obtain⟨t,ht,rfl⟩:=OR.1 hr;have:=(hw t ht).pl;have:=(hw t ht).pl0;show t.pl.toNat<_;rw[OS];omega) hc (jF N w k)
 rw[pW hv.gd];exact⟨a+b-c,by rw[Int.mul_sub,Int.mul_add];omega⟩
theorem CI(p:Int)(N wd n:Nat)(hx:ch p N wd n)(ob:Nat)(sv wv rv:PK)(ws:PB)(rows:PC)(w:PJ)(hob:aQ w ob p (am 1 N N 0) (am 1 N N 1) (am 1 N N 2) sv)(hw:Fv w wv ws)(hrv:nR w rv rows)(hr:∀f∈rows,cM p N wd n 3 0 f)(hl:rows.length=n)(hun:oz wd (rows.map aK))(F:Int)(hF:F<=9602)(hwy:∀t∈ws,oA p N n F t)(hwl:ws.length<=1200000000000)(v:PB)(hv:cM p N wd n 9605 9605 v)(haf:bp p (rows.map aK) λφ=>aq φ v)(hc:∀j y,p∣aq (Gb.dl (wd+j,y)) v-Gb.ln (Gb.dl (y,j)) (gC ws)):Calls prog 83 #[PL ob,wv,rv] w λe w'=>∃u,e=.returned u/\w'.ownsRow w.heap.size 88 7 u v.length (aA v)/\Io w w':=by
 have hp:=dY hx.pr;refine(G3 ob p _ _ _ sv wv rv ws rows (bk N wd n 9605 9605) w hob hp (dZ 1 N 0) (dZ 1 N 1) (dZ 1 N 2) hw hrv hwl (by have:=hx.hn;omega) (λt ht=>⟨(hwy t ht).pl0,by rw[hl];exact(hwy t ht).pl⟩) (λt ht=>?_) (λf hf=>⟨λu hu=>?_,?_⟩) (λt ht=>?_) bk.alk (jR hx (by omega) (by omega)) (λt g=>?_)).mono ?_
 .have h:=hwy t ht;have:=hx.hn;have:=h.a;have:=h.b;have:=h.d;have:=h.z;have:=h.dg;have:=h.pl;have:=h.pl0;have:=h.c;have:=h.k;exact⟨h.k,by omega,by omega,by omega,by omega,by omega,by omega⟩
 .have h:=(hr f hf).co u hu;exact((hr f hf).gd u hu).fok hx (by omega) (by omega) (by omega)
 .have:=jR hx (E:=3) (F:=0) (by omega) (by omega) f (hr f hf).dn (hr f hf).gd;omega
 .have h:=hwy t ht;have hpl:t.pl.toNat<rows.length:=by have:=h.pl;have:=h.pl0;omega
  exact CG hx (hr _ (by rw[OH,OI hpl];exact OE hpl)) hF h
 .have:=(g.kb hx (by omega) (by omega)).1;omega
 .rintro e w' ⟨u,acc,rfl,h1,h2,h3⟩;have e:=Lh hx hr hl hun hF hwy hv haf hc h3;subst e;exact⟨u,rfl,h1,h2⟩
end Go.Proofs.YtjkalahhpobefaaGreat
namespace Go.Proofs.YtjkalahhpobefaaGreat
set_option linter.all false
open Go.Proofs.Tryz Go.RowKit Go.Sort
def iu(v:Int)(m:Nat):PC:=(List.range m).map λi:Nat=>[dI (bS v (i:Int)) (i:Int)]
theorem Li(v:Int)(m:Nat):iu v (m+1)=iu v m++[[dI (bS v (m:Int)) (m:Int)]]:=by unfold iu;rw[List.range_succ];simp
theorem lL(v:Int)(m:Nat):(iu v m).length=m:=by simp[iu]
theorem Lj(W:PJ)(t:Ft)(A:Obj):eU ((W.alloc (.cells #[PO t.k,PP t.a,PP t.b,PP t.d,PP t.z,PQ t.pl,PQ t.c] 88)).alloc A) (PM W.heap.size 1 1):=by refine eU.below (λb off n c e=>?_) ai;simp only[OQ,OP,Addr.mk.injEq,and_true] at e;obtain⟨⟨rfl,rfl⟩,_,_⟩:=e;exact⟨_,heap_alloc_new W _⟩
theorem Lk(p o v:Int)(N C:Nat)(w:PJ)(hp:2<=p/\p<=101)(ho:o=1\/o=2)(hv:v=1\/v=2)(hn:N<=3)(hC:C<=200):Calls prog 82 #[aI p N o v,PO C] w λe w'=>∃uv us,e=.returned uv/\aM w.heap.size w' uv us (iu v C)/\Io w w'/\∀u∈us,eU w' u:=by
 obtain⟨w1,hw1⟩:∃w1,w1=w.alloc (.cells #[PO p,PO N,PO o,PO v] 23):=⟨_,rfl⟩;have HB1:Po (Io w w1):=by rw[hw1];exact ai
 obtain⟨c0,c1,c2,c3⟩:w1.cell? (PN w.heap.size 0)=some (PO p)/\w1.cell? (PN w.heap.size 1)=some (PO N)/\w1.cell? (PN w.heap.size 2)=some (PO o)/\w1.cell? (PN w.heap.size 3)=some (PO v):=by rw[hw1];simp[go_sem]
 have HO:=ae (rC p o v N C 0 w1 hp ho hv hn hC (by omega));obtain⟨i1,hi,hz0,hz1,hz2⟩:=info_parts Tryz.infoFvL;have HIV:=ae (Ow hi (Ow hz0 (Ow hz1 hz2)));clear hi hz0 hz1 hz2;unfold aI at HO⊢;clear hp ho hv;go_enter func82,ntmps82;go_upto_region 1 with fail;rw[<-hw1];clear hw1;go_wp2_with (go_at_call 40;refine HO.o.mono ?_;rintro e w2 ⟨ob,sv,rfl,q1,q2,q3⟩;have HOB:=ae q1;have HSL:=ae q2;have HB2:=ae (In HB1.o q3);clear q1 q2 q3);have HUN:Po (∀m:Nat,m<C->∀W,Io w2 W->Calls prog 114 #[PL ob,PO m] W λe w'=>e=.returned (aX (dI (bS v (m:Int)) (m:Int)))/\Io W w'):=λm hm W hb=>by
  have h:=vt ob m p _ _ _ sv _ W (HOB.o.below hb) (HSL.o.below hb) (by simp;omega) (by omega);have e:(((List.range C).map (λi:Nat=>bS v (i:Int))++(List.range 0).map λi:Nat=>fE+bS 1 (i:Int)).getD m 0)=bS v (m:Int):=by rw[OH];simp[hm]
  rw[e] at h;exact h
 unfold aX at HUN;go_loopw [6,12] (λs6 s12 wr=>∃(m:Nat)(us:PH),m<=C/\s12=PO m/\(∃a c,s6=.slice a m c)/\aM w2.heap.size wr s6 us (iu v m)/\Io w2 wr/\∀u∈us,eU wr u) (λ_ s12 _=>C-(intOf s12).toNat);case atStart=>exact⟨0,[],OB _,rfl,⟨none,0,rfl⟩,aM.nil _ _,Ov _ _,λu hu=>by simp at hu⟩
 case round=>
  rename PJ=>wr;obtain⟨m,us,hm,rfl,⟨sa,sc,rfl⟩,hrw,hbr2,hty⟩:=hrel;have HRW:=ae hrw;have HBR2:=ae hbr2;have HTY:=ae hty;clear hrw hbr2 hty;by_cases hm2:m<C
  .have hmI:(m:Int)<(C:Int):=by omega
   have HU:=ae (HUN.o m hm2 wr HBR2.o);have HNX:=ae (Li v m);generalize dI (bS v (m:Int)) (m:Int)=un at HU HNX;go_wp2_with (first|(go_at_call 114;refine HU.o.mono ?_;rintro e w3 ⟨rfl,q1⟩;have HB3:=ae q1;have HTW:=ae (In q1 (cY (w:=w3) (A:=.cells #[PO un.k,PP un.a,PP un.b,PP un.d,PP un.z,PQ un.pl,PQ un.c] 88) (B:=.cells #[PM w3.heap.size 1 1] 79)));have HR3:=ae (HRW.o.next HTW.o);have HT3:Po (∀u∈us,eU ((w3.alloc (.cells #[PO un.k,PP un.a,PP un.b,PP un.d,PP un.z,PQ un.pl,PQ un.c] 88)).alloc (.cells #[PM w3.heap.size 1 1] 79)) u):=λu hu=>(HTY.o u hu).below HTW.o;have HFU:Po (Fv ((w3.alloc (.cells #[PO un.k,PP un.a,PP un.b,PP un.d,PP un.z,PQ un.pl,PQ un.c] 88)).alloc (.cells #[PM w3.heap.size 1 1] 79)) (PM w3.heap.size 1 1) [un]):=(show Fv _ _ [un] from fU (dr (w:=w3) (Ou _) un)).below ai;have HTU:=ae (Lj w3 un (.cells #[PM w3.heap.size 1 1] 79));have HBW2:=ae (In HBR2.o HTW.o);clear q1)|(at_builtin;refine pU rfl (.tmp 15) (.tmp 20) 76 rfl w2.heap.size 79 i1 underlying76 HIV.o.1 HIV.o.2.1 HIV.o.2.2.1 HIV.o.2.2.2 _ m us rfl (by have h:=HR3.o.own;rw[lL] at h;exact h) HR3.o.kind (PN (w3.heap.size+1) 0) 1 (PM w3.heap.size 1 1) ⟨_,_,_,rfl⟩ rfl (by simp[go_sem]) (by omega) HBW2.o.size ?_;intro v4 w4 r1 r2 r3;obtain⟨va4,vc4,hv4⟩:=cE r1;have HR4:=ae (HR3.o.add HFU.o (by rw[lL];exact r1) r2 r3);have HT4:=ae (wW HR3.o.own r2 HT3.o HTU.o);have HB24:=ae (eS HR3.o.own HBW2.o r2 (Ou _));subst hv4;clear r1 r2 r3));go_roundw;case rel=>exact⟨m+1,_,by omega,by go_num,⟨va4,vc4,rfl⟩,by rw[HNX.o];exact HR4.o,HB24.o,HT4.o⟩
   case measure=>simp[intOf];omega
  .have e:m=C:=by omega
   subst e;go_wp2;go_ret;exact⟨_,us,rfl,HRW.o.low HB2.o.size,In HB2.o HBR2.o,HTY.o⟩
theorem pX(w:PJ)(n B:Nat)(hn:n<=255)(hB:B<=w.heap.size):(w.alloc (.cells (madeCells #[PO 0] n) 3)).ownsRow B 3 1 (PM w.heap.size n n) n ((List.replicate n (0:Int)).map (Value.int .i64)):=wP (CJ w n hn) hB
theorem CK(ds:PI):∀u∈ds.map (Value.int .i64),u.oneCell'=true:=λu hu=>by obtain⟨d,_,rfl⟩:=OR.1 hu;rfl
variable{n:Nat}
theorem Ll{w:PJ}{B b c wd:Nat}{ds:PI}(hl:ds.length=n)(h:w.ownsRow B 3 1 (PM b (wd+n) c) (wd+n) ((List.replicate wd (0:Int)).map (Value.int .i64)++ds.map (Value.int .i64))):iI w (PM b (wd+n) c) (wd+n) (bn wd ds):=by
 refine⟨b,0,c,rfl,λpl hp=>?_⟩;rw[ON];have hc:=Oq h pl (by omega);rw[hc];unfold bn;by_cases hw:pl<wd
 .rw[OW hw,O4 (by simp;omega)];simp[hw]
 .rw[OV hw,O9 (by simp;omega)];simp only[OS,List.length_replicate,List.getElem?_map,OH];rw[OI (show pl-wd<ds.length by omega)];rfl
structure gD(p o:Int)(N R:Nat)(lss:PA):Prop where
 hx:bB p (bn R (lss.map fF)) N R lss.length
 r0:0<R
 len:∀g∈lss,g.length=R
 vok:∀g∈lss,kf p o N (λ_=>3) g
 tms:∀g∈lss,∀f∈g,f.length<=2000/\∀t∈f,t.2.length=N/\(∀e∈t.2,0<=e/\e<=400)/\0<=t.1/\t.1<=255
variable{lss:PA}{N R:Nat}{p o:Int}
theorem gD.deg(h:gD p o N R lss):∀v∈lss,v.length<=1000/\∀f∈v,f.length<=100000/\∀t∈f,0<t.2.length/\t.2.length<=3/\∀e∈t.2,0<=e/\e<=400:=λv hv=>by have:=h.len v hv;have:=h.hx.hw;have:=h.hx.n0;have:=h.hx.n3;refine⟨by omega,λf hf=>⟨by have:=(h.tms v hv f hf).1;omega,λt ht=>?_⟩⟩;have h2:=(h.tms v hv f hf).2 t ht;exact⟨by omega,by omega,h2.2.1⟩
def dE(R n:Nat):PI:=(List.range R).map (λi:Nat=>bS 1 (i:Int))++(List.range n).map λi:Nat=>fE+bS 1 (i:Int)
theorem wX(R n:Nat):(dE R n).length=R+n:=by simp[dE]
variable{i:Nat}
theorem Lm(h:i<R):(dE R n).getD i 0=bS 1 (i:Int):=by unfold dE;rw[OH,O4 (by simpa using h)];simp[h]
theorem Ln(h:i<n):(dE R n).getD (R+i) 0=fE+bS 1 (i:Int):=by unfold dE;rw[OH,O9 (by simp)];simp[h]
theorem wY(hR:R<=3)(hn:n<=4):∀s∈dE R n,-600000000000000000<=s/\s<=600000000000000000:=λs hs=>by
 unfold dE at hs;rcases OK.1 hs with hs|hs
 .obtain⟨i,hi,rfl⟩:=OR.1 hs;rw[List.mem_range] at hi;unfold bS;rw[OV (by decide)];omega
 .obtain⟨i,hi,rfl⟩:=OR.1 hs;rw[List.mem_range] at hi;unfold bS fE;rw[OV (by decide)];omega
theorem oB{N R n:Nat}{fss:Lt}:∀m,m<=R->eV (am 1 N N 0) (am 1 N N 1) (am 1 N N 2) (dE R n) fss m=dG 1 1 N fss m
 |0,_=>rfl
 |m+1,h=>by simp only[eV,dG];rw[oB m (by omega),Lm (by omega)];rfl
structure iP(p:Int)(N R:Nat)(ds:PI)(n:Nat)(rows:PC):Prop where
 len:rows.length=n
 at_:∀j,j<n->∃fs E,cM p N R n E 0 fs/\(∀t∈fs,t.pl<R)/\E<=ds.getD j 0/\0<=ds.getD j 0/\ds.getD j 0<=3/\cM p N R n E 0 (fs++[dO R j])/\rows.getD j []=fs++[dO R j]
theorem wZ(h:gD p o N R lss){rows:PC}(ht:iQ (am 1 N N 0) (am 1 N N 1) (am 1 N N 2) (dE R lss.length) R lss rows):iP p N R (lss.map fF) lss.length rows:=by
 refine⟨ht.len,λj hj=>?_⟩;obtain⟨fs,e,hp,hf⟩:=ht.at_ j hj;have hmem:lss.getD j []∈lss:=by rw[OH,OI hj];exact OE hj
 have hv:=h.vok _ hmem;have ed:(lss.map fF).getD j 0=fF (lss.getD j []):=by rw[OH,OH,List.getElem?_map,OI hj];rfl
 have hgt:∀(v:Lt) (i:Nat) (t:Tm),t∈v.getD i []->v.getD i []∈v:=λv i t ht=>by
  have hi:i<v.length:=by apply OU;intro hle;rw[OH,OJ hle] at ht;simp at ht
  rw[OH,OI hi];exact OE hi
 have hv2:kf p o N (λ_=>fF (lss.getD j [])) (lss.getD j []):=⟨hv.canon,hv.nn,λi t ht=>by
  exact(sQ _ 0).2 _ (hgt _ i t ht) t ht⟩
 rw[oB R (Ou _)] at hp;rw[Ln hj] at e;have h0:0<=fF (lss.getD j []):=(sQ _ 0).1;have h3:fF (lss.getD j [])<=3:=xe _ 0 (by omega) λf hf t ht=>by obtain⟨i,hi,e⟩:=Pm.1 hf;have:=hv.deg i t (by rw[OH,OI hi,e];exact ht);exact this
 have h1:=pY (n:=lss.length) (F:=0) (by omega) h.hx.acx hv2 hp hf;exact⟨fs,_,h1.1,h1.2,by rw[ed];exact Int.le_refl _,by rw[ed];exact h0,by rw[ed];exact h3,Lo (by omega) h.hx.acx hj hv2 hp hf,e⟩
end Go.Proofs.YtjkalahhpobefaaGreat
namespace Go.Proofs.YtjkalahhpobefaaGreat
set_option linter.all false
open Go.Proofs.Tryz Go.RowKit
variable{f:PB}{N n:Nat}{p:Int}
theorem cM.wide{w:Nat}{E F E2 F2:Int}(h:cM p N w n E F f)(hE:E<=E2)(hF:F<=F2):cM p N w n E2 F2 f:=⟨h.dn,h.co,λt ht=>(h.gd t ht).wide hE hF⟩
variable{rows:PC}{ds:PI}{R:Nat}
theorem iP.row(h:iP p N R ds n rows):∀f∈rows,cM p N R n 3 0 f:=λf hf=>by obtain⟨j,hj,rfl⟩:=Pm.1 hf;have hl:=h.len;obtain⟨fs,E,_,_,h3,_,h5,h6,h7⟩:=h.at_ j (by omega);rw[OH,OI hj] at h7;have h7:rows[j]=fs++[dO R j]:=h7;rw[h7];exact h6.wide (by omega) (Int.le_refl _)
theorem Lp(w j:Nat):ah (dO w j)=(w+j,0,0,0,0):=by show ((((w+j:Nat):Int)).toNat,_,_,_,_)=_;rw[Int.toNat_natCast];rfl
theorem iP.un(h:iP p N R ds n rows):oz R (rows.map aK):=λi hi m y=>by
 rw[OS] at hi;have hl:=h.len;obtain⟨fs,E,h1,h2,_,_,_,_,h7⟩:=h.at_ i (by omega);have e1:(rows.map aK).getD i []=aK (rows.getD i []):=by rw[OH,OH,List.getElem?_map,OI hi];rfl
 rw[e1,h7];have e2:Gb.ln (Gb.dl (R+m,y)) (aK (fs++[dO R i]))=aq (Gb.dl (R+m,y)) (fs++[dO R i]):=rfl;rw[e2,ku,cV,fl,Lp];have e3:aq (Gb.dl (R+m,y)) fs=0:=by refine Gb.jl λx hx=>?_;obtain⟨u,hu,rfl⟩:=OR.1 hx;have hpl:=h2 u hu;have hp0:=(h1.gd u hu).pl0;unfold Gb.dl;rw[OV];intro e;have e6:u.pl.toNat=R+m:=congrArg Prod.fst e;omega
 rw[e3];have e4:(dO R i).c=1:=rfl;rw[e4];unfold Gb.dl;by_cases hm:m=i/\y=(0,0,0,0)
 .rw[OW hm,OW]
  .rfl
  .rw[hm.1,hm.2]
 .rw[OV hm,OV]
  .rfl
  .intro e;simp only[Prod.mk.injEq] at e;apply hm;refine⟨by omega,?_⟩;obtain⟨_,rfl⟩:=e;rfl
variable{j:Nat}
theorem Lq{s:Int}(hp:2<=p)(hs:0<=s/\s<=255)(hj:j<n):∀t∈[dI s (j:Int)],oA p N n 0 t:=λt ht=>by rw[OL] at ht;subst ht;exact⟨(show (0:Int)<=0 by omega),(show (0:Int)<=0 by omega),(show (0:Int)<=0 by omega),rfl,⟨by show-1000000000000000000<=s;omega,by show s<=1000000000000000000;omega⟩,by show (0:Int)<=j;omega,by show (j:Int)<n;omega,λ_=>rfl,λ_=>rfl,(show (0:Int)+0+0<=0 by omega),by show 0<(1:Int)/\(1:Int)<p;omega⟩
theorem iP.unc(h:iP p N R ds n rows)(hj:j<n)(s:Int)(i:Nat)(y:C4.Mt):p∣aq (Gb.dl (R+i,y)) (rows.getD j [])-Gb.ln (Gb.dl (y,i)) (gC [dI s (j:Int)]):=by
 have hl:=h.len;have e1:(rows.map aK).getD j []=aK (rows.getD j []):=by rw[OH,OH,List.getElem?_map,OI (show j<rows.length by omega)];rfl
 have hu:=h.un j (by rw[OS];omega) i y;rw[e1] at hu;have e2:aq (Gb.dl (R+i,y)) (rows.getD j [])=if i=j/\y=(0,0,0,0) then 1 else 0:=hu
 rw[e2];have e3:Gb.ln (Gb.dl (y,i)) (gC [dI s (j:Int)])=Gb.dl (y,i) ((0,0,0,0),j):=by show 1*Gb.dl (y,i) ((0,0,0,0),((j:Int)).toNat)+0=_;rw[Int.toNat_natCast];omega
 rw[e3];unfold Gb.dl;refine⟨0,?_⟩;by_cases c:i=j/\y=(0,0,0,0)
 .rw[OW c,OW (by rw[c.1,c.2])];omega
 .rw[OV c,OV]
  .omega
  .intro e;simp only[Prod.mk.injEq] at e;apply c;obtain⟨e1,e2⟩:=e;exact⟨e2.symm,by rw[<-e1]⟩
theorem iP.made(h:iP p N R ds n rows)(hj:j<n):bp p (rows.map aK) λφ=>aq φ (rows.getD j []):=by
 have hl:=h.len;have e1:(rows.map aK).getD j []=aK (rows.getD j []):=by rw[OH,OH,List.getElem?_map,OI (show j<rows.length by omega)];rfl
 have hr:=bp.row (p:=p) (ra:=rows.map aK) (i:=j) (by rw[OS];omega);rw[e1] at hr;exact hr
theorem iP.get(h:iP p N R ds n rows)(hx:bB p (bn R ds) N R n)(hj:j<n):cM p N R n 3 0 (rows.getD j [])/\(rows.getD j [])≠[]/\(∀t∈rows.getD j [],sR (R+n) (bn R ds) t)/\iw (bn R ds) (rows.getD j [])=ds.getD j 0/\lK p N R n ds j (eE (bn R ds) (ds.getD j 0) (rows.getD j []))/\0<=ds.getD j 0/\ds.getD j 0<=3:=by obtain⟨fs,E,h1,h2,h3,h4,h5,h6,h7⟩:=h.at_ j hj;rw[h7];refine⟨h6.wide (by omega) (Int.le_refl _),by simp,λt ht=>?_,Lr h1 h2 h3 h4,⟨fs,E,h1,h2,h3,h6,rfl⟩,h4,h5⟩;have g:=h6.gd t ht;have hb:=g.bd hx.acx (by omega) (by omega);have hd:=wQ h1 h2 h3 t ht;have:=g.a;have:=g.b;have:=g.d;exact⟨by omega,by omega,by omega,g.z,⟨g.pl0,by have:=g.pl;omega⟩,by omega⟩
variable{vs:PC}
theorem Ls(h:iP p N R ds n rows)(hl:vs.length=n)(hv:∀j v,vs[j]?=some v->v.map bJ=rows.getD j []):fo vs=rows.map aK:=by
 have hr:=h.len;unfold fo;apply List.ext_getElem
 .simp;omega
 .intro j h1 h2;rw[OS] at h1;rw[List.getElem_map,List.getElem_map,hv j vs[j] (OI h1),OH,OI (show j<rows.length by omega)];rfl
variable{w:PJ}
theorem CL{P:Program}{ops:Array Oper}{rest:List Oper}{o:Oper}{a:Act}{Q:Exit->Act->PJ->Prop}(hgd:o.guard=none)(s x:Operand)(t:TypeId)(ho:o.op=.call {callee:=.builtin .append,args:=#[s,x],argTypes:=#[t,t]})(base:Nat)(e:TypeId)(i:TypeInfo)(ht:P.underlying t=some (.slice e))(hi:P.info? e=some i)(hz:i.zero=some (.slice none 0 0))(hsize:i.size=1)(hby:i.bytes=24)(v:PK)(n:Nat)(xs:PH)(hs:a.eval s=v)(hown:w.ownsRow base e 1 v n xs)(hk:∀g,v.ownBlock=some g->cG w g)(ad:Addr)(c:Nat)(u:PK)(hu:∃a n c,u=.slice a n c)(hx:a.eval x=.slice (some ad) 1 c)(hnew:w.cell? ad=some u)(hn:n<=2100000)(hbase:base<=w.heap.size)(hK:∀v' w',w'.ownsRow base e 1 v' (n+1) (xs++[u])->w.grownBy w' v.ownBlock->(∀g,v'.ownBlock=some g->cG w' g)->(v'.ownBlock=v.ownBlock\/v'.ownBlock=some w.heap.size)->wpList P ops Q rest (a.put o.dst v') w'):wpList P ops Q (o::rest) a w:=by
 refine wpList_plain hgd λK hK'=>?_;have hnw:∀j y,[u][j]?=some y->w.cell? (ad.add j)=some y:=λj y hj=>by
  have hj0:j=0:=by apply Nat.eq_zero_of_not_pos;intro h;rw[OJ (by simp;omega)] at hj;simp at hj
  subst hj0;simp at hj;subst hj;exact hnew
 obtain⟨v',w',hr,h2,h3,h4⟩:=Cq (P:=P) w base t o.type e i ht hi hz hsize hby v n xs hown hk ad c u hu hnw (by omega) hbase;obtain⟨v2,w2,hr2,_,_,_,h5⟩:=run_append_own_at (P:=P) (w:=w) base t o.type e i (.slice none 0 0) 1 24 ht hi hz hsize hby rfl (by decide) v n xs hown ad 1 c [u] (by simp) hnw (λx hx=>by rw[OL] at hx;obtain⟨_,_,_,e⟩:=hu;rw[hx,e];rfl) (by unfold maxLen;omega) (by omega) hbase;rw[hr] at hr2;injection hr2 with e1 e2;subst e1;unfold Oper.wp execOp;simp only[ho,resolve,invoke,builtin,Sem.run_bind,Sem.run_pure,Result.andThen_ok,List.map_toArray,List.map_cons,List.map_nil,hs,hx,hr];exact hK' _ _ (hK v' w' h2 h3 h4 h5)
structure iR(B:Nat)(w:PJ)(s1 s2:PK)(u1 u2:PH)(l1 l2:PC):Prop where
 one:aM B w s1 u1 l1
 two:aM B w s2 u2 l2
 far:∀g,s1.ownBlock=some g->s2.ownBlock≠some g
theorem iR.nil(B:Nat)(w:PJ):iR B w (.slice none 0 0) (.slice none 0 0) [] [] [] []:=⟨aM.nil _ _,aM.nil _ _,λg h=>by simp[Value.ownBlock] at h⟩
variable{l1 l2:PC}{u1 u2:PH}{s1 s2:PK}{B:Nat}
theorem iR.next{w':PJ}(h:iR B w s1 s2 u1 u2 l1 l2)(hb:Io w w'):iR B w' s1 s2 u1 u2 l1 l2:=⟨h.one.next hb,h.two.next hb,h.far⟩
theorem iR.swap(h:iR B w s1 s2 u1 u2 l1 l2):iR B w s2 s1 u2 u1 l2 l1:=⟨h.two,h.one,λg h1 h2=>h.far g h2 h1⟩
theorem iR.add{w2:PJ}{v:PK}{u:PK}(h:iR B w s1 s2 u1 u2 l1 l2)(hu:Fv w u f)(ho:w2.ownsRow B 79 1 v (l1.length+1) (u1++[u]))(hg:w.grownBy w2 s1.ownBlock)(hk:∀g,v.ownBlock=some g->cG w2 g)(hn:v.ownBlock=s1.ownBlock\/v.ownBlock=some w.heap.size):iR B w2 v s2 (u1++[u]) u2 (l1++[f]) l2:=by
 have hfr:aj (λk=>s1.ownBlock=some k) w w2:=aj.of_grown hg λg e=>e;refine⟨h.one.add hu ho hg hk,h.two.frm hfr (λg hg=>kJ (h.one.kind g hg)) (λg h2 h1=>h.far g h1 h2),λg h1 h2=>?_⟩;rcases hn with e|e
 .rw[e] at h1;exact h.far g h1 h2
 .rw[e] at h1;have:=(Ot h.two.own g h2).2;simp only[OP] at h1;omega
def lM(R:Nat):PB->Bool
 |[]=>false
 |L::_=>decide (L.pl<R)
def dV(R:Nat)(l:PC):PC:=(l.filter λf=>lM R f).map (cZ R)
def eF(R:Nat)(l:PC):PC:=(l.filter λf=>!lM R f).map (cZ R)
theorem sS(R:Nat)(l:PC):(dV R l).length<=l.length/\(eF R l).length<=l.length:=by unfold dV eF;rw[OS,OS];exact⟨Pc _ _,Pc _ _⟩
variable{l:PC}{r:PB}{L:Ft}
theorem Lu(h:L.pl<R):dV R (l++[L::r])=dV R l++[cZ R (L::r)]/\eF R (l++[L::r])=eF R l:=by unfold dV eF;rw[List.filter_append,List.filter_append];simp[lM,h]
theorem Lv(h:¬L.pl<R):dV R (l++[L::r])=dV R l/\eF R (l++[L::r])=eF R l++[cZ R (L::r)]:=by unfold dV eF;rw[List.filter_append,List.filter_append];simp[lM,h]
variable{T:Int}{E:Nat->Nat->Prop}{qs:PF}{ms:PD}{dg:Nat->Int}
theorem Lw{w:Nat}(hx:bB p dg N w n)(h:Cs p dg N w n vs ms qs E T)(hq:∀q∈qs,9223372036854775807<q.dg):qs=[]:=by
 cases qs with
 |nil=>rfl
 |cons q qs=>obtain⟨x,y,xm,ym,_,_,hp,e,_⟩:=h.pr q (by simp);obtain⟨D1,d1,m1⟩:=h.mb x xm;obtain⟨D2,d2,m2⟩:=h.mb y ym;have hb:=(hp.btbS hx (m1.gd x.L (by simp)) (m2.gd y.L (by simp)) d1 d2).2.2;have:=hq q (by simp);omega
theorem Lx{w:Nat}(hx:bB p dg N w n)(h:Cs p dg N w n vs ms qs E T):∀x∈ms,x.r.length<=1100000000000:=λx xm=>by obtain⟨D,d,m⟩:=h.mb x xm;exact mn hx (D:=D) (by omega) x.r m.dn.tail λt ht=>m.gd t (by simp[ht])
theorem CM{ms:PD}{x:Mm}(hm:x∈ms)(h0:0<=x.L.pl):∀{R:Nat},x.L.pl<R->x∈bT ms R
 |0,h=>by omega
 |R+1,h=>by
  simp only[bT,OK];by_cases c:x.L.pl<R
  .exact Pf (CM hm h0 c)
  .exact Pg (O5.2 ⟨hm,by simp;omega⟩)
theorem Ly:∀f∈dz (bT ms R),f∈dz ms:=λf hf=>by obtain⟨x,hx,rfl⟩:=OR.1 hf;obtain⟨h1,h2⟩:=O5.1 hx;exact OR.2 ⟨x,O5.2 ⟨pZ h1,h2⟩,rfl⟩
theorem Lz{w:Nat}(h:Cs p dg N w n vs ms qs E T):∀f∈dz ms,f∈dz (bT ms (w+n)):=λf hf=>by obtain⟨x,hx,rfl⟩:=OR.1 hf;obtain⟨h1,h2⟩:=O5.1 hx;have:=h.pls x h1;exact OR.2 ⟨x,O5.2 ⟨CM h1 this.1 this.2,h2⟩,rfl⟩
def mK(p:Int)(w:Nat)(ra:List (List (Int×C4.Tt)))(l:PC):Prop:=∀Y:Gb.Fn C4.Tt,bp p ra Y->∀t:C4.Tt,t.2.2.2.2=0->t.1<w->¬p∣Y (Gb.dl t)->(∀u:C4.Tt,u.2.2.2.2=0->u.1<w->gr w t u->p∣Y (Gb.dl u))->∃L r,(L::r)∈l/\C4.bR.dv (ah L) t
theorem LB{M:Ft}(h:cA L M=true):C4.bR.dv (ah L) (ah M):=by unfold cA eN at h;simp only[Bool.and_eq_true,decide_eq_true_eq] at h;obtain⟨h1,⟨⟨h2,h3⟩,h4⟩,h5⟩:=h;refine⟨by show L.pl.toNat=M.pl.toNat;rw[h1],?_⟩;unfold C4.cj ah;simp only;omega
theorem LC{w:Nat}(hx:bB p dg N w n)(h:Cs p dg N w n vs ms [] E T)(hE:eO p dg w ms E)(hvl:vs.length=n){rows':PC}(hr:pS p (fo vs) N w n (dz (bT ms (w+n))) rows'):mK p w (fo vs) rows':=λY hY t hz ht hn hab=>by obtain⟨L,r,h1,h2⟩:=La hx h hE hvl hY hz ht hn hab;obtain⟨L',r',h3,h4⟩:=hr.cov _ (Lz h _ h1) L r rfl;exact⟨L',r',h3,C4.bR.trans (LB h4) h2⟩
end Go.Proofs.YtjkalahhpobefaaGreat
