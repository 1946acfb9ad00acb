/- When pairs are enough: what is made of vectors, by pairs that leave nothing (plain mathematics, over whatever terms). -/
import Derived.Test.YteimdcndjjclnaaGreatA
namespace Go.Proofs.YteimdcndjjclnaaGreat.Gb
open Go.Proofs.Tryz
set_option linter.unusedSimpArgs false
set_option linter.unusedVariables false
structure bY(τ M:Type) where
 lt:τ->τ->Prop
 act:M->τ->τ
 mul:M->M->M
 act_mul:∀a b t,act (mul a b) t=act a (act b t)
 wf:WellFounded lt
 tri:∀s t,lt s t\/s=t\/lt t s
 trans:∀{a b c},lt a b->lt b c->lt a c
 mono:∀a {s t},lt s t->lt (act a s) (act a t)
variable {τ M:Type}
theorem bY.irr(S:bY τ M)(t:τ):¬S.lt t t:=S.wf.induction (C:=λt=>¬S.lt t t) t λx ih h=>ih x h h
def ln(φ:τ->Int):List (Int×τ)->Int
 |[]=>0
 |x::xs=>x.1*φ x.2+ln φ xs
abbrev Fn(τ:Type):=(τ->Int)->Int
structure aV(S:bY τ M)(p:Int) where
 live:Nat->Prop
 g:Nat->List (Int×τ)
 ld:Nat->τ
 lc:Nat->Int
 iv:Nat->Int
 shape:∀i,live i->∃r,(∀φ,ln φ (g i)=lc i*φ (ld i)+ln φ r)/\∀x∈r,S.lt x.2 (ld i)
 inv:∀i,live i->p∣lc i*iv i-1
abbrev Rp(M:Type):=List (Int×M×Nat)
def ev{S:bY τ M}{p:Int}(G:aV S p)(φ:τ->Int):Rp M->Int
 |[]=>0
 |r::rs=>r.1*ln (λt=>φ (S.act r.2.1 t)) (G.g r.2.2)+ev G φ rs
theorem nR{S:bY τ M}{p:Int}(G:aV S p)(φ:τ->Int):∀a b:Rp M,ev G φ (a++b)=ev G φ a+ev G φ b
 |[],b=>by simp[ev]
 |r::a,b=>by simp only[List.cons_append,ev];rw[nR G φ a b];omega
def dI(c:Int)(a:Rp M):Rp M:=a.map λr=>(c*r.1,r.2)
theorem pu{S:bY τ M}{p:Int}(G:aV S p)(φ:τ->Int)(c:Int):∀a:Rp M,ev G φ (dI c a)=c*ev G φ a
 |[]=>by simp[dI,ev]
 |r::a=>by have h:=pu G φ c a;unfold dI at h;simp only[dI,List.map_cons,ev];rw[h,Int.mul_add,Int.mul_assoc]
def mn(S:bY τ M)(m:M)(a:Rp M):Rp M:=a.map λr=>(r.1,S.mul m r.2.1,r.2.2)
theorem rK{S:bY τ M}{p:Int}(G:aV S p)(φ:τ->Int)(m:M):∀a:Rp M,ev G φ (mn S m a)=ev G (λt=>φ (S.act m t)) a
 |[]=>by simp[mn,ev]
 |r::a=>by
  have h:=rK G φ m a;unfold mn at h;simp only[mn,List.map_cons,ev];rw[h];have e:(λt=>φ (S.act (S.mul m r.2.1) t))=λt=>φ (S.act m (S.act r.2.1 t)):=by funext t;rw[S.act_mul]
  rw[e]
def Vb{S:bY τ M}{p:Int}(G:aV S p)(A:τ->Prop)(X:Fn τ):Prop:=∃rp:Rp M,(∀r∈rp,G.live r.2.2/\A (S.act r.2.1 (G.ld r.2.2)))/\∀φ,p∣X φ-ev G φ rp
theorem Vb.mono{S:bY τ M}{p:Int}{G:aV S p}{A B:τ->Prop}{X:Fn τ}(h:Vb G A X)(hAB:∀t,A t->B t):Vb G B X:=by obtain⟨rp,h1,h2⟩:=h;exact⟨rp,λr hr=>⟨(h1 r hr).1,hAB _ (h1 r hr).2⟩,h2⟩
theorem Vb.congr{S:bY τ M}{p:Int}{G:aV S p}{A:τ->Prop}{X Y:Fn τ}(h:Vb G A X)(e:∀φ,p∣Y φ-X φ):Vb G A Y:=by obtain⟨rp,h1,h2⟩:=h;refine⟨rp,h1,λφ=>?_⟩;obtain⟨a,ha⟩:=h2 φ;obtain⟨b,hb⟩:=e φ;exact⟨a+b,by rw[Int.mul_add];omega⟩
theorem Vb.zero{S:bY τ M}{p:Int}{G:aV S p}{A:τ->Prop}{X:Fn τ}(e:∀φ,p∣X φ):Vb G A X:=⟨[],λr hr=>by simp at hr,λφ=>by simpa [ev] using e φ⟩
theorem Vb.add{S:bY τ M}{p:Int}{G:aV S p}{A:τ->Prop}{X Y:Fn τ}(h:Vb G A X)(k:Vb G A Y):Vb G A λφ=>X φ+Y φ:=by obtain⟨rp,h1,h2⟩:=h;obtain⟨rq,k1,k2⟩:=k;refine⟨rp++rq,λr hr=>(Lv.1 hr).elim (h1 r) (k1 r),λφ=>?_⟩;obtain⟨a,ha⟩:=h2 φ;obtain⟨b,hb⟩:=k2 φ;rw[nR];refine⟨a+b,?_⟩;show X φ+Y φ-_=_;rw[Int.mul_add];omega
theorem Vb.scl{S:bY τ M}{p:Int}{G:aV S p}{A:τ->Prop}{X:Fn τ}(c:Int)(h:Vb G A X):Vb G A λφ=>c*X φ:=by
 obtain⟨rp,h1,h2⟩:=h;refine⟨Go.Proofs.YteimdcndjjclnaaGreat.Gb.dI c rp,λr hr=>?_,λφ=>?_⟩
 .obtain⟨r0,h0,rfl⟩:=LC.1 hr;exact h1 r0 h0
 .obtain⟨a,ha⟩:=h2 φ;rw[pu];refine⟨c*a,?_⟩;rw[<-Int.mul_sub,ha,<-Int.mul_assoc,<-Int.mul_assoc,Int.mul_comm c p]
theorem Vb.shift{S:bY τ M}{p:Int}{G:aV S p}{A B:τ->Prop}{X:Fn τ}(m:M)(h:Vb G A X)(hAB:∀t,A t->B (S.act m t)):Vb G B λφ=>X λt=>φ (S.act m t):=by
 obtain⟨rp,h1,h2⟩:=h;refine⟨mn S m rp,λr hr=>?_,λφ=>?_⟩
 .obtain⟨r0,h0,rfl⟩:=LC.1 hr;refine⟨(h1 r0 h0).1,?_⟩;simp only;rw[S.act_mul];exact hAB _ (h1 r0 h0).2
 .rw[rK];exact h2 _
def Hm{S:bY τ M}{p:Int}(G:aV S p)(i:Nat)(a:M):Fn τ:=λφ=>G.iv i*ln (λt=>φ (S.act a t)) (G.g i)
def Rl{S:bY τ M}{p:Int}(G:aV S p)(i:Nat)(a:M)(j:Nat)(b:M):Prop:=Vb G (λt=>S.lt t (S.act a (G.ld i))) λφ=>Hm G i a φ-Hm G j b φ
theorem Rl.refl{S:bY τ M}{p:Int}(G:aV S p)(i:Nat)(a:M):Rl G i a i a:=Vb.zero λφ=>⟨0,by omega⟩
theorem Rl.symm{S:bY τ M}{p:Int}{G:aV S p}{i j:Nat}{a b:M}(e:S.act a (G.ld i)=S.act b (G.ld j))(h:Rl G i a j b):Rl G j b i a:=by unfold Rl at h⊢;rw[<-e];exact(Vb.scl (-1) h).congr λφ=>⟨0,by omega⟩
theorem Rl.trans{S:bY τ M}{p:Int}{G:aV S p}{i j k:Nat}{a b c:M}(e:S.act a (G.ld i)=S.act b (G.ld j))(h:Rl G i a j b)(h2:Rl G j b k c):Rl G i a k c:=by unfold Rl at h h2⊢;rw[<-e] at h2;exact(Vb.add h h2).congr λφ=>⟨0,by omega⟩
theorem Rl.shift{S:bY τ M}{p:Int}{G:aV S p}{i j:Nat}{a b:M}(m:M)(h:Rl G i a j b):Rl G i (S.mul m a) j (S.mul m b):=by
 unfold Rl at h⊢;have h2:=Vb.shift (B:=λt=>S.lt t (S.act (S.mul m a) (G.ld i))) m h (λt ht=>by rw[S.act_mul];exact S.mono m ht);refine h2.congr λφ=>?_;unfold Hm;have e1:(λt=>φ (S.act (S.mul m a) t))=λt=>φ (S.act m (S.act a t)):=by funext t;rw[S.act_mul]
 have e2:(λt=>φ (S.act (S.mul m b) t))=λt=>φ (S.act m (S.act b t)):=by funext t;rw[S.act_mul]
 rw[e1,e2];exact⟨0,by simp⟩
def dl[DecidableEq τ](t:τ):τ->Int:=λs=>if s=t then 1 else 0
theorem iY{φ:τ->Int}:∀{l:List (Int×τ)},(∀x∈l,φ x.2=0)->ln φ l=0
 |[],_=>rfl
 |x::l,h=>by simp only[ln];rw[h x (by simp),iY λy hy=>h y (by simp[hy])];omega
theorem vU[DecidableEq τ]{S:bY τ M}{p:Int}{G:aV S p}{i:Nat}(hi:G.live i)(a:M)(t:τ)(h:S.act a (G.ld i)=t):ln (λs=>dl t (S.act a s)) (G.g i)=G.lc i:=by
 obtain⟨r,e,hr⟩:=G.shape i hi;rw[e];rw[iY (l:=r) λx hx=>by
  unfold dl;rw[LH];intro e2;have:=S.mono a (hr x hx);rw[e2,h] at this;exact S.irr _ this]
 unfold dl;rw[LI h];omega
theorem rL[DecidableEq τ]{S:bY τ M}{p:Int}{G:aV S p}{i:Nat}(hi:G.live i)(a:M)(t:τ)(h:S.lt (S.act a (G.ld i)) t):ln (λs=>dl t (S.act a s)) (G.g i)=0:=by
 obtain⟨r,e,hr⟩:=G.shape i hi;rw[e];rw[iY (l:=r) λx hx=>by
  unfold dl;rw[LH];intro e2;have:=S.trans (S.mono a (hr x hx)) h;rw[e2] at this;exact S.irr _ this]
 unfold dl;rw[LH]
 .omega
 .intro e2;rw[e2] at h;exact S.irr _ h
theorem nS[DecidableEq τ]{S:bY τ M}{p:Int}{G:aV S p}(t:τ):∀{rp:Rp M},(∀r∈rp,G.live r.2.2/\S.lt (S.act r.2.1 (G.ld r.2.2)) t)->ev G (dl t) rp=0
 |[],_=>rfl
 |r::rp,h=>by simp only[ev];rw[rL (h r (by simp)).1 _ _ (h r (by simp)).2,nS t λx hx=>h x (by simp[hx])];omega
def jQ{S:bY τ M}{p:Int}(G:aV S p):Prop:=∀i a j b,G.live i->G.live j->S.act a (G.ld i)=S.act b (G.ld j)->Rl G i a j b
theorem vV[DecidableEq τ]{S:bY τ M}{p:Int}{G:aV S p}(hA:jQ G)(t:τ):∀(rp:Rp M),(∀r∈rp,G.live r.2.2/\(S.lt (S.act r.2.1 (G.ld r.2.2)) t\/S.act r.2.1 (G.ld r.2.2)=t))->(Vb G (λs=>S.lt s t) λφ=>ev G φ rp)\/∃i a c,G.live i/\S.act a (G.ld i)=t/\(Vb G (λs=>S.lt s t) λφ=>ev G φ rp-c*Hm G i a φ)/\p∣ev G (dl t) rp-c
 |[],_=>L0 (Vb.zero λφ=>by simp[ev])
 |r::rp,h=>by
  have hr:=h r (by simp);have ih:=vV hA t rp λx hx=>h x (by simp[hx]);rcases hr.2 with hlt|heq
  .have hv:Vb G (λs=>S.lt s t) λφ=>r.1*ln (λs=>φ (S.act r.2.1 s)) (G.g r.2.2):=⟨[r],λx hx=>by rw[Lw] at hx;rw[hx];exact⟨hr.1,hlt⟩,λφ=>⟨0,by simp[ev]⟩⟩;rcases ih with ih|⟨i,a,c,h1,h2,h3,h4⟩
   .exact L0 ((Vb.add hv ih).congr λφ=>⟨0,by simp only[ev];omega⟩)
   .refine L3 ⟨i,a,c,h1,h2,(Vb.add hv h3).congr λφ=>⟨0,by simp only[ev];omega⟩,?_⟩;simp only[ev];rw[rL hr.1 _ _ hlt];simpa using h4
  .obtain⟨q,hq⟩:=G.inv r.2.2 hr.1;have hself:∀φ,p∣r.1*ln (λs=>φ (S.act r.2.1 s)) (G.g r.2.2)-(r.1*G.lc r.2.2)*Hm G r.2.2 r.2.1 φ:=λφ=>by
    unfold Hm;generalize ln (λs=>φ (S.act r.2.1 s)) (G.g r.2.2)=z;refine⟨-(q*r.1*z),?_⟩;have e:G.lc r.2.2*G.iv r.2.2=1+p*q:=by omega
    have e2:r.1*G.lc r.2.2*(G.iv r.2.2*z)=r.1*z*(G.lc r.2.2*G.iv r.2.2):=by grind
    rw[e2,e];grind
   have hco:ev G (dl t) (r::rp)=r.1*G.lc r.2.2+ev G (dl t) rp:=by simp only[ev];rw[vU hr.1 r.2.1 t heq]
   rcases ih with ih|⟨i,a,c,h1,h2,h3,h4⟩
   .refine L3 ⟨r.2.2,r.2.1,r.1*G.lc r.2.2,hr.1,heq,ih.congr λφ=>?_,?_⟩
    .obtain⟨z,hz⟩:=hself φ;exact⟨z,by simp only[ev];omega⟩
    .obtain⟨rq,k1,k2⟩:=ih;obtain⟨z,hz⟩:=k2 (dl t);have hz:ev G (dl t) rp-ev G (dl t) rq=p*z:=hz;rw[nS t k1] at hz;rw[hco];exact⟨z,by omega⟩
   .have hR:=hA i a r.2.2 r.2.1 h1 hr.1 (by rw[h2,heq]);unfold Rl at hR;rw[h2] at hR;refine L3 ⟨i,a,c+r.1*G.lc r.2.2,h1,h2,((Vb.add h3 (Vb.scl (-(r.1*G.lc r.2.2)) hR)).congr λφ=>?_),?_⟩
    .obtain⟨z,hz⟩:=hself φ;refine⟨z,?_⟩;simp only[ev];grind
    .obtain⟨z,hz⟩:=h4;rw[hco];exact⟨z,by omega⟩
theorem top[DecidableEq τ]{S:bY τ M}{p:Int}{G:aV S p}(hA:jQ G)(T:τ):∀X:Fn τ,Vb G (λs=>S.lt s T\/s=T) X->(∀φ,p∣X φ)\/∃i a t,G.live i/\S.act a (G.ld i)=t/\¬p∣X (dl t)/\∀s,S.lt t s->p∣X (dl s):=by
 induction T using S.wf.induction with
 |_ T ih=>
  intro X hX;obtain⟨rp,h1,h2⟩:=hX;have hlow:Vb G (λs=>S.lt s T) X->(∀φ,p∣X φ)\/∃i a t,G.live i/\S.act a (G.ld i)=t/\¬p∣X (dl t)/\∀s,S.lt t s->p∣X (dl s):=by
   rintro ⟨rq,k1,k2⟩;cases rq with
   |nil=>exact L0 λφ=>by simpa [ev] using k2 φ
   |cons r rq=>
    have hmax:∀(l:Rp M)(m:τ),S.lt m T->(∀x∈l,S.lt (S.act x.2.1 (G.ld x.2.2)) T)->∃m2,S.lt m2 T/\(S.lt m m2\/m=m2)/\∀x∈l,S.lt (S.act x.2.1 (G.ld x.2.2)) m2\/S.act x.2.1 (G.ld x.2.2)=m2:=by
     intro l;induction l with
     |nil=>exact λm hm _=>⟨m,hm,L3 rfl,λx hx=>by simp at hx⟩
     |cons y l ihl=>
      intro m hm hl;obtain⟨m2,a1,a2,a3⟩:=ihl m hm λx hx=>hl x (by simp[hx]);rcases S.tri (S.act y.2.1 (G.ld y.2.2)) m2 with h|h|h
      .exact⟨m2,a1,a2,λx hx=>(LL.1 hx).elim (λe=>by rw[e];exact L0 h) (a3 x)⟩
      .exact⟨m2,a1,a2,λx hx=>(LL.1 hx).elim (λe=>by rw[e];exact L3 h) (a3 x)⟩
      .refine⟨S.act y.2.1 (G.ld y.2.2),hl y (by simp),L0 (a2.elim (λh2=>S.trans h2 h) (λe=>by rw[e];exact h)),λx hx=>(LL.1 hx).elim (λe=>by rw[e];exact L3 rfl) (λhx=>L0 ((a3 x hx).elim (λh2=>S.trans h2 h) (λe=>by rw[e];exact h)))⟩
    obtain⟨m2,b1,b2,b3⟩:=hmax rq (S.act r.2.1 (G.ld r.2.2)) (k1 r (by simp)).2 (λx hx=>(k1 x (by simp[hx])).2);refine ih m2 b1 X ⟨r::rq,λx hx=>⟨(k1 x hx).1,?_⟩,k2⟩;rcases LL.1 hx with rfl|hx
    .exact b2
    .exact b3 x hx
  rcases vV hA T rp h1 with hd|⟨i,a,c,d1,d2,d3,d4⟩
  .exact hlow (hd.congr h2)
  .by_cases hc:p∣X (dl T)
   .refine hlow (d3.congr λφ=>?_);obtain⟨z1,hz1⟩:=h2 φ;obtain⟨z2,hz2⟩:=h2 (dl T);obtain⟨z3,hz3⟩:=hc;obtain⟨z4,hz4⟩:=d4;have e:c=p*(z3-z2-z4):=by rw[Int.mul_sub,Int.mul_sub];omega
    refine⟨z1+(z3-z2-z4)*Hm G i a φ,?_⟩;rw[e];grind
   .refine L3 ⟨i,a,T,d1,d2,hc,λs hs=>?_⟩;obtain⟨z,hz⟩:=h2 (dl s);rw[nS s λr hr=>⟨(h1 r hr).1,(h1 r hr).2.elim (λh=>S.trans h hs) (λe=>by rw[e];exact hs)⟩] at hz;exact⟨z,by omega⟩
structure nU(τ:Type) where
 dv:τ->τ->Prop
 deg:τ->Nat
 lc:τ->τ->τ
 trans:∀{a b c},dv a b->dv b c->dv a c
 refl:∀a,dv a a
 less:∀{a b},dv a b->a≠b->deg a<deg b
 lcl:∀{a b t},dv a t->dv b t->dv a (lc a b)
 lcr:∀{a b t},dv a t->dv b t->dv b (lc a b)
 lci:∀{a b t},dv a t->dv b t->dv (lc a b) t
def Pa(E:Nat->Nat->Prop)(i j:Nat):Prop:=∀P:Nat->Prop,P i->(∀j k,P j->E j k->P k)->(∀j k,P j->E k j->P k)->P j
theorem Pa.refl{E:Nat->Nat->Prop}(i:Nat):Pa E i i:=λ_ h _ _=>h
theorem Pa.fwd{E:Nat->Nat->Prop}{i j k:Nat}(h:Pa E i j)(e:E j k):Pa E i k:=λP h1 h2 h3=>h2 j k (h P h1 h2 h3) e
theorem Pa.bwd{E:Nat->Nat->Prop}{i j k:Nat}(h:Pa E i j)(e:E k j):Pa E i k:=λP h1 h2 h3=>h3 j k (h P h1 h2 h3) e
theorem Pa.ind{E:Nat->Nat->Prop}{i:Nat}{motive:∀j,Pa E i j->Prop}(refl:motive i (Pa.refl i))(fwd:∀{j k}(h:Pa E i j)(e:E j k),motive j h->motive k (h.fwd e))(bwd:∀{j k}(h:Pa E i j)(e:E k j),motive j h->motive k (h.bwd e)){j:Nat}(h:Pa E i j):motive j h:=by have:=h (λj=>∃h,motive j h) ⟨_,refl⟩ (λj k ⟨h1,h2⟩ e=>⟨_,fwd h1 e h2⟩) (λj k ⟨h1,h2⟩ e=>⟨_,bwd h1 e h2⟩);exact this.2
theorem Pa.trans{E:Nat->Nat->Prop}{i j k:Nat}(h:Pa E i j)(g:Pa E j k):Pa E i k:=by
 induction g using Pa.ind with
 |refl=>exact h
 |fwd _ e ih=>exact ih.fwd e
 |bwd _ e ih=>exact ih.bwd e
theorem Pa.symm{E:Nat->Nat->Prop}{i j:Nat}(h:Pa E i j):Pa E j i:=by
 induction h using Pa.ind with
 |refl=>exact Pa.refl _
 |fwd _ e ih=>exact((Pa.refl _).bwd e).trans ih
 |bwd _ e ih=>exact((Pa.refl _).fwd e).trans ih
theorem Pa.mono{E F:Nat->Nat->Prop}{i j:Nat}(h:Pa E i j)(hEF:∀a b,E a b->F a b):Pa F i j:=by
 induction h using Pa.ind with
 |refl=>exact Pa.refl _
 |fwd _ e ih=>exact ih.fwd (hEF _ _ e)
 |bwd _ e ih=>exact ih.bwd (hEF _ _ e)
def Ed(D:nU τ)(ld:Nat->τ)(P:Nat->Nat->Prop)(t:τ)(i j:Nat):Prop:=P i j/\D.dv (ld i) t/\D.dv (ld j) t/\D.dv (D.lc (ld i) (ld j)) t
structure fF(D:nU τ)(ld:Nat->τ)(n:Nat)(P:Nat->Nat->Prop)(gone:Nat->Prop):Prop where
 con:∀t i j,i<n->j<n->D.dv (ld i) t->D.dv (ld j) t->Pa (Ed D ld P t) i j
 gn:∀x,x<n->gone x->∃y,y<n/\¬gone y/\D.dv (ld y) (ld x)
 lt:∀i j,P i j->i<n/\j<n
theorem fF.step{D:nU τ}{ld:Nat->τ}{n:Nat}{P:Nat->Nat->Prop}{gone:Nat->Prop}(h:fF D ld n P gone){P':Nat->Nat->Prop}{gone' kept:Nat->Prop}(hk1:∀x,kept x->x<n)(hk2:∀x t,x<n->¬gone x->D.dv (ld x) t->D.dv (ld n) t->kept x\/∃y,kept y/\D.dv (ld y) t/\D.dv (D.lc (ld y) (ld n)) (D.lc (ld x) (ld n)))(hP1:∀i j,P' i j->(P i j\/(j=n/\kept i)))(hP2:∀i,kept i->P' i n)(hP3:∀i j,P i j->P' i j\/(D.dv (ld n) (D.lc (ld i) (ld j))/\D.lc (ld i) (ld n)≠D.lc (ld i) (ld j)/\D.lc (ld j) (ld n)≠D.lc (ld i) (ld j)))(hg:∀x,gone' x↔(x<n/\(gone x\/D.dv (ld n) (ld x)))):fF D ld (n+1) P' gone':=by
 have core:∀t,(∀s,D.deg s<D.deg t->D.dv (ld n) s->∀x,x<n->D.dv (ld x) s->Pa (Ed D ld P' s) x n)->D.dv (ld n) t->∀x,x<n->D.dv (ld x) t->Pa (Ed D ld P' t) x n:=by
  intro t ih hf;have up:∀s i j,D.dv s t->Pa (Ed D ld P' s) i j->Pa (Ed D ld P' t) i j:=λs i j hs hp=>hp.mono λa b e=>⟨e.1,D.trans e.2.1 hs,D.trans e.2.2.1 hs,D.trans e.2.2.2 hs⟩;have low:∀i,i<n->D.dv (ld i) t->D.lc (ld i) (ld n)≠t->Pa (Ed D ld P' t) i n:=λi hi hit hne=>by have hs:=D.lci hit hf;exact up _ _ _ hs (ih _ (D.less hs hne) (D.lcr hit hf) i hi (D.lcl hit hf))
  have old:∀i j,i<n->j<n->D.dv (ld i) t->D.dv (ld j) t->Pa (Ed D ld P' t) i j:=λi j hi hj hit hjt=>by
   have hp:=h.con t i j hi hj hit hjt;have fp:∀a b,Ed D ld P t a b->Pa (Ed D ld P' t) a b:=λa b e=>by
    obtain⟨ha,hb⟩:=h.lt a b e.1;rcases hP3 a b e.1 with h1|⟨h1,h2,h3⟩
    .exact(Pa.refl a).fwd ⟨h1,e.2⟩
    .have hal:=D.lcl e.2.1 e.2.2.1;have hbl:=D.lcr e.2.1 e.2.2.1;have q1:D.deg (D.lc (ld a) (ld n))<D.deg (D.lc (ld a) (ld b)):=D.less (D.lci hal h1) h2;have q2:D.deg (D.lc (ld b) (ld n))<D.deg (D.lc (ld a) (ld b)):=D.less (D.lci hbl h1) h3;have q3:D.deg (D.lc (ld a) (ld b))<=D.deg t:=by
      by_cases e9:D.lc (ld a) (ld b)=t
      .rw[e9];exact Lc _
      .exact Nat.le_of_lt (D.less e.2.2.2 e9)
     have n1:D.lc (ld a) (ld n)≠t:=λe9=>by rw[e9] at q1;omega
     have n2:D.lc (ld b) (ld n)≠t:=λe9=>by rw[e9] at q2;omega
     exact(low a ha e.2.1 n1).trans (low b hb e.2.2.1 n2).symm
   clear hit hjt hi hj;induction hp using Pa.ind with
   |refl=>exact Pa.refl _
   |fwd _ e ih2=>exact ih2.trans (fp _ _ e)
   |bwd _ e ih2=>exact ih2.trans (fp _ _ e).symm
  have alive:∀x,x<n->¬gone x->D.dv (ld x) t->Pa (Ed D ld P' t) x n:=λx hx hg2 hxt=>by
   rcases hk2 x t hx hg2 hxt hf with hk|⟨y,hy,hyt,_⟩
   .exact(Pa.refl x).fwd ⟨hP2 x hk,hxt,hf,D.lci hxt hf⟩
   .exact(old x y hx (hk1 y hy) hxt hyt).trans ((Pa.refl y).fwd ⟨hP2 y hy,hyt,hf,D.lci hyt hf⟩)
  intro x hx hxt;by_cases hgx:gone x
  .obtain⟨y,hy,hgy,hyx⟩:=h.gn x hx hgx;have hyt:=D.trans hyx hxt;exact(old x y hx hy hxt hyt).trans (alive y hy hgy hyt)
  .exact alive x hx hgx hxt
 have key:∀(m:Nat)(t:τ),D.deg t<m->D.dv (ld n) t->∀x,x<n->D.dv (ld x) t->Pa (Ed D ld P' t) x n:=by
  intro m;induction m with
  |zero=>intro t hm;omega
  |succ m ihm=>exact λt hm hf=>core t (λs hs hfs=>ihm s (by omega) hfs) hf
 refine⟨λt i j hi hj hit hjt=>?_,λx hx hgx=>?_,λi j hp=>?_⟩
 .by_cases hf:D.dv (ld n) t
  .have toN:∀i,i<n+1->D.dv (ld i) t->Pa (Ed D ld P' t) i n:=λi hi hit=>by
    rcases Nat.lt_or_ge i n with h1|h1
    .exact key _ t (Nat.lt_succ_self _) hf i h1 hit
    .have:i=n:=by omega
     rw[this];exact Pa.refl _
   exact(toN i hi hit).trans (toN j hj hjt).symm
  .have hi2:i<n:=by
    rcases Nat.lt_or_ge i n with h1|h1
    .exact h1
    .have:i=n:=by omega
     rw[this] at hit;exact absurd hit hf
   have hj2:j<n:=by
    rcases Nat.lt_or_ge j n with h1|h1
    .exact h1
    .have:j=n:=by omega
     rw[this] at hjt;exact absurd hjt hf
   refine(h.con t i j hi2 hj2 hit hjt).mono λa b e=>⟨?_,e.2⟩;rcases hP3 a b e.1 with h1|⟨h1,_⟩
   .exact h1
   .exact absurd (D.trans h1 e.2.2.2) hf
 .obtain⟨h1,h2⟩:=(hg x).1 hgx;have hn:¬gone' n:=λh=>by have:=((hg n).1 h).1;omega
  by_cases hd:D.dv (ld n) (ld x)
  .exact⟨n,by omega,hn,hd⟩
  .have h3:gone x:=h2.elim id λh=>absurd h hd;obtain⟨y,y1,y2,y3⟩:=h.gn x h1 h3;by_cases hy:gone' y
   .have h4:=((hg y).1 hy).2;have h5:D.dv (ld n) (ld y):=h4.elim (λh=>absurd h y2) id;exact⟨n,by omega,hn,D.trans h5 y3⟩
   .exact⟨y,by omega,hy,y3⟩
 .rcases hP1 i j hp with h1|⟨h1,h2⟩
  .have:=h.lt i j h1;omega
  .have:=hk1 i h2;omega
end Go.Proofs.YteimdcndjjclnaaGreat.Gb
namespace Go.Proofs.YteimdcndjjclnaaGreat.Gb
open Go.Proofs.Tryz
set_option linter.unusedSimpArgs false
set_option linter.unusedVariables false
abbrev Te:=Nat×Nat×Nat×Nat
abbrev Mo:=Nat×Nat×Nat
def aA(m:Mo)(t:Te):Te:=(t.1,t.2.1+m.1,t.2.2.1+m.2.1,t.2.2.2+m.2.2)
def bF(m k:Mo):Mo:=(m.1+k.1,m.2.1+k.2.1,m.2.2+k.2.2)
def c1(o:Int)(t:Te):Nat:=if o=1 then t.2.1+t.2.2.1 else t.2.1
def c2(o:Int)(t:Te):Nat:=if o=1 then t.2.1 else t.2.2.1
def bK(t:Te):Nat:=t.2.1+t.2.2.1+t.2.2.2
def iz(o ov:Int)(t:Te):Nat×Nat×Nat×Nat:=if ov=1 then (bK t,c1 o t,c2 o t,t.1) else (t.1,bK t,c1 o t,c2 o t)
def L4(x y:Nat×Nat×Nat×Nat):Prop:=x.1<y.1\/(x.1=y.1/\(x.2.1<y.2.1\/(x.2.1=y.2.1/\(x.2.2.1<y.2.2.1\/(x.2.2.1=y.2.2.1/\x.2.2.2<y.2.2.2)))))
theorem vW:WellFounded L4:=by
 refine Subrelation.wf (r:=(Prod.lex Nat.lt_wfRel (Prod.lex Nat.lt_wfRel (Prod.lex Nat.lt_wfRel Nat.lt_wfRel))).rel) (fun {x y} h=>?_) (Prod.lex Nat.lt_wfRel (Prod.lex Nat.lt_wfRel (Prod.lex Nat.lt_wfRel Nat.lt_wfRel))).wf;obtain⟨x1,x2,x3,x4⟩:=x;obtain⟨y1,y2,y3,y4⟩:=y;rcases h with h|⟨h,h2⟩
 .exact Prod.Lex.left _ _ h
 .simp only at h;subst h;refine Prod.Lex.right _ ?_;rcases h2 with h|⟨h,h2⟩
  .exact Prod.Lex.left _ _ h
  .simp only at h;subst h;refine Prod.Lex.right _ ?_;rcases h2 with h|⟨h,h2⟩
   .exact Prod.Lex.left _ _ h
   .simp only at h;subst h;exact Prod.Lex.right _ h2
theorem Cu{o ov:Int}{s t:Te}(h:iz o ov s=iz o ov t):s=t:=by obtain⟨s0,s1,s2,s3⟩:=s;obtain⟨t0,t1,t2,t3⟩:=t;unfold iz c1 c2 bK at h;by_cases ho:o=1<;>by_cases hv:ov=1<;>simp only[ho,hv,if_true,if_false,Prod.mk.injEq] at h<;>(simp only[Prod.mk.injEq];omega)
def rM(o ov:Int):bY Te Mo where
 lt s t:=L4 (iz o ov s) (iz o ov t)
 act:=aA
 mul:=bF
 act_mul a b t:=by obtain⟨a1,a2,a3⟩:=a;obtain⟨b1,b2,b3⟩:=b;obtain⟨t0,t1,t2,t3⟩:=t;simp only[aA,bF,Prod.mk.injEq,true_and];omega
 wf:=InvImage.wf (iz o ov) vW
 tri s t:=by
  have h:=@Cu o ov s t;generalize iz o ov s=x at h⊢;generalize iz o ov t=y at h⊢;obtain⟨x1,x2,x3,x4⟩:=x;obtain⟨y1,y2,y3,y4⟩:=y;by_cases e:(x1,x2,x3,x4)=(y1,y2,y3,y4)
  .exact L3 (L0 (h e))
  .simp only[Prod.mk.injEq] at e;unfold L4;simp only;have:(x1<y1\/x1=y1/\(x2<y2\/x2=y2/\(x3<y3\/x3=y3/\x4<y4)))\/(y1<x1\/y1=x1/\(y2<x2\/y2=x2/\(y3<x3\/y3=x3/\y4<x4))):=by omega
   exact this.elim L0 λh=>L3 (L3 h)
 trans {a b c} h k:=by revert h k;generalize iz o ov a=x;generalize iz o ov b=y;generalize iz o ov c=z;unfold L4;omega
 mono a {s t} h:=by revert h;obtain⟨s0,s1,s2,s3⟩:=s;obtain⟨t0,t1,t2,t3⟩:=t;obtain⟨m1,m2,m3⟩:=a;unfold iz c1 c2 bK aA L4;by_cases ho:o=1<;>by_cases hv:ov=1<;>simp only[ho,hv,if_true,if_false]<;>omega
theorem Cv(o ov:Int):∀a b s,(rM o ov).act a s=(rM o ov).act b s->a=b:=by intro a b s h;obtain⟨a1,a2,a3⟩:=a;obtain⟨b1,b2,b3⟩:=b;have h2:aA (a1,a2,a3) s=aA (b1,b2,b3) s:=h;unfold aA at h2;simp only[Prod.mk.injEq] at h2⊢;omega
def aW:nU Te where
 dv s t:=s.1=t.1/\s.2.1<=t.2.1/\s.2.2.1<=t.2.2.1/\s.2.2.2<=t.2.2.2
 deg:=bK
 lc s t:=(s.1,max s.2.1 t.2.1,max s.2.2.1 t.2.2.1,max s.2.2.2 t.2.2.2)
 trans {a b c} h k:=by omega
 refl a:=by omega
 less {a b} h hne:=by obtain⟨a0,a1,a2,a3⟩:=a;obtain⟨b0,b1,b2,b3⟩:=b;simp only[ne_eq,Prod.mk.injEq] at h hne;unfold bK;simp only;omega
 lcl {a b t} h k:=by have h:a.1=t.1/\a.2.1<=t.2.1/\a.2.2.1<=t.2.2.1/\a.2.2.2<=t.2.2.2:=h;have k:b.1=t.1/\b.2.1<=t.2.1/\b.2.2.1<=t.2.2.1/\b.2.2.2<=t.2.2.2:=k;show a.1=a.1/\a.2.1<=max a.2.1 b.2.1/\a.2.2.1<=max a.2.2.1 b.2.2.1/\a.2.2.2<=max a.2.2.2 b.2.2.2;omega
 lcr {a b t} h k:=by have h:a.1=t.1/\a.2.1<=t.2.1/\a.2.2.1<=t.2.2.1/\a.2.2.2<=t.2.2.2:=h;have k:b.1=t.1/\b.2.1<=t.2.1/\b.2.2.1<=t.2.2.1/\b.2.2.2<=t.2.2.2:=k;show b.1=a.1/\b.2.1<=max a.2.1 b.2.1/\b.2.2.1<=max a.2.2.1 b.2.2.1/\b.2.2.2<=max a.2.2.2 b.2.2.2;omega
 lci {a b t} h k:=by have h:a.1=t.1/\a.2.1<=t.2.1/\a.2.2.1<=t.2.2.1/\a.2.2.2<=t.2.2.2:=h;have k:b.1=t.1/\b.2.1<=t.2.1/\b.2.2.1<=t.2.2.1/\b.2.2.2<=t.2.2.2:=k;show a.1=t.1/\max a.2.1 b.2.1<=t.2.1/\max a.2.2.1 b.2.2.1<=t.2.2.1/\max a.2.2.2 b.2.2.2<=t.2.2.2;omega
theorem Cw(o ov:Int)(s t:Te):aW.dv s t↔∃a,(rM o ov).act a s=t:=by
 obtain⟨s0,s1,s2,s3⟩:=s;obtain⟨t0,t1,t2,t3⟩:=t;constructor
 .intro h;have h2:s0=t0/\s1<=t1/\s2<=t2/\s3<=t3:=h;refine⟨(t1-s1,t2-s2,t3-s3),?_⟩;show aA _ _=_;unfold aA;simp only[Prod.mk.injEq];omega
 .rintro ⟨⟨a1,a2,a3⟩,h⟩;have h2:aA (a1,a2,a3) (s0,s1,s2,s3)=(t0,t1,t2,t3):=h;unfold aA at h2;simp only[Prod.mk.injEq] at h2;show s0=t0/\s1<=t1/\s2<=t2/\s3<=t3;omega
end Go.Proofs.YteimdcndjjclnaaGreat.Gb
namespace Go.Proofs.YteimdcndjjclnaaGreat.Gb
open Go.Proofs.Tryz
set_option linter.unusedSimpArgs false
set_option linter.unusedVariables false
theorem Pa.map{E F:Nat->Nat->Prop}(f:Nat->Nat)(hEF:∀a b,E a b->F (f a) (f b)){i j:Nat}(h:Pa E i j):Pa F (f i) (f j):=by
 induction h using Pa.ind with
 |refl=>exact Pa.refl _
 |fwd _ e ih=>exact ih.fwd (hEF _ _ e)
 |bwd _ e ih=>exact ih.bwd (hEF _ _ e)
end Go.Proofs.YteimdcndjjclnaaGreat.Gb
