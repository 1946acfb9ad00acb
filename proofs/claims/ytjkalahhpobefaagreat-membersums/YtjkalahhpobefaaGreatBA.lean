/- When pairs are enough. -/
import Derived.Test.YtjkalahhpobefaaGreatDJ
namespace Go.Proofs.YtjkalahhpobefaaGreat.Gb
open Go.Proofs.Tryz
set_option linter.unusedSimpArgs false
set_option linter.unusedVariables false
structure cH(τ M:Type) where
 lt:τ->τ->Prop
 act:M->τ->τ
 mul:M->M->M
 act_mul:∀a b t,act (mul a b) t=act a (act b t)
 wf:WellFounded lt
 tri:∀s t,lt s t\/s=t\/lt t s
 trans:∀{a b c},lt a b->lt b c->lt a c
 mono:∀a {s t},lt s t->lt (act a s) (act a t)
variable {τ M:Type}
theorem cH.irr(S:cH τ M)(t:τ):¬S.lt t t:=S.wf.induction (C:=λt=>¬S.lt t t) t λx ih h=>ih x h h
def ln(φ:τ->Int):List (Int×τ)->Int
 |[]=>0
 |x::xs=>x.1*φ x.2+ln φ xs
abbrev Fn(τ:Type):=(τ->Int)->Int
structure bu(S:cH τ M)(p:Int) where
 live:Nat->Prop
 g:Nat->List (Int×τ)
 ld:Nat->τ
 lc:Nat->Int
 iv:Nat->Int
 shape:∀i,live i->∃r,(∀φ,ln φ (g i)=lc i*φ (ld i)+ln φ r)/\∀x∈r,S.lt x.2 (ld i)
 inv:∀i,live i->p∣lc i*iv i-1
abbrev Rp(M:Type):=List (Int×M×Nat)
def ev{S:cH τ M}{p:Int}(G:bu S p)(φ:τ->Int):Rp M->Int
 |[]=>0
 |r::rs=>r.1*ln (λt=>φ (S.act r.2.1 t)) (G.g r.2.2)+ev G φ rs
theorem qx{S:cH τ M}{p:Int}(G:bu S p)(φ:τ->Int):∀a b:Rp M,ev G φ (a++b)=ev G φ a+ev G φ b
 |[],b=>by simp[ev]
 |r::a,b=>by simp only[List.cons_append,ev];rw[qx G φ a b];omega
def mS(c:Int)(a:Rp M):Rp M:=a.map λr=>(c*r.1,r.2)
theorem tN{S:cH τ M}{p:Int}(G:bu S p)(φ:τ->Int)(c:Int):∀a:Rp M,ev G φ (mS c a)=c*ev G φ a
 |[]=>by simp[mS,ev]
 |r::a=>by have h:=tN G φ c a;unfold mS at h;simp only[mS,List.map_cons,ev];rw[h,Int.mul_add,Int.mul_assoc]
def mT(S:cH τ M)(m:M)(a:Rp M):Rp M:=a.map λr=>(r.1,S.mul m r.2.1,r.2.2)
theorem tO{S:cH τ M}{p:Int}(G:bu S p)(φ:τ->Int)(m:M):∀a:Rp M,ev G φ (mT S m a)=ev G (λt=>φ (S.act m t)) a
 |[]=>by simp[mT,ev]
 |r::a=>by
  have h:=tO G φ m a;unfold mT at h;simp only[mT,List.map_cons,ev];rw[h];have e:(λt=>φ (S.act (S.mul m r.2.1) t))=λt=>φ (S.act m (S.act r.2.1 t)):=by funext t;rw[S.act_mul]
  rw[e]
def Vb{S:cH τ M}{p:Int}(G:bu S p)(A:τ->Prop)(X:Fn τ):Prop:=∃rp:Rp M,(∀r∈rp,G.live r.2.2/\A (S.act r.2.1 (G.ld r.2.2)))/\∀φ,p∣X φ-ev G φ rp
variable{X:Fn τ}{A B:τ->Prop}{p:Int}{S:cH τ M}
theorem Vb.mono{G:bu S p}(h:Vb G A X)(hAB:∀t,A t->B t):Vb G B X:=by obtain⟨rp,h1,h2⟩:=h;exact⟨rp,λr hr=>⟨(h1 r hr).1,hAB _ (h1 r hr).2⟩,h2⟩
variable{Y:Fn τ}
theorem Vb.congr{G:bu S p}(h:Vb G A X)(e:∀φ,p∣Y φ-X φ):Vb G A Y:=by obtain⟨rp,h1,h2⟩:=h;refine⟨rp,h1,λφ=>?_⟩;obtain⟨a,ha⟩:=h2 φ;obtain⟨b,hb⟩:=e φ;exact⟨a+b,by rw[Int.mul_add];omega⟩
theorem Vb.zero{G:bu S p}(e:∀φ,p∣X φ):Vb G A X:=⟨[],λr hr=>by simp at hr,λφ=>by simpa [ev] using e φ⟩
theorem Vb.add{G:bu S p}(h:Vb G A X)(k:Vb G A Y):Vb G A λφ=>X φ+Y φ:=by obtain⟨rp,h1,h2⟩:=h;obtain⟨rq,k1,k2⟩:=k;refine⟨rp++rq,λr hr=>(OK.1 hr).elim (h1 r) (k1 r),λφ=>?_⟩;obtain⟨a,ha⟩:=h2 φ;obtain⟨b,hb⟩:=k2 φ;rw[qx];refine⟨a+b,?_⟩;show X φ+Y φ-_=_;rw[Int.mul_add];omega
theorem Vb.scl{G:bu S p}(c:Int)(h:Vb G A X):Vb G A λφ=>c*X φ:=by
 obtain⟨rp,h1,h2⟩:=h;refine⟨Go.Proofs.YtjkalahhpobefaaGreat.Gb.mS c rp,λr hr=>?_,λφ=>?_⟩
 .obtain⟨r0,h0,rfl⟩:=OR.1 hr;exact h1 r0 h0
 .obtain⟨a,ha⟩:=h2 φ;rw[tN];refine⟨c*a,?_⟩;rw[<-Int.mul_sub,ha,<-Int.mul_assoc,<-Int.mul_assoc,Int.mul_comm c p]
theorem Vb.shift{G:bu S p}(m:M)(h:Vb G A X)(hAB:∀t,A t->B (S.act m t)):Vb G B λφ=>X λt=>φ (S.act m t):=by
 obtain⟨rp,h1,h2⟩:=h;refine⟨mT S m rp,λr hr=>?_,λφ=>?_⟩
 .obtain⟨r0,h0,rfl⟩:=OR.1 hr;refine⟨(h1 r0 h0).1,?_⟩;simp only;rw[S.act_mul];exact hAB _ (h1 r0 h0).2
 .rw[tO];exact h2 _
def Hm{S:cH τ M}{p:Int}(G:bu S p)(i:Nat)(a:M):Fn τ:=λφ=>G.iv i*ln (λt=>φ (S.act a t)) (G.g i)
def Rl{S:cH τ M}{p:Int}(G:bu S p)(i:Nat)(a:M)(j:Nat)(b:M):Prop:=Vb G (λt=>S.lt t (S.act a (G.ld i))) λφ=>Hm G i a φ-Hm G j b φ
theorem Rl.refl(G:bu S p)(i:Nat)(a:M):Rl G i a i a:=Vb.zero λφ=>⟨0,by omega⟩
variable{a b:M}{i j:Nat}
theorem Rl.symm{G:bu S p}(e:S.act a (G.ld i)=S.act b (G.ld j))(h:Rl G i a j b):Rl G j b i a:=by unfold Rl at h⊢;rw[<-e];exact(Vb.scl (-1) h).congr λφ=>⟨0,by omega⟩
variable{k:Nat}
theorem Rl.trans{G:bu S p}{c:M}(e:S.act a (G.ld i)=S.act b (G.ld j))(h:Rl G i a j b)(h2:Rl G j b k c):Rl G i a k c:=by unfold Rl at h h2⊢;rw[<-e] at h2;exact(Vb.add h h2).congr λφ=>⟨0,by omega⟩
theorem Rl.shift{G:bu S p}(m:M)(h:Rl G i a j b):Rl G i (S.mul m a) j (S.mul m b):=by
 unfold Rl at h⊢;have h2:=Vb.shift (B:=λt=>S.lt t (S.act (S.mul m a) (G.ld i))) m h (λt ht=>by rw[S.act_mul];exact S.mono m ht);refine h2.congr λφ=>?_;unfold Hm;have e1:(λt=>φ (S.act (S.mul m a) t))=λt=>φ (S.act m (S.act a t)):=by funext t;rw[S.act_mul]
 have e2:(λt=>φ (S.act (S.mul m b) t))=λt=>φ (S.act m (S.act b t)):=by funext t;rw[S.act_mul]
 rw[e1,e2];exact⟨0,by simp⟩
def dl[DecidableEq τ](t:τ):τ->Int:=λs=>if s=t then 1 else 0
theorem jl{φ:τ->Int}:∀{l:List (Int×τ)},(∀x∈l,φ x.2=0)->ln φ l=0
 |[],_=>rfl
 |x::l,h=>by simp only[ln];rw[h x (by simp),jl λy hy=>h y (by simp[hy])];omega
theorem yo[DecidableEq τ]{G:bu S p}(hi:G.live i)(a:M)(t:τ)(h:S.act a (G.ld i)=t):ln (λs=>dl t (S.act a s)) (G.g i)=G.lc i:=by
 obtain⟨r,e,hr⟩:=G.shape i hi;rw[e];rw[jl (l:=r) λx hx=>by
  unfold dl;rw[OV];intro e2;have:=S.mono a (hr x hx);rw[e2,h] at this;exact S.irr _ this]
 unfold dl;rw[OW h];omega
theorem tP[DecidableEq τ]{G:bu S p}(hi:G.live i)(a:M)(t:τ)(h:S.lt (S.act a (G.ld i)) t):ln (λs=>dl t (S.act a s)) (G.g i)=0:=by
 obtain⟨r,e,hr⟩:=G.shape i hi;rw[e];rw[jl (l:=r) λx hx=>by
  unfold dl;rw[OV];intro e2;have:=S.trans (S.mono a (hr x hx)) h;rw[e2] at this;exact S.irr _ this]
 unfold dl;rw[OV]
 .omega
 .intro e2;rw[e2] at h;exact S.irr _ h
theorem oT[DecidableEq τ]{S:cH τ M}{p:Int}{G:bu S p}(t:τ):∀{rp:Rp M},(∀r∈rp,G.live r.2.2/\S.lt (S.act r.2.1 (G.ld r.2.2)) t)->ev G (dl t) rp=0
 |[],_=>rfl
 |r::rp,h=>by simp only[ev];rw[tP (h r (by simp)).1 _ _ (h r (by simp)).2,oT t λx hx=>h x (by simp[hx])];omega
def ic{S:cH τ M}{p:Int}(G:bu S p):Prop:=∀i a j b,G.live i->G.live j->S.act a (G.ld i)=S.act b (G.ld j)->Rl G i a j b
theorem yp[DecidableEq τ]{S:cH τ M}{p:Int}{G:bu S p}(hA:ic G)(t:τ):∀(rp:Rp M),(∀r∈rp,G.live r.2.2/\(S.lt (S.act r.2.1 (G.ld r.2.2)) t\/S.act r.2.1 (G.ld r.2.2)=t))->(Vb G (λs=>S.lt s t) λφ=>ev G φ rp)\/∃i a c,G.live i/\S.act a (G.ld i)=t/\(Vb G (λs=>S.lt s t) λφ=>ev G φ rp-c*Hm G i a φ)/\p∣ev G (dl t) rp-c
 |[],_=>Pf (Vb.zero λφ=>by simp[ev])
 |r::rp,h=>by
  have hr:=h r (by simp);have ih:=yp hA t rp λx hx=>h x (by simp[hx]);rcases hr.2 with hlt|heq
  .have hv:Vb G (λs=>S.lt s t) λφ=>r.1*ln (λs=>φ (S.act r.2.1 s)) (G.g r.2.2):=⟨[r],λx hx=>by rw[OL] at hx;rw[hx];exact⟨hr.1,hlt⟩,λφ=>⟨0,by simp[ev]⟩⟩;rcases ih with ih|⟨i,a,c,h1,h2,h3,h4⟩
   .exact Pf ((Vb.add hv ih).congr λφ=>⟨0,by simp only[ev];omega⟩)
   .refine Pg ⟨i,a,c,h1,h2,(Vb.add hv h3).congr λφ=>⟨0,by simp only[ev];omega⟩,?_⟩;simp only[ev];rw[tP hr.1 _ _ hlt];simpa using h4
  .obtain⟨q,hq⟩:=G.inv r.2.2 hr.1;have hself:∀φ,p∣r.1*ln (λs=>φ (S.act r.2.1 s)) (G.g r.2.2)-(r.1*G.lc r.2.2)*Hm G r.2.2 r.2.1 φ:=λφ=>by
    unfold Hm;generalize ln (λs=>φ (S.act r.2.1 s)) (G.g r.2.2)=z;refine⟨-(q*r.1*z),?_⟩;have e:G.lc r.2.2*G.iv r.2.2=1+p*q:=by omega
    have e2:r.1*G.lc r.2.2*(G.iv r.2.2*z)=r.1*z*(G.lc r.2.2*G.iv r.2.2):=by grind
    rw[e2,e];grind
   have hco:ev G (dl t) (r::rp)=r.1*G.lc r.2.2+ev G (dl t) rp:=by simp only[ev];rw[yo hr.1 r.2.1 t heq]
   rcases ih with ih|⟨i,a,c,h1,h2,h3,h4⟩
   .refine Pg ⟨r.2.2,r.2.1,r.1*G.lc r.2.2,hr.1,heq,ih.congr λφ=>?_,?_⟩
    .obtain⟨z,hz⟩:=hself φ;exact⟨z,by simp only[ev];omega⟩
    .obtain⟨rq,k1,k2⟩:=ih;obtain⟨z,hz⟩:=k2 (dl t);have hz:ev G (dl t) rp-ev G (dl t) rq=p*z:=hz;rw[oT t k1] at hz;rw[hco];exact⟨z,by omega⟩
   .have hR:=hA i a r.2.2 r.2.1 h1 hr.1 (by rw[h2,heq]);unfold Rl at hR;rw[h2] at hR;refine Pg ⟨i,a,c+r.1*G.lc r.2.2,h1,h2,((Vb.add h3 (Vb.scl (-(r.1*G.lc r.2.2)) hR)).congr λφ=>?_),?_⟩
    .obtain⟨z,hz⟩:=hself φ;refine⟨z,?_⟩;simp only[ev];grind
    .obtain⟨z,hz⟩:=h4;rw[hco];exact⟨z,by omega⟩
theorem top[DecidableEq τ]{G:bu S p}(hA:ic G)(T:τ):∀X:Fn τ,Vb G (λs=>S.lt s T\/s=T) X->(∀φ,p∣X φ)\/∃i a t,G.live i/\S.act a (G.ld i)=t/\¬p∣X (dl t)/\∀s,S.lt t s->p∣X (dl s):=by
 induction T using S.wf.induction with
 |_ T ih=>
  intro X hX;obtain⟨rp,h1,h2⟩:=hX;have hlow:Vb G (λs=>S.lt s T) X->(∀φ,p∣X φ)\/∃i a t,G.live i/\S.act a (G.ld i)=t/\¬p∣X (dl t)/\∀s,S.lt t s->p∣X (dl s):=by
   rintro ⟨rq,k1,k2⟩;cases rq with
   |nil=>exact Pf λφ=>by simpa [ev] using k2 φ
   |cons r rq=>
    have hmax:∀(l:Rp M)(m:τ),S.lt m T->(∀x∈l,S.lt (S.act x.2.1 (G.ld x.2.2)) T)->∃m2,S.lt m2 T/\(S.lt m m2\/m=m2)/\∀x∈l,S.lt (S.act x.2.1 (G.ld x.2.2)) m2\/S.act x.2.1 (G.ld x.2.2)=m2:=by
     intro l;induction l with
     |nil=>exact λm hm _=>⟨m,hm,Pg rfl,λx hx=>by simp at hx⟩
     |cons y l ihl=>
      intro m hm hl;obtain⟨m2,a1,a2,a3⟩:=ihl m hm λx hx=>hl x (by simp[hx]);rcases S.tri (S.act y.2.1 (G.ld y.2.2)) m2 with h|h|h
      .exact⟨m2,a1,a2,λx hx=>(OY.1 hx).elim (λe=>by rw[e];exact Pf h) (a3 x)⟩
      .exact⟨m2,a1,a2,λx hx=>(OY.1 hx).elim (λe=>by rw[e];exact Pg h) (a3 x)⟩
      .refine⟨S.act y.2.1 (G.ld y.2.2),hl y (by simp),Pf (a2.elim (λh2=>S.trans h2 h) (λe=>by rw[e];exact h)),λx hx=>(OY.1 hx).elim (λe=>by rw[e];exact Pg rfl) (λhx=>Pf ((a3 x hx).elim (λh2=>S.trans h2 h) (λe=>by rw[e];exact h)))⟩
    obtain⟨m2,b1,b2,b3⟩:=hmax rq (S.act r.2.1 (G.ld r.2.2)) (k1 r (by simp)).2 (λx hx=>(k1 x (by simp[hx])).2);refine ih m2 b1 X ⟨r::rq,λx hx=>⟨(k1 x hx).1,?_⟩,k2⟩;rcases OY.1 hx with rfl|hx
    .exact b2
    .exact b3 x hx
  rcases yp hA T rp h1 with hd|⟨i,a,c,d1,d2,d3,d4⟩
  .exact hlow (hd.congr h2)
  .by_cases hc:p∣X (dl T)
   .refine hlow (d3.congr λφ=>?_);obtain⟨z1,hz1⟩:=h2 φ;obtain⟨z2,hz2⟩:=h2 (dl T);obtain⟨z3,hz3⟩:=hc;obtain⟨z4,hz4⟩:=d4;have e:c=p*(z3-z2-z4):=by rw[Int.mul_sub,Int.mul_sub];omega
    refine⟨z1+(z3-z2-z4)*Hm G i a φ,?_⟩;rw[e];grind
   .refine Pg ⟨i,a,T,d1,d2,hc,λs hs=>?_⟩;obtain⟨z,hz⟩:=h2 (dl s);rw[oT s λr hr=>⟨(h1 r hr).1,(h1 r hr).2.elim (λh=>S.trans h hs) (λe=>by rw[e];exact hs)⟩] at hz;exact⟨z,by omega⟩
structure lY(τ:Type) where
 dv:τ->τ->Prop
 deg:τ->Nat
 lc:τ->τ->τ
 trans:∀{a b c},dv a b->dv b c->dv a c
 refl:∀a,dv a a
 less:∀{a b},dv a b->a≠b->deg a<deg b
 lcl:∀{a b t},dv a t->dv b t->dv a (lc a b)
 lcr:∀{a b t},dv a t->dv b t->dv b (lc a b)
 lci:∀{a b t},dv a t->dv b t->dv (lc a b) t
def Pa(E:Nat->Nat->Prop)(i j:Nat):Prop:=∀P:Nat->Prop,P i->(∀j k,P j->E j k->P k)->(∀j k,P j->E k j->P k)->P j
variable{E:Nat->Nat->Prop}
theorem Pa.refl(i:Nat):Pa E i i:=λ_ h _ _=>h
theorem Pa.fwd(h:Pa E i j)(e:E j k):Pa E i k:=λP h1 h2 h3=>h2 j k (h P h1 h2 h3) e
theorem Pa.bwd(h:Pa E i j)(e:E k j):Pa E i k:=λP h1 h2 h3=>h3 j k (h P h1 h2 h3) e
theorem Pa.ind{E:Nat->Nat->Prop}{i:Nat}{motive:∀j,Pa E i j->Prop}(refl:motive i (Pa.refl i))(fwd:∀{j k}(h:Pa E i j)(e:E j k),motive j h->motive k (h.fwd e))(bwd:∀{j k}(h:Pa E i j)(e:E k j),motive j h->motive k (h.bwd e)){j:Nat}(h:Pa E i j):motive j h:=by have:=h (λj=>∃h,motive j h) ⟨_,refl⟩ (λj k ⟨h1,h2⟩ e=>⟨_,fwd h1 e h2⟩) (λj k ⟨h1,h2⟩ e=>⟨_,bwd h1 e h2⟩);exact this.2
theorem Pa.trans(h:Pa E i j)(g:Pa E j k):Pa E i k:=by
 induction g using Pa.ind with
 |refl=>exact h
 |fwd _ e ih=>exact ih.fwd e
 |bwd _ e ih=>exact ih.bwd e
theorem Pa.symm(h:Pa E i j):Pa E j i:=by
 induction h using Pa.ind with
 |refl=>exact Pa.refl _
 |fwd _ e ih=>exact((Pa.refl _).bwd e).trans ih
 |bwd _ e ih=>exact((Pa.refl _).fwd e).trans ih
theorem Pa.mono{F:Nat->Nat->Prop}(h:Pa E i j)(hEF:∀a b,E a b->F a b):Pa F i j:=by
 induction h using Pa.ind with
 |refl=>exact Pa.refl _
 |fwd _ e ih=>exact ih.fwd (hEF _ _ e)
 |bwd _ e ih=>exact ih.bwd (hEF _ _ e)
def Ed(D:lY τ)(ld:Nat->τ)(P:Nat->Nat->Prop)(t:τ)(i j:Nat):Prop:=P i j/\D.dv (ld i) t/\D.dv (ld j) t/\D.dv (D.lc (ld i) (ld j)) t
structure iz(D:lY τ)(ld:Nat->τ)(n:Nat)(P:Nat->Nat->Prop)(gone:Nat->Prop):Prop where
 con:∀t i j,i<n->j<n->D.dv (ld i) t->D.dv (ld j) t->Pa (Ed D ld P t) i j
 gn:∀x,x<n->gone x->∃y,y<n/\¬gone y/\D.dv (ld y) (ld x)
 lt:∀i j,P i j->i<n/\j<n
theorem iz.step{D:lY τ}{ld:Nat->τ}{n:Nat}{P:Nat->Nat->Prop}{gone:Nat->Prop}(h:iz D ld n P gone){P':Nat->Nat->Prop}{gone' kept:Nat->Prop}(hk1:∀x,kept x->x<n)(hk2:∀x t,x<n->¬gone x->D.dv (ld x) t->D.dv (ld n) t->kept x\/∃y,kept y/\D.dv (ld y) t/\D.dv (D.lc (ld y) (ld n)) (D.lc (ld x) (ld n)))(hP1:∀i j,P' i j->(P i j\/(j=n/\kept i)))(hP2:∀i,kept i->P' i n)(hP3:∀i j,P i j->P' i j\/(D.dv (ld n) (D.lc (ld i) (ld j))/\D.lc (ld i) (ld n)≠D.lc (ld i) (ld j)/\D.lc (ld j) (ld n)≠D.lc (ld i) (ld j)))(hg:∀x,gone' x↔(x<n/\(gone x\/D.dv (ld n) (ld x)))):iz D ld (n+1) P' gone':=by
 have core:∀t,(∀s,D.deg s<D.deg t->D.dv (ld n) s->∀x,x<n->D.dv (ld x) s->Pa (Ed D ld P' s) x n)->D.dv (ld n) t->∀x,x<n->D.dv (ld x) t->Pa (Ed D ld P' t) x n:=by
  intro t ih hf;have up:∀s i j,D.dv s t->Pa (Ed D ld P' s) i j->Pa (Ed D ld P' t) i j:=λs i j hs hp=>hp.mono λa b e=>⟨e.1,D.trans e.2.1 hs,D.trans e.2.2.1 hs,D.trans e.2.2.2 hs⟩;have low:∀i,i<n->D.dv (ld i) t->D.lc (ld i) (ld n)≠t->Pa (Ed D ld P' t) i n:=λi hi hit hne=>by have hs:=D.lci hit hf;exact up _ _ _ hs (ih _ (D.less hs hne) (D.lcr hit hf) i hi (D.lcl hit hf))
  have old:∀i j,i<n->j<n->D.dv (ld i) t->D.dv (ld j) t->Pa (Ed D ld P' t) i j:=λi j hi hj hit hjt=>by
   have hp:=h.con t i j hi hj hit hjt;have one:∀a b,Ed D ld P t a b->Pa (Ed D ld P' t) a b:=λa b e=>by
    obtain⟨ha,hb⟩:=h.lt a b e.1;rcases hP3 a b e.1 with h1|⟨h1,h2,h3⟩
    .exact(Pa.refl a).fwd ⟨h1,e.2⟩
    .have hal:=D.lcl e.2.1 e.2.2.1;have hbl:=D.lcr e.2.1 e.2.2.1;have q1:D.deg (D.lc (ld a) (ld n))<D.deg (D.lc (ld a) (ld b)):=D.less (D.lci hal h1) h2;have q2:D.deg (D.lc (ld b) (ld n))<D.deg (D.lc (ld a) (ld b)):=D.less (D.lci hbl h1) h3;have q3:D.deg (D.lc (ld a) (ld b))<=D.deg t:=by
      by_cases e9:D.lc (ld a) (ld b)=t
      .rw[e9];exact Ou _
      .exact Nat.le_of_lt (D.less e.2.2.2 e9)
     have n1:D.lc (ld a) (ld n)≠t:=λe9=>by rw[e9] at q1;omega
     have n2:D.lc (ld b) (ld n)≠t:=λe9=>by rw[e9] at q2;omega
     exact(low a ha e.2.1 n1).trans (low b hb e.2.2.1 n2).symm
   clear hit hjt hi hj;induction hp using Pa.ind with
   |refl=>exact Pa.refl _
   |fwd _ e ih2=>exact ih2.trans (one _ _ e)
   |bwd _ e ih2=>exact ih2.trans (one _ _ e).symm
  have alive:∀x,x<n->¬gone x->D.dv (ld x) t->Pa (Ed D ld P' t) x n:=λx hx hg2 hxt=>by
   rcases hk2 x t hx hg2 hxt hf with hk|⟨y,hy,hyt,_⟩
   .exact(Pa.refl x).fwd ⟨hP2 x hk,hxt,hf,D.lci hxt hf⟩
   .exact(old x y hx (hk1 y hy) hxt hyt).trans ((Pa.refl y).fwd ⟨hP2 y hy,hyt,hf,D.lci hyt hf⟩)
  intro x hx hxt;by_cases hgx:gone x
  .obtain⟨y,hy,hgy,hyx⟩:=h.gn x hx hgx;have hyt:=D.trans hyx hxt;exact(old x y hx hy hxt hyt).trans (alive y hy hgy hyt)
  .exact alive x hx hgx hxt
 have key:∀(m:Nat)(t:τ),D.deg t<m->D.dv (ld n) t->∀x,x<n->D.dv (ld x) t->Pa (Ed D ld P' t) x n:=by
  intro m;induction m with
  |zero=>intro t hm;omega
  |succ m ihm=>exact λt hm hf=>core t (λs hs hfs=>ihm s (by omega) hfs) hf
 refine⟨λt i j hi hj hit hjt=>?_,λx hx hgx=>?_,λi j hp=>?_⟩
 .by_cases hf:D.dv (ld n) t
  .have toN:∀i,i<n+1->D.dv (ld i) t->Pa (Ed D ld P' t) i n:=λi hi hit=>by
    rcases Nat.lt_or_ge i n with h1|h1
    .exact key _ t (Nat.lt_succ_self _) hf i h1 hit
    .have:i=n:=by omega
     rw[this];exact Pa.refl _
   exact(toN i hi hit).trans (toN j hj hjt).symm
  .have hi2:i<n:=by
    rcases Nat.lt_or_ge i n with h1|h1
    .exact h1
    .have:i=n:=by omega
     rw[this] at hit;exact absurd hit hf
   have hj2:j<n:=by
    rcases Nat.lt_or_ge j n with h1|h1
    .exact h1
    .have:j=n:=by omega
     rw[this] at hjt;exact absurd hjt hf
   refine(h.con t i j hi2 hj2 hit hjt).mono λa b e=>⟨?_,e.2⟩;rcases hP3 a b e.1 with h1|⟨h1,_⟩
   .exact h1
   .exact absurd (D.trans h1 e.2.2.2) hf
 .obtain⟨h1,h2⟩:=(hg x).1 hgx;have hn:¬gone' n:=λh=>by have:=((hg n).1 h).1;omega
  by_cases hd:D.dv (ld n) (ld x)
  .exact⟨n,by omega,hn,hd⟩
  .have h3:gone x:=h2.elim id λh=>absurd h hd;obtain⟨y,y1,y2,y3⟩:=h.gn x h1 h3;by_cases hy:gone' y
   .have h4:=((hg y).1 hy).2;have h5:D.dv (ld n) (ld y):=h4.elim (λh=>absurd h y2) id;exact⟨n,by omega,hn,D.trans h5 y3⟩
   .exact⟨y,by omega,hy,y3⟩
 .rcases hP1 i j hp with h1|⟨h1,h2⟩
  .have:=h.lt i j h1;omega
  .have:=hk1 i h2;omega
end Go.Proofs.YtjkalahhpobefaaGreat.Gb
namespace Go.Proofs.YtjkalahhpobefaaGreat.Gb
open Go.Proofs.Tryz
set_option linter.unusedSimpArgs false
set_option linter.unusedVariables false
abbrev Te:=Nat×Nat×Nat×Nat
abbrev Mo:=Nat×Nat×Nat
def yq(m:Mo)(t:Te):Te:=(t.1,t.2.1+m.1,t.2.2.1+m.2.1,t.2.2.2+m.2.2)
def bH(m k:Mo):Mo:=(m.1+k.1,m.2.1+k.2.1,m.2.2+k.2.2)
def c1(o:Int)(t:Te):Nat:=if o=1 then t.2.1+t.2.2.1 else t.2.1
def c2(o:Int)(t:Te):Nat:=if o=1 then t.2.1 else t.2.2.1
def yr(t:Te):Nat:=t.2.1+t.2.2.1+t.2.2.2
def L4(x y:Nat×Nat×Nat×Nat):Prop:=x.1<y.1\/(x.1=y.1/\(x.2.1<y.2.1\/(x.2.1=y.2.1/\(x.2.2.1<y.2.2.1\/(x.2.2.1=y.2.2.1/\x.2.2.2<y.2.2.2)))))
def eG:lY Te where
 dv s t:=s.1=t.1/\s.2.1<=t.2.1/\s.2.2.1<=t.2.2.1/\s.2.2.2<=t.2.2.2
 deg:=yr
 lc s t:=(s.1,max s.2.1 t.2.1,max s.2.2.1 t.2.2.1,max s.2.2.2 t.2.2.2)
 trans {a b c} h k:=by omega
 refl a:=by omega
 less {a b} h hne:=by obtain⟨a0,a1,a2,a3⟩:=a;obtain⟨b0,b1,b2,b3⟩:=b;simp only[ne_eq,Prod.mk.injEq] at h hne;unfold yr;simp only;omega
 lcl {a b t} h k:=by have h:a.1=t.1/\a.2.1<=t.2.1/\a.2.2.1<=t.2.2.1/\a.2.2.2<=t.2.2.2:=h;have k:b.1=t.1/\b.2.1<=t.2.1/\b.2.2.1<=t.2.2.1/\b.2.2.2<=t.2.2.2:=k;show a.1=a.1/\a.2.1<=max a.2.1 b.2.1/\a.2.2.1<=max a.2.2.1 b.2.2.1/\a.2.2.2<=max a.2.2.2 b.2.2.2;omega
 lcr {a b t} h k:=by have h:a.1=t.1/\a.2.1<=t.2.1/\a.2.2.1<=t.2.2.1/\a.2.2.2<=t.2.2.2:=h;have k:b.1=t.1/\b.2.1<=t.2.1/\b.2.2.1<=t.2.2.1/\b.2.2.2<=t.2.2.2:=k;show b.1=a.1/\b.2.1<=max a.2.1 b.2.1/\b.2.2.1<=max a.2.2.1 b.2.2.1/\b.2.2.2<=max a.2.2.2 b.2.2.2;omega
 lci {a b t} h k:=by have h:a.1=t.1/\a.2.1<=t.2.1/\a.2.2.1<=t.2.2.1/\a.2.2.2<=t.2.2.2:=h;have k:b.1=t.1/\b.2.1<=t.2.1/\b.2.2.1<=t.2.2.1/\b.2.2.2<=t.2.2.2:=k;show a.1=t.1/\max a.2.1 b.2.1<=t.2.1/\max a.2.2.1 b.2.2.1<=t.2.2.1/\max a.2.2.2 b.2.2.2<=t.2.2.2;omega
end Go.Proofs.YtjkalahhpobefaaGreat.Gb
namespace Go.Proofs.YtjkalahhpobefaaGreat.Gb
open Go.Proofs.Tryz
set_option linter.unusedSimpArgs false
set_option linter.unusedVariables false
variable {τ M:Type}
def mU{S:cH τ M}{p:Int}(G:bu S p)(A:τ->Prop):Prop:=∀i a j b,G.live i->G.live j->S.act a (G.ld i)=S.act b (G.ld j)->A (S.act a (G.ld i))->Rl G i a j b
theorem yt[DecidableEq τ]{S:cH τ M}{p:Int}{G:bu S p}{A:τ->Prop}(hA:mU G A)(t:τ)(ht:A t):∀(rp:Rp M),(∀r∈rp,G.live r.2.2/\(S.lt (S.act r.2.1 (G.ld r.2.2)) t\/S.act r.2.1 (G.ld r.2.2)=t))->(Vb G (λs=>S.lt s t) λφ=>ev G φ rp)\/∃i a c,G.live i/\S.act a (G.ld i)=t/\(Vb G (λs=>S.lt s t) λφ=>ev G φ rp-c*Hm G i a φ)/\p∣ev G (dl t) rp-c
 |[],_=>Pf (Vb.zero λφ=>by simp[ev])
 |r::rp,h=>by
  have hr:=h r (by simp);have ih:=yt hA t ht rp λx hx=>h x (by simp[hx]);rcases hr.2 with hlt|heq
  .have hv:Vb G (λs=>S.lt s t) λφ=>r.1*ln (λs=>φ (S.act r.2.1 s)) (G.g r.2.2):=⟨[r],λx hx=>by rw[OL] at hx;rw[hx];exact⟨hr.1,hlt⟩,λφ=>⟨0,by simp[ev]⟩⟩;rcases ih with ih|⟨i,a,c,h1,h2,h3,h4⟩
   .exact Pf ((Vb.add hv ih).congr λφ=>⟨0,by simp only[ev];omega⟩)
   .refine Pg ⟨i,a,c,h1,h2,(Vb.add hv h3).congr λφ=>⟨0,by simp only[ev];omega⟩,?_⟩;simp only[ev];rw[tP hr.1 _ _ hlt];simpa using h4
  .obtain⟨q,hq⟩:=G.inv r.2.2 hr.1;have hself:∀φ,p∣r.1*ln (λs=>φ (S.act r.2.1 s)) (G.g r.2.2)-(r.1*G.lc r.2.2)*Hm G r.2.2 r.2.1 φ:=λφ=>by
    unfold Hm;generalize ln (λs=>φ (S.act r.2.1 s)) (G.g r.2.2)=z;refine⟨-(q*r.1*z),?_⟩;have e:G.lc r.2.2*G.iv r.2.2=1+p*q:=by omega
    have e2:r.1*G.lc r.2.2*(G.iv r.2.2*z)=r.1*z*(G.lc r.2.2*G.iv r.2.2):=by grind
    rw[e2,e];grind
   have hco:ev G (dl t) (r::rp)=r.1*G.lc r.2.2+ev G (dl t) rp:=by simp only[ev];rw[yo hr.1 r.2.1 t heq]
   rcases ih with ih|⟨i,a,c,h1,h2,h3,h4⟩
   .refine Pg ⟨r.2.2,r.2.1,r.1*G.lc r.2.2,hr.1,heq,ih.congr λφ=>?_,?_⟩
    .obtain⟨z,hz⟩:=hself φ;exact⟨z,by simp only[ev];omega⟩
    .obtain⟨rq,k1,k2⟩:=ih;obtain⟨z,hz⟩:=k2 (dl t);have hz:ev G (dl t) rp-ev G (dl t) rq=p*z:=hz;rw[oT t k1] at hz;rw[hco];exact⟨z,by omega⟩
   .have hR:=hA i a r.2.2 r.2.1 h1 hr.1 (by rw[h2,heq]) (by rw[h2];exact ht);unfold Rl at hR;rw[h2] at hR;refine Pg ⟨i,a,c+r.1*G.lc r.2.2,h1,h2,((Vb.add h3 (Vb.scl (-(r.1*G.lc r.2.2)) hR)).congr λφ=>?_),?_⟩
    .obtain⟨z,hz⟩:=hself φ;refine⟨z,?_⟩;simp only[ev];grind
    .obtain⟨z,hz⟩:=h4;rw[hco];exact⟨z,by omega⟩
variable{p:Int}
theorem EO[DecidableEq τ]{S:cH τ M}{G:bu S p}{A:τ->Prop}(hA:mU G A)(hdn:∀{s t},S.lt s t->A t->A s)(T:τ)(hT:A T):∀X:Fn τ,Vb G (λs=>S.lt s T\/s=T) X->(∀φ,p∣X φ)\/∃i a t,G.live i/\S.act a (G.ld i)=t/\¬p∣X (dl t)/\∀s,S.lt t s->p∣X (dl s):=by
 induction T using S.wf.induction with
 |_ T ih=>
  intro X hX;obtain⟨rp,h1,h2⟩:=hX;have hlow:Vb G (λs=>S.lt s T) X->(∀φ,p∣X φ)\/∃i a t,G.live i/\S.act a (G.ld i)=t/\¬p∣X (dl t)/\∀s,S.lt t s->p∣X (dl s):=by
   rintro ⟨rq,k1,k2⟩;cases rq with
   |nil=>exact Pf λφ=>by simpa [ev] using k2 φ
   |cons r rq=>
    have hmax:∀(l:Rp M)(m:τ),S.lt m T->(∀x∈l,S.lt (S.act x.2.1 (G.ld x.2.2)) T)->∃m2,S.lt m2 T/\(S.lt m m2\/m=m2)/\∀x∈l,S.lt (S.act x.2.1 (G.ld x.2.2)) m2\/S.act x.2.1 (G.ld x.2.2)=m2:=by
     intro l;induction l with
     |nil=>exact λm hm _=>⟨m,hm,Pg rfl,λx hx=>by simp at hx⟩
     |cons y l ihl=>
      intro m hm hl;obtain⟨m2,a1,a2,a3⟩:=ihl m hm λx hx=>hl x (by simp[hx]);rcases S.tri (S.act y.2.1 (G.ld y.2.2)) m2 with h|h|h
      .exact⟨m2,a1,a2,λx hx=>(OY.1 hx).elim (λe=>by rw[e];exact Pf h) (a3 x)⟩
      .exact⟨m2,a1,a2,λx hx=>(OY.1 hx).elim (λe=>by rw[e];exact Pg h) (a3 x)⟩
      .refine⟨S.act y.2.1 (G.ld y.2.2),hl y (by simp),Pf (a2.elim (λh2=>S.trans h2 h) (λe=>by rw[e];exact h)),λx hx=>(OY.1 hx).elim (λe=>by rw[e];exact Pg rfl) (λhx=>Pf ((a3 x hx).elim (λh2=>S.trans h2 h) (λe=>by rw[e];exact h)))⟩
    obtain⟨m2,b1,b2,b3⟩:=hmax rq (S.act r.2.1 (G.ld r.2.2)) (k1 r (by simp)).2 (λx hx=>(k1 x (by simp[hx])).2);refine ih m2 b1 (hdn b1 hT) X ⟨r::rq,λx hx=>⟨(k1 x hx).1,?_⟩,k2⟩;rcases OY.1 hx with rfl|hx
    .exact b2
    .exact b3 x hx
  rcases yt hA T hT rp h1 with hd|⟨i,a,c,d1,d2,d3,d4⟩
  .exact hlow (hd.congr h2)
  .by_cases hc:p∣X (dl T)
   .refine hlow (d3.congr λφ=>?_);obtain⟨z1,hz1⟩:=h2 φ;obtain⟨z2,hz2⟩:=h2 (dl T);obtain⟨z3,hz3⟩:=hc;obtain⟨z4,hz4⟩:=d4;have e:c=p*(z3-z2-z4):=by rw[Int.mul_sub,Int.mul_sub];omega
    refine⟨z1+(z3-z2-z4)*Hm G i a φ,?_⟩;rw[e];grind
   .refine Pg ⟨i,a,T,d1,d2,hc,λs hs=>?_⟩;obtain⟨z,hz⟩:=h2 (dl s);rw[oT s λr hr=>⟨(h1 r hr).1,(h1 r hr).2.elim (λh=>S.trans h hs) (λe=>by rw[e];exact hs)⟩] at hz;exact⟨z,by omega⟩
theorem EP{τ M:Type}{S:cH τ M}(canc:∀a b s,S.act a s=S.act b s->a=b){G:bu S p}{D:lY τ}(hdv:∀s t,D.dv s t↔∃a,S.act a s=t){P:Nat->Nat->Prop}(hcon:∀t i j,G.live i->G.live j->D.dv (G.ld i) t->D.dv (G.ld j) t->Pa (Ed D G.ld P t) i j){A:τ->Prop}(hAd:∀{s t},D.dv s t->A t->A s)(good:∀i j t,P i j->D.dv (G.ld i) t->D.dv (G.ld j) t->A (D.lc (G.ld i) (G.ld j))->∃a b,S.act a (G.ld i)=D.lc (G.ld i) (G.ld j)/\S.act b (G.ld j)=D.lc (G.ld i) (G.ld j)/\Rl G i a j b):mU G A:=by
 intro i a j b hi hj e hAt;obtain⟨t,ht⟩:∃t,S.act a (G.ld i)=t:=⟨_,rfl⟩;rw[ht] at hAt;have hp:=hcon t i j hi hj ((hdv _ _).2 ⟨a,ht⟩) ((hdv _ _).2 ⟨b,by rw[<-e,ht]⟩);have key:∀k,Pa (Ed D G.ld P t) i k->∃c,S.act c (G.ld k)=t/\Rl G i a k c:=by
  intro k hk;induction hk using Pa.ind with
  |refl=>exact⟨a,ht,Rl.refl G i a⟩
  |fwd _ e2 ih=>obtain⟨c,hc,hr⟩:=ih;obtain⟨a2,b2,h1,h2,h3⟩:=good _ _ t e2.1 e2.2.1 e2.2.2.1 (hAd e2.2.2.2 hAt);obtain⟨m,hm⟩:=(hdv _ _).1 e2.2.2.2;have e3:S.mul m a2=c:=canc _ _ _ (by rw[S.act_mul,h1,hm,hc]);have h4:=h3.shift m;rw[e3] at h4;exact⟨S.mul m b2,by rw[S.act_mul,h2,hm],Rl.trans (by rw[ht,hc]) hr h4⟩
  |bwd _ e2 ih=>obtain⟨c,hc,hr⟩:=ih;obtain⟨a2,b2,h1,h2,h3⟩:=good _ _ t e2.1 e2.2.1 e2.2.2.1 (hAd e2.2.2.2 hAt);obtain⟨m,hm⟩:=(hdv _ _).1 e2.2.2.2;have e3:S.mul m b2=c:=canc _ _ _ (by rw[S.act_mul,h2,hm,hc]);have h4:=h3.shift m;rw[e3] at h4;have e4:=(S.act_mul m a2 _).trans ((congrArg (S.act m) h1).trans hm);exact⟨S.mul m a2,e4,Rl.trans (by rw[ht,hc]) hr (Rl.symm (by rw[e4,hc]) h4)⟩
 obtain⟨c,hc,hr⟩:=key j hp;have e5:c=b:=canc _ _ _ (by rw[hc,<-e,ht]);rw[e5] at hr;exact hr
end Go.Proofs.YtjkalahhpobefaaGreat.Gb
namespace Go.Proofs.YtjkalahhpobefaaGreat.C4
open Go.Proofs.Tryz
set_option linter.unusedSimpArgs false
set_option linter.unusedVariables false
open Cn (Od jq iW bw Pr sm kn yJ tX yL mZ fK qF qE)
abbrev N6:=Nat×Nat×Nat×Nat×Nat×Nat
def L6(x y:N6):Prop:=x.1<y.1\/(x.1=y.1/\(x.2.1<y.2.1\/(x.2.1=y.2.1/\(x.2.2.1<y.2.2.1\/(x.2.2.1=y.2.2.1/\(x.2.2.2.1<y.2.2.2.1\/(x.2.2.2.1=y.2.2.2.1/\(x.2.2.2.2.1<y.2.2.2.2.1\/(x.2.2.2.2.1=y.2.2.2.2.1/\x.2.2.2.2.2<y.2.2.2.2.2)))))))))
theorem EQ:WellFounded L6:=by
 refine Subrelation.wf (r:=(Prod.lex Nat.lt_wfRel (Prod.lex Nat.lt_wfRel (Prod.lex Nat.lt_wfRel (Prod.lex Nat.lt_wfRel (Prod.lex Nat.lt_wfRel Nat.lt_wfRel))))).rel) (fun {x y} h=>?_) (Prod.lex Nat.lt_wfRel (Prod.lex Nat.lt_wfRel (Prod.lex Nat.lt_wfRel (Prod.lex Nat.lt_wfRel (Prod.lex Nat.lt_wfRel Nat.lt_wfRel))))).wf;obtain⟨x1,x2,x3,x4,x5,x6⟩:=x;obtain⟨y1,y2,y3,y4,y5,y6⟩:=y;rcases h with h|⟨h,h2⟩
 .exact Prod.Lex.left _ _ h
 .simp only at h;subst h;refine Prod.Lex.right _ ?_;rcases h2 with h|⟨h,h2⟩
  .exact Prod.Lex.left _ _ h
  .simp only at h;subst h;refine Prod.Lex.right _ ?_;rcases h2 with h|⟨h,h2⟩
   .exact Prod.Lex.left _ _ h
   .simp only at h;subst h;refine Prod.Lex.right _ ?_;rcases h2 with h|⟨h,h2⟩
    .exact Prod.Lex.left _ _ h
    .simp only at h;subst h;refine Prod.Lex.right _ ?_;rcases h2 with h|⟨h,h2⟩
     .exact Prod.Lex.left _ _ h
     .simp only at h;subst h;exact Prod.Lex.right _ h2
def iA(i:Nat):Nat:=if i<256 then 255-i else i
theorem ER{i j:Nat}(h:iA i=iA j):i=j:=by unfold iA at h;split at h<;>split at h<;>omega
def fS(n:Nat)(d:Nat->Nat)(t:Tt):N6:=(d t.1+aC t.2,(if t.1<n then 1 else 0),t.2.1+t.2.2.1+t.2.2.2.1,t.2.1+t.2.2.1,t.2.1+t.2.2.2.1,iA t.1)
theorem ES{n:Nat}{d:Nat->Nat}{s t:Tt}(h:fS n d s=fS n d t):s=t:=by obtain⟨s0,s1,s2,s3,s4⟩:=s;obtain⟨t0,t1,t2,t3,t4⟩:=t;have h:(d s0+(s1+s2+s3+s4),(if s0<n then 1 else 0),s1+s2+s3,s1+s2,s1+s3,iA s0)=(d t0+(t1+t2+t3+t4),(if t0<n then 1 else 0),t1+t2+t3,t1+t2,t1+t3,iA t0):=h;simp only[Prod.mk.injEq] at h;obtain⟨h1,_,h3,h4,h5,h6⟩:=h;have h6:=ER h6;subst h6;simp only[Prod.mk.injEq,true_and];omega
def aN(n:Nat)(d:Nat->Nat):Gb.cH Tt Mt where
 lt s t:=L6 (fS n d s) (fS n d t)
 act:=aw
 mul:=bH
 act_mul a b t:=by obtain⟨a1,a2,a3,a4⟩:=a;obtain⟨b1,b2,b3,b4⟩:=b;obtain⟨t0,t1,t2,t3,t4⟩:=t;simp only[aw,bH,Prod.mk.injEq,true_and];omega
 wf:=InvImage.wf (fS n d) EQ
 tri s t:=by
  have h:=@ES n d s t;generalize fS n d s=x at h⊢;generalize fS n d t=y at h⊢;obtain⟨x1,x2,x3,x4,x5,x6⟩:=x;obtain⟨y1,y2,y3,y4,y5,y6⟩:=y;by_cases e:(x1,x2,x3,x4,x5,x6)=(y1,y2,y3,y4,y5,y6)
  .exact Pg (Pf (h e))
  .simp only[Prod.mk.injEq] at e;unfold L6;simp only;have:(x1<y1\/x1=y1/\(x2<y2\/x2=y2/\(x3<y3\/x3=y3/\(x4<y4\/x4=y4/\(x5<y5\/x5=y5/\x6<y6)))))\/(y1<x1\/y1=x1/\(y2<x2\/y2=x2/\(y3<x3\/y3=x3/\(y4<x4\/y4=x4/\(y5<x5\/y5=x5/\y6<x6))))):=by omega
   exact this.elim Pf λh=>Pg (Pg h)
 trans {a b c} h k:=by revert h k;generalize fS n d a=x;generalize fS n d b=y;generalize fS n d c=z;unfold L6;omega
 mono a {s t} h:=by revert h;obtain⟨s0,s1,s2,s3,s4⟩:=s;obtain⟨t0,t1,t2,t3,t4⟩:=t;obtain⟨m1,m2,m3,m4⟩:=a;unfold fS aw bH aC L6;simp only;generalize (if s0<n then 1 else 0:Nat)=x;generalize (if t0<n then 1 else 0:Nat)=y;generalize iA s0=u;generalize iA t0=v;omega
variable{d:Nat->Nat}{n:Nat}
theorem ET:∀a b s,(aN n d).act a s=(aN n d).act b s->a=b:=by intro a b s h;have h:aw a s=aw b s:=h;simp only[aw,Prod.mk.injEq,true_and] at h;rw[lZ a,lZ b] at h;exact qy h
def bR:Gb.lY Tt where
 dv s t:=s.1=t.1/\cj s.2 t.2
 deg t:=aC t.2
 lc s t:=(s.1,max s.2.1 t.2.1,max s.2.2.1 t.2.2.1,max s.2.2.2.1 t.2.2.2.1,max s.2.2.2.2 t.2.2.2.2)
 trans {a b c} h k:=by unfold cj at*;omega
 refl a:=by unfold cj;omega
 less {a b} h hne:=by obtain⟨a0,a1,a2,a3,a4⟩:=a;obtain⟨b0,b1,b2,b3,b4⟩:=b;unfold cj at h;simp only[ne_eq,Prod.mk.injEq] at h hne;unfold aC;simp only;omega
 lcl {a b t} h k:=by unfold cj at*;refine⟨rfl,?_⟩;simp only;omega
 lcr {a b t} h k:=by have e:b.1=a.1:=k.1.trans h.1.symm;unfold cj at*;refine⟨e,?_⟩;simp only;omega
 lci {a b t} h k:=by unfold cj at*;simp only;omega
theorem qz(n:Nat)(d:Nat->Nat)(s t:Tt):bR.dv s t↔∃a,(aN n d).act a s=t:=by
 constructor
 .intro h;have h:s.1=t.1/\cj s.2 t.2:=h;refine⟨dH s.2 t.2,?_⟩;show aw _ _=_;unfold aw;rw[lZ,oU h.2,h.1]
 .rintro ⟨a,h⟩;have h:aw a s=t:=h;rw[<-h];show s.1=s.1/\cj s.2 (bH a s.2);exact⟨rfl,by rw[lZ];exact qA _ _⟩
theorem EU{s t:Tt}(h:(aN n d).lt s t):d s.1+aC s.2<=d t.1+aC t.2:=by have h:L6 (fS n d s) (fS n d t):=h;unfold L6 fS at h;simp only at h;omega
def ie(n:Nat)(d:Nat->Nat):Od Tt:=⟨(aN n d).lt,(aN n d).wf,(aN n d).tri,(aN n d).trans⟩
def yu:Od Mt where
 lt s t:=(ie 0 λ_=>0).lt (0,s) (0,t)
 wf:=InvImage.wf (λs:Mt=>((0,s):Tt)) (ie 0 λ_=>0).wf
 tri s t:=by
  rcases (ie 0 λ_=>0).tri (0,s) (0,t) with h|h|h
  .exact Pf h
  .exact Pg (Pf (by simpa using h))
  .exact Pg (Pg h)
 trans h k:=(ie 0 λ_=>0).trans h k
end Go.Proofs.YtjkalahhpobefaaGreat.C4
namespace Go.Proofs.YtjkalahhpobefaaGreat.C4
open Go.Proofs.Tryz
set_option linter.unusedSimpArgs false
set_option linter.unusedVariables false
open Cn (Od jq iW bw Pr)
theorem EV{τ:Type}{A:τ->Prop}{k:Nat}(h:bw A k){l:List τ}(hn:l.Nodup)(hl:∀x∈l,A x):l.length<=k:=by obtain⟨m,m1,m2,m3⟩:=h;have:=qB (λ_=>1) l m hn λx hx=>(m2 x).2 (hl x hx);rw[iB (c:=1) λ_ _=>rfl,iB (c:=1) λ_ _=>rfl] at this;omega
theorem EW(O:Od Tt)(hO:∀x {s t},O.lt s t->O.lt (aw x s) (aw x t))(P:Od Mt){p:Int}(hp:Pr p)(hp1:¬p∣1){w n:Nat}(hw:w<=3)(hn4:n<=4){d:Nat->Nat}(hd0:∀i,i<w->d i=0)(hd:∀i,i<w+n->d i<=3){G:List (Nat×(Tt->Int))}{us:List Nat}(hus:us.Perm ((List.range n).map (w+·)))(hG:Un p d us G){l:List Tt}(hl:l.Nodup)(hm:∀s∈l,s.1<w+n/\Ml (λy=>LM O p (w+n) d G (s.1,y)) s.2):l.length<=2000001:=by
 have hbd:=fun(s:Tt)(hs:s∈l)=>yv O hO P hp hp1 hw hd0 hd hus hG (hm s hs).1 (hm s hs).2.1 (hm s hs).2.2;obtain⟨R,hRR⟩:∃R,R=w+n:=⟨_,rfl⟩;rw[<-hRR] at hd hm;have c3:=λt=>tQ O P hp hp1 R d t _ G (λu hu=>by obtain⟨k,hk,rfl⟩:=OR.1 (hus.mem_iff.1 hu);have:=List.mem_range.1 hk;omega) hG;simp only[λt=>(hus.map λu=>iC (d u) t).sum_nat] at c3;have ea:∃α:Nat->Nat->Nat,∀i s,HF (Bq λy=>LM O p R d G (i,y)) s (α i s):=⟨λi s=>(jL (Bq λy=>LM O p R d G (i,y)) (λm h=>h.1) s).choose,λi s=>(jL (Bq λy=>LM O p R d G (i,y)) (λm h=>h.1) s).choose_spec⟩;have eg:∃γ:Nat->Nat->Nat,∀i s,HF (Gq λy=>LM O p R d G (i,y)) s (γ i s):=⟨λi s=>(jL (Gq λy=>LM O p R d G (i,y)) (λm h=>h.1) s).choose,λi s=>(jL (Gq λy=>LM O p R d G (i,y)) (λm h=>h.1) s).choose_spec⟩;obtain⟨α,ha⟩:=ea;obtain⟨γ,hg⟩:=eg;obtain⟨fu,hfu⟩:∃fu:Nat->Bool,∀i,fu i=true↔∀y,¬LM O p R d G (i,y):=⟨λi=>@decide (∀y,¬LM O p R d G (i,y)) (Classical.propDecidable _),λi=>by simp⟩;have hA:∀t,bw (λu:Tt=>u.1<R/\u∈Ts R d t/\¬LM O p R d G u) (((List.range R).map (cS d α t)).sum):=λt=>qC t (P:=λu=>¬LM O p R d G u) (λi hi ht=>(qD (λm h=>h.1) (ha i (t-d i))).congr λy=>by
  show aC y=t-d i/\bW (gj y) [0,1,2,3]/\¬LM O p R d G (i,gI (gj y))↔_;rw[l5];exact⟨λh=>⟨h.1,h.2.2⟩,λh=>⟨h.1,jM y,h.2⟩⟩) R (Ou _)
 have hall:∀t,bw (λu:Tt=>u.1<R/\u∈Ts R d t/\True) (((List.range R).map (cS d (λ_ s=>nm 4 s) t)).sum):=λt=>qC t (P:=λu=>True) (v:=λ_ s=>nm 4 s) (λi hi ht=>(oV (t-d i)).congr λy=>by simp) R (Ou _);have hGm:∀t,bw (λu:Tt=>u.1<R/\u∈Ts R d t/\Ml (λy=>LM O p R d G (u.1,y)) u.2) (((List.range R).map (cS d γ t)).sum):=λt=>qC t (P:=λu=>Ml (λy=>LM O p R d G (u.1,y)) u.2) (λi hi ht=>(qD (λm h=>h.1) (hg i (t-d i))).congr λy=>by
  rw[EZ]) R (Ou _)
 have he:∀t,((List.range R).map (cS d α t)).sum=w*nm 4 t:=λt=>by
  have h:=bw.uniq (((c3 t).or (hA t) λu h1 h2=>h2.2.2 (by
   have e:=(de.1 h2.2.1).2;unfold LM;rw[e];exact h1)).congr λu=>by
    constructor
    .rintro (h|⟨h1,h2,_⟩)
     .obtain⟨f,_,h2,_⟩:=h;exact⟨(de.1 h2).1,h2,trivial⟩
     .exact⟨h1,h2,trivial⟩
    .rintro ⟨h1,h2,_⟩;by_cases h:Cn.Ld O p (Ts R d t) (Vm p R d G t) u
     .exact Pf h
     .refine Pg ⟨h1,h2,λhc=>h ?_⟩;unfold LM at hc;rw[(de.1 h2).2] at hc;exact hc) (hall t)
  generalize ((List.range R).map (cS d α t)).sum=z at h⊢;have e9:((List.range R).map (cS d (λ_ s=>nm 4 s) t)).sum=w*nm 4 t+(((List.range n).map (w+·)).map λu=>iC (d u) t).sum:=by
   rw[hRR,List.range_add,O0,List.sum_append];congr 1;rw[List.map_congr_left (g:=λ_=>nm 4 t) λi hi=>by
    have:=hd0 i (List.mem_range.1 hi);unfold cS;rw[this,OW (OB _),Nat.sub_zero],iB (c:=nm 4 t) λ_ _=>rfl,List.length_range,Nat.mul_comm]
  rw[e9] at h;omega
 have C:gJ d (λi y=>LM O p R d G (i,y)) w ((List.range R).filter fu) ((List.range R).filter λi=>!fu i) α γ:=by
  refine⟨λi x {y} h=>LM.up hO x h,λi hi=>?_,λi hi=>?_,λi hi=>?_,λi hi=>?_,ha,hg,λt=>?_⟩
  .exact hd i (List.mem_range.1 (O5.1 hi).1)
  .exact hd i (List.mem_range.1 (O5.1 hi).1)
  .exact(hfu i).1 (O5.1 hi).2
  .have h:=(O5.1 hi).2;refine O3 λhc=>?_;have:=(hfu i).2 λy hy=>hc ⟨y,hy⟩;simp[this] at h
  .rw[<-tR,he]
 have hlen:=yw fu (List.range R);rw[List.length_range,C.len hw] at hlen;have hB:=C.all hw (by omega);have hz:∀t,(((List.range R).filter fu).map (cS d γ t)).sum=0:=λt=>by
  rw[iB (c:=0) λi hi=>?_,Nat.zero_mul];unfold cS;split
  .exact(hg i (t-d i)).uniq (HF.none λm hm=>(hfu i).1 (O5.1 hi).2 _ hm.2.1)
  .rfl
 have upto:∀T,bw (λu:Tt=>u.1<R/\aC u.2+d u.1<=T/\Ml (λy=>LM O p R d G (u.1,y)) u.2) (eu (λt=>(((List.range R).filter λi=>!fu i).map (cS d γ t)).sum) T):=by
  have one:∀t,bw (λu:Tt=>u.1<R/\u∈Ts R d t/\Ml (λy=>LM O p R d G (u.1,y)) u.2) ((((List.range R).filter λi=>!fu i).map (cS d γ t)).sum):=λt=>by have h:=hGm t;rw[tR fu,hz,ON] at h;exact h
  intro T;induction T with
  |zero=>refine(one 0).congr λu=>?_;rw[de];exact⟨fun⟨h1,h2,h3⟩=>⟨h1,by omega,h3⟩,fun⟨h1,h2,h3⟩=>⟨h1,⟨h1,by omega⟩,h3⟩⟩
  |succ T ih=>
   refine(ih.or (one (T+1)) λu h1 h2=>?_).congr λu=>?_
   .have:=(de.1 h2.2.1).2;omega
   .rw[de];constructor
    .rintro (⟨h1,h2,h3⟩|⟨h1,h2,h3⟩)
     .exact⟨h1,by omega,h3⟩
     .exact⟨h1,by omega,h3⟩
    .rintro ⟨h1,h2,h3⟩;by_cases h:aC u.2+d u.1<=T
     .exact Pf ⟨h1,h,h3⟩
     .exact Pg ⟨h1,⟨h1,by omega⟩,h3⟩
 have:=EV (upto 4801) hl λs hs=>⟨(hm s hs).1,hbd s hs,(hm s hs).2⟩;omega
end Go.Proofs.YtjkalahhpobefaaGreat.C4
namespace Go.Proofs.YtjkalahhpobefaaGreat.C4
open Go.Proofs.Tryz
set_option linter.unusedSimpArgs false
set_option linter.unusedVariables false
open Cn (Od jq iW bw Pr sm kn yJ tX yL mZ fK qF qE)
def co(l:List (Int×Tt))(s:Tt):Int:=Gb.ln (Gb.dl s) l
theorem E0(y:Mt)(u v:Tt):Gb.dl (aw y u) (aw y v)=Gb.dl u v:=by
 unfold Gb.dl;by_cases h:v=u
 .rw[OW h,OW (by rw[h])]
 .rw[OV h,OV];intro e;apply h;simp only[aw,Prod.mk.injEq] at e;obtain⟨e1,e2⟩:=e;exact Prod.ext e1 (qy (x:=y) e2)
variable{s:Tt}
theorem E3{y:Mt}{v:Tt}(h:¬cj y s.2):Gb.dl s (aw y v)=0:=by unfold Gb.dl;rw[OV];intro e;apply h;rw[<-e];exact qA y v.2
theorem tS(y:Mt)(s:Tt):∀l:List (Int×Tt),Gb.ln (λt=>Gb.dl s (aw y t)) l=cI y (co l) s
 |[]=>by simp[Gb.ln,cI,co]
 |x::l=>by
  have ih:=tS y s l;simp only[Gb.ln];rw[ih];by_cases h:cj y s.2
  .have e:=km h;rw[<-e];generalize (s.1,dH y s.2)=u;rw[gK,gK,E0];rfl
  .rw[gk h,gk h,E3 h];omega
structure Hg{p:Int}(R:Nat)(nb:Nat)(d:Nat->Nat)(G:Gb.bu (aN nb d) p)(n:Nat)(c:Nat->Nat):Prop where
 hom:∀i,i<n->∀x∈G.g i,x.2∈Ts R d (c i)
 live:∀i,i<n->G.live i
def Hr(n:Nat)(c:Nat->Nat)(t:Nat)(rp:Gb.Rp Mt):Prop:=∀r∈rp,r.2.2<n/\c r.2.2+aC r.2.1=t
def gl{p:Int}{nb:Nat}{d:Nat->Nat}(G:Gb.bu (aN nb d) p)(c:Nat->Nat):Nat->List (Nat×(Tt->Int))
 |0=>[]
 |n+1=>(c n,co (G.g n))::gl G c n
theorem yx{φ:Mt->Tt->Int}{y:Mt}(t:Tt):∀{l:List Mt},l.Nodup->y∈l->sm l (λz=>if z=y then 1 else 0) φ t=φ y t
 |z::l,hn,hy=>by
  have hnd:=List.nodup_cons.1 hn;rw[fK];rcases OY.1 hy with e0|hy
  .subst e0;rw[OW rfl,kn φ t λw hw=>OV fun(e:w=y)=>hnd.1 (e ▸ hw)];omega
  .have:z≠y:=λe=>hnd.1 (e ▸ hy);rw[OV this,yx t hnd.2 hy];omega
theorem yA{p:Int}{R:Nat}{nb:Nat}{d:Nat->Nat}{G:Gb.bu (aN nb d) p}{c:Nat->Nat}{t:Nat}{y:Mt}{i:Nat}(ht:c i+aC y=t):∀n,i<n->Vm p R d (gl G c n) t (cI y (co (G.g i)))
 |n+1,h=>by
  by_cases e:i=n
  .subst e;refine⟨λz=>if z=y then 1 else 0,_,(mV p R d t (gl G c i)).zero,λs _=>⟨0,?_⟩⟩;rw[OW (by omega),yx s (mW _) (jm.2 (by omega))];show _-(0+_)=_;omega
  .refine⟨λ_=>0,_,yA ht n (by omega),λs _=>⟨0,?_⟩⟩;have hz:(if c n<=t then sm (Ys (t-c n)) (λ_=>(0:Int)) (λy=>cI y (co (G.g n))) s else 0)=0:=by
    split
    .exact kn _ _ λ_ _=>rfl
    .rfl
   rw[hz];omega
theorem tT{p:Int}{R:Nat}{nb:Nat}{d:Nat->Nat}{G:Gb.bu (aN nb d) p}{c:Nat->Nat}{t n:Nat}:∀{rp:Gb.Rp Mt},Hr n c t rp->Vm p R d (gl G c n) t λs=>Gb.ev G (Gb.dl s) rp
 |[],_=>(mV p R d t _).zero
 |r::rp,h=>by have h1:=h r (by simp);have hS:=mV p R d t (gl G c n);refine hS.con (λs _=>⟨0,?_⟩) (hS.add (hS.mul r.1 (yA (R:=R) (G:=G) h1.2 n h1.1)) (tT (rp:=rp) λx hx=>h x (by simp[hx])));have e:Gb.ev G (Gb.dl s) (r::rp)=r.1*Gb.ln (λt=>Gb.dl s (aw r.2.1 t)) (G.g r.2.2)+Gb.ev G (Gb.dl s) rp:=rfl;rw[e,tS];omega
theorem yB{p:Int}{R:Nat}{nb:Nat}{d:Nat->Nat}{G:Gb.bu (aN nb d) p}{c:Nat->Nat}{t:Nat}:∀(n:Nat)(f:Tt->Int),Vm p R d (gl G c n) t f->∃rp,Hr n c t rp/\∀s∈Ts R d t,p∣f s-Gb.ev G (Gb.dl s) rp
 |0,f,h=>⟨[],λr hr=>by simp at hr,λs hs=>by have:=h s hs;simpa [Gb.ev] using this⟩
 |n+1,f,⟨a,h,h1,h2⟩=>by
  obtain⟨rp,r1,r2⟩:=yB n h h1;by_cases hc:c n<=t
  .refine⟨(Ys (t-c n)).map (λy=>(a y,y,n))++rp,λr hr=>?_,λs hs=>?_⟩
   .rcases OK.1 hr with hr|hr
    .obtain⟨y,hy,rfl⟩:=OR.1 hr;rw[jm] at hy;exact⟨Nat.lt_succ_self _,by simp only;omega⟩
    .have:=r1 r hr;exact⟨by omega,this.2⟩
   .rw[Gb.qx];have e:∀l:List Mt,Gb.ev G (Gb.dl s) (l.map λy=>(a y,y,n))=sm l a (λy=>cI y (co (G.g n))) s:=by
     intro l;induction l with
     |nil=>rfl
     |cons y l ih=>rw[fK,<-ih,<-tS];rfl
    rw[e];obtain⟨k,hk⟩:=h2 s hs;obtain⟨m,hm⟩:=r2 s hs;rw[OW hc] at hk;exact⟨k+m,by grind⟩
  .refine⟨rp,λr hr=>by have:=r1 r hr;exact⟨by omega,this.2⟩,λs hs=>?_⟩;obtain⟨k,hk⟩:=h2 s hs;obtain⟨m,hm⟩:=r2 s hs;rw[OV hc] at hk;exact⟨k+m,by grind⟩
theorem yC{p:Int}{R:Nat}{nb:Nat}{d:Nat->Nat}{G:Gb.bu (aN nb d) p}{c:Nat->Nat}{n t:Nat}(hG:Hg R nb d G n c){u:Tt}(hu:u∉Ts R d t):∀{rp:Gb.Rp Mt},Hr n c t rp->Gb.ev G (Gb.dl u) rp=0
 |[],_=>rfl
 |r::rp,h=>by
  have h1:=h r (by simp);have e:Gb.ev G (Gb.dl u) (r::rp)=r.1*Gb.ln (λt=>Gb.dl u (aw r.2.1 t)) (G.g r.2.2)+Gb.ev G (Gb.dl u) rp:=rfl;rw[e,yC hG hu λx hx=>h x (by simp[hx]),Gb.jl]
  .simp
  .intro x hx;show Gb.dl u (aw r.2.1 x.2)=0;unfold Gb.dl;rw[OV];intro e2;apply hu;have h3:=hG.hom _ h1.1 x hx;rw[<-e2,<-h1.2,l6];exact h3
theorem yD{p:Int}{nb:Nat}{d:Nat->Nat}{G0 G1:Gb.bu (aN nb d) p}{c0 c1:Nat->Nat}{n0 n1 t:Nat}(ho:∀i,i<n0->∃rp,Hr n1 c1 (c0 i) rp/\∀φ,p∣Gb.ln φ (G0.g i)-Gb.ev G1 φ rp):∀{rp:Gb.Rp Mt},Hr n0 c0 t rp->∃rq,Hr n1 c1 t rq/\∀φ,p∣Gb.ev G0 φ rp-Gb.ev G1 φ rq
 |[],_=>⟨[],λr hr=>by simp at hr,λφ=>⟨0,by simp[Gb.ev]⟩⟩
 |r::rp,h=>by
  have h1:=h r (by simp);obtain⟨rq,q1,q2⟩:=yD ho (rp:=rp) λx hx=>h x (by simp[hx]);obtain⟨rs,s1,s2⟩:=ho r.2.2 h1.1;refine⟨Gb.mS r.1 (Gb.mT (aN nb d) r.2.1 rs)++rq,λx hx=>?_,λφ=>?_⟩
  .rcases OK.1 hx with hx|hx
   .obtain⟨y,hy,rfl⟩:=OR.1 hx;obtain⟨z,hz,rfl⟩:=OR.1 hy;have h3:=s1 z hz;refine⟨h3.1,?_⟩;show c1 z.2.2+aC (bH r.2.1 z.2.1)=t;have e:aC (bH r.2.1 z.2.1)=aC r.2.1+aC z.2.1:=l7 _ _;rw[e];omega
   .exact q1 x hx
  .rw[Gb.qx,Gb.tN,Gb.tO];obtain⟨k,hk⟩:=q2 φ;obtain⟨m,hm⟩:=s2 λt=>φ ((aN nb d).act r.2.1 t);have e:Gb.ev G0 φ (r::rp)=r.1*Gb.ln (λt=>φ ((aN nb d).act r.2.1 t)) (G0.g r.2.2)+Gb.ev G0 φ rp:=rfl;rw[e];exact⟨r.1*m+k,by grind⟩
variable{n1 t nb w n0:Nat}{c0 c1 d:Nat->Nat}{p:Int}
theorem yE{G0 G1:Gb.bu (aN nb d) p}(h0:Hg (w+n0) nb d G0 n0 c0)(h1:Hg (w+n0) nb d G1 n1 c1)(hld:∀i,i<n1->d (G1.ld i).1+aC (G1.ld i).2=c1 i)(ho:∀i,i<n0->∃rp,Hr n1 c1 (c0 i) rp/\∀φ,p∣Gb.ln φ (G0.g i)-Gb.ev G1 φ rp)(hA:Gb.mU G1 λu=>d u.1+aC u.2<t){u:Tt}(hl:LM (ie nb d) p (w+n0) d (gl G0 c0 n0) u)(hdx:d u.1+aC u.2<t):∃i,G1.live i/\bR.dv (G1.ld i) u:=by
 obtain⟨f,f1,f2⟩:=hl;have f2:iW (ie nb d) p (Ts (w+n0) d (d u.1+aC u.2)) f u:=f2;have f1:Vm p (w+n0) d (gl G0 c0 n0) (d u.1+aC u.2) f:=f1;generalize ht':d u.1+aC u.2=t' at f1 f2 hdx;obtain⟨rq,q1,q2⟩:=yB n0 f f1;obtain⟨rs,s1,s2⟩:=yD ho q1;have f3:iW (ie nb d) p (Ts (w+n0) d t') (λv=>Gb.ev G0 (Gb.dl v) rq) u:=qE f2 λv hv=>by obtain⟨a,ha⟩:=q2 v hv;exact⟨-a,by rw[Int.mul_neg];omega⟩
 have hmax:∀l:Gb.Rp Mt,l≠[]->∃r∈l,∀y∈l,(aN nb d).lt ((aN nb d).act y.2.1 (G1.ld y.2.2)) ((aN nb d).act r.2.1 (G1.ld r.2.2))\/(aN nb d).act y.2.1 (G1.ld y.2.2)=(aN nb d).act r.2.1 (G1.ld r.2.2):=by
  intro l;induction l with
  |nil=>exact λh=>absurd rfl h
  |cons a l ih=>
   intro _;by_cases hl:l=[]
   .subst hl;exact⟨a,by simp,λy hy=>by rw[OL] at hy;rw[hy];exact Pg rfl⟩
   .obtain⟨r,r1,r2⟩:=ih hl;rcases (aN nb d).tri ((aN nb d).act a.2.1 (G1.ld a.2.2)) ((aN nb d).act r.2.1 (G1.ld r.2.2)) with h|h|h
    .exact⟨r,by simp[r1],λy hy=>(OY.1 hy).elim (λe=>by rw[e];exact Pf h) (r2 y)⟩
    .exact⟨r,by simp[r1],λy hy=>(OY.1 hy).elim (λe=>by rw[e];exact Pg h) (r2 y)⟩
    .refine⟨a,by simp,λy hy=>(OY.1 hy).elim (λe=>by rw[e];exact Pg rfl) λhy=>Pf ?_⟩;rcases r2 y hy with h3|h3
     .exact(aN nb d).trans h3 h
     .rw[h3];exact h
 have hne:rs≠[]:=λe=>f3.2.1 (by
  obtain⟨a,ha⟩:=s2 (Gb.dl u);rw[e] at ha;exact⟨a,by simpa [Gb.ev] using ha⟩)
 obtain⟨r,r1,r2⟩:=hmax rs hne;have hT:d ((aN nb d).act r.2.1 (G1.ld r.2.2)).1+aC ((aN nb d).act r.2.1 (G1.ld r.2.2)).2<t:=by have h3:=s1 r r1;have h4:=hld _ h3.1;show d (aw r.2.1 (G1.ld r.2.2)).1+aC (aw r.2.1 (G1.ld r.2.2)).2<t;simp only[aw];rw[l7];omega
 rcases Gb.EO hA (fun {a b} hl hb=>by have:=EU hl;omega) ((aN nb d).act r.2.1 (G1.ld r.2.2)) hT (λφ=>Gb.ev G0 φ rq) ⟨rs,λy hy=>⟨h1.live _ (s1 y hy).1,r2 y hy⟩,s2⟩ with h|⟨i,a,v,i1,i2,i3,i4⟩
 .exact absurd (h _) f3.2.1
 .have hv:v∈Ts (w+n0) d t':=O3 λhc=>i3 (by show p∣Gb.ev G0 (Gb.dl v) rq;rw[yC h0 hc q1];exact⟨0,by simp⟩);have e:v=u:=qF (O:=ie nb d) (f:=λv=>Gb.ev G0 (Gb.dl v) rq) ⟨hv,i3,λw _ hl=>i4 w hl⟩ f3;exact⟨i,i1,(qz nb d _ _).2 ⟨a,by rw[i2,e]⟩⟩
theorem E4{G0 G1:Gb.bu (aN nb d) p}(h0:Hg (w+n0) nb d G0 n0 c0)(h1:Hg (w+n0) nb d G1 n1 c1)(hld:∀i,i<n1->d (G1.ld i).1+aC (G1.ld i).2=c1 i)(ho:∀i,i<n0->∃rp,Hr n1 c1 (c0 i) rp/\∀φ,p∣Gb.ln φ (G0.g i)-Gb.ev G1 φ rp)(hA:Gb.mU G1 λu=>d u.1+aC u.2<t){X:Gb.Fn Tt}{rp:Gb.Rp Mt}(hr:Hr n0 c0 t rp)(hX:∀φ,p∣X φ-Gb.ev G0 φ rp)(hs:s∈Ts (w+n0) d t)(hn:¬p∣X (Gb.dl s))(hab:∀u∈Ts (w+n0) d t,(aN nb d).lt s u->p∣X (Gb.dl u))(hnd:∀i,G1.live i->¬bR.dv (G1.ld i) s):Ml (λy=>LM (ie nb d) p (w+n0) d (gl G0 c0 n0) (s.1,y)) s.2:=by
 obtain⟨hs1,hs2⟩:=de.1 hs;refine⟨?_,?_⟩
 .show LM (ie nb d) p (w+n0) d (gl G0 c0 n0) s;unfold LM;rw[hs2];refine⟨_,tT hr,hs,λhc=>hn ?_,λu hu hl=>?_⟩
  .obtain⟨a,ha⟩:=hX (Gb.dl s);obtain⟨b,hb⟩:=hc;have hb:Gb.ev G0 (Gb.dl s) rp=p*b:=hb;exact⟨a+b,by rw[Int.mul_add];omega⟩
  .obtain⟨a,ha⟩:=hX (Gb.dl u);obtain⟨b,hb⟩:=hab u hu hl;refine⟨b-a,?_⟩;show Gb.ev G0 (Gb.dl u) rp=p*(b-a);rw[Int.mul_sub];omega
 .intro x hx hle hl;have hsx:aw x (s.1,dH x s.2)=s:=km hle;have hdx:d s.1+aC (dH x s.2)+1=t:=by have:=congrArg (λu:Tt=>aC u.2) hsx;simp only[aw] at this;rw[l7] at this;omega
  obtain⟨i,i1,i2⟩:=yE h0 h1 hld ho hA (u:=(s.1,dH x s.2)) hl (show d s.1+aC (dH x s.2)<t by omega);obtain⟨a,ha⟩:=(qz nb d _ _).1 i2;refine hnd i i1 ((qz nb d _ _).2 ⟨(aN nb d).mul x a,?_⟩);rw[(aN nb d).act_mul,ha];exact hsx
end Go.Proofs.YtjkalahhpobefaaGreat.C4
namespace Go.Proofs.YtjkalahhpobefaaGreat.Gb
open Go.Proofs.Tryz
set_option linter.unusedSimpArgs false
set_option linter.unusedVariables false
theorem Pa.map{E F:Nat->Nat->Prop}(f:Nat->Nat)(hEF:∀a b,E a b->F (f a) (f b)){i j:Nat}(h:Pa E i j):Pa F (f i) (f j):=by
 induction h using Pa.ind with
 |refl=>exact Pa.refl _
 |fwd _ e ih=>exact ih.fwd (hEF _ _ e)
 |bwd _ e ih=>exact ih.bwd (hEF _ _ e)
end Go.Proofs.YtjkalahhpobefaaGreat.Gb
