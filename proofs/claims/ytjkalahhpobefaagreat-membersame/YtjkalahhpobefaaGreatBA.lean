/- When pairs are enough: what is made of vectors, by pairs that leave nothing (plain mathematics, over whatever terms). -/
import Derived.Test.YtjkalahhpobefaaGreatDJ
namespace Go.Proofs.YtjkalahhpobefaaGreat.Gb
open Go.Proofs.Tryz
set_option linter.unusedSimpArgs false
set_option linter.unusedVariables false
structure cN(τ M:Type) where
 lt:τ->τ->Prop
 act:M->τ->τ
 mul:M->M->M
 act_mul:∀a b t,act (mul a b) t=act a (act b t)
 wf:WellFounded lt
 tri:∀s t,lt s t\/s=t\/lt t s
 trans:∀{a b c},lt a b->lt b c->lt a c
 mono:∀a {s t},lt s t->lt (act a s) (act a t)
variable {τ M:Type}
theorem cN.irr(S:cN τ M)(t:τ):¬S.lt t t:=S.wf.induction (C:=λt=>¬S.lt t t) t λx ih h=>ih x h h
def ln(φ:τ->Int):List (Int×τ)->Int
 |[]=>0
 |x::xs=>x.1*φ x.2+ln φ xs
abbrev Fn(τ:Type):=(τ->Int)->Int
structure bB(S:cN τ M)(p:Int) where
 live:Nat->Prop
 g:Nat->List (Int×τ)
 ld:Nat->τ
 lc:Nat->Int
 iv:Nat->Int
 shape:∀i,live i->∃r,(∀φ,ln φ (g i)=lc i*φ (ld i)+ln φ r)/\∀x∈r,S.lt x.2 (ld i)
 inv:∀i,live i->p∣lc i*iv i-1
abbrev Rp(M:Type):=List (Int×M×Nat)
def ev{S:cN τ M}{p:Int}(G:bB S p)(φ:τ->Int):Rp M->Int
 |[]=>0
 |r::rs=>r.1*ln (λt=>φ (S.act r.2.1 t)) (G.g r.2.2)+ev G φ rs
theorem qp{S:cN τ M}{p:Int}(G:bB S p)(φ:τ->Int):∀a b:Rp M,ev G φ (a++b)=ev G φ a+ev G φ b
 |[],b=>by simp[ev]
 |r::a,b=>by simp only[List.cons_append,ev];rw[qp G φ a b];omega
def mN(c:Int)(a:Rp M):Rp M:=a.map λr=>(c*r.1,r.2)
theorem tG{S:cN τ M}{p:Int}(G:bB S p)(φ:τ->Int)(c:Int):∀a:Rp M,ev G φ (mN c a)=c*ev G φ a
 |[]=>by simp[mN,ev]
 |r::a=>by have h:=tG G φ c a;unfold mN at h;simp only[mN,List.map_cons,ev];rw[h,Int.mul_add,Int.mul_assoc]
def mO(S:cN τ M)(m:M)(a:Rp M):Rp M:=a.map λr=>(r.1,S.mul m r.2.1,r.2.2)
theorem tH{S:cN τ M}{p:Int}(G:bB S p)(φ:τ->Int)(m:M):∀a:Rp M,ev G φ (mO S m a)=ev G (λt=>φ (S.act m t)) a
 |[]=>by simp[mO,ev]
 |r::a=>by
  have h:=tH G φ m a;unfold mO at h;simp only[mO,List.map_cons,ev];rw[h];have e:(λt=>φ (S.act (S.mul m r.2.1) t))=λt=>φ (S.act m (S.act r.2.1 t)):=by funext t;rw[S.act_mul]
  rw[e]
def Vb{S:cN τ M}{p:Int}(G:bB S p)(A:τ->Prop)(X:Fn τ):Prop:=∃rp:Rp M,(∀r∈rp,G.live r.2.2/\A (S.act r.2.1 (G.ld r.2.2)))/\∀φ,p∣X φ-ev G φ rp
variable{X:Fn τ}{A B:τ->Prop}{p:Int}{S:cN τ M}
theorem Vb.mono{G:bB S p}(h:Vb G A X)(hAB:∀t,A t->B t):Vb G B X:=by obtain⟨rp,h1,h2⟩:=h;exact⟨rp,λr hr=>⟨(h1 r hr).1,hAB _ (h1 r hr).2⟩,h2⟩
variable{Y:Fn τ}
theorem Vb.congr{G:bB S p}(h:Vb G A X)(e:∀φ,p∣Y φ-X φ):Vb G A Y:=by obtain⟨rp,h1,h2⟩:=h;refine⟨rp,h1,λφ=>?_⟩;obtain⟨a,ha⟩:=h2 φ;obtain⟨b,hb⟩:=e φ;exact⟨a+b,by rw[Int.mul_add];omega⟩
theorem Vb.zero{G:bB S p}(e:∀φ,p∣X φ):Vb G A X:=⟨[],λr hr=>by simp at hr,λφ=>by simpa [ev] using e φ⟩
theorem Vb.add{G:bB S p}(h:Vb G A X)(k:Vb G A Y):Vb G A λφ=>X φ+Y φ:=by obtain⟨rp,h1,h2⟩:=h;obtain⟨rq,k1,k2⟩:=k;refine⟨rp++rq,λr hr=>(N1.1 hr).elim (h1 r) (k1 r),λφ=>?_⟩;obtain⟨a,ha⟩:=h2 φ;obtain⟨b,hb⟩:=k2 φ;rw[qp];refine⟨a+b,?_⟩;show X φ+Y φ-_=_;rw[Int.mul_add];omega
theorem Vb.scl{G:bB S p}(c:Int)(h:Vb G A X):Vb G A λφ=>c*X φ:=by
 obtain⟨rp,h1,h2⟩:=h;refine⟨Go.Proofs.YtjkalahhpobefaaGreat.Gb.mN c rp,λr hr=>?_,λφ=>?_⟩
 .obtain⟨r0,h0,rfl⟩:=N9.1 hr;exact h1 r0 h0
 .obtain⟨a,ha⟩:=h2 φ;rw[tG];refine⟨c*a,?_⟩;rw[<-Int.mul_sub,ha,<-Int.mul_assoc,<-Int.mul_assoc,Int.mul_comm c p]
theorem Vb.shift{G:bB S p}(m:M)(h:Vb G A X)(hAB:∀t,A t->B (S.act m t)):Vb G B λφ=>X λt=>φ (S.act m t):=by
 obtain⟨rp,h1,h2⟩:=h;refine⟨mO S m rp,λr hr=>?_,λφ=>?_⟩
 .obtain⟨r0,h0,rfl⟩:=N9.1 hr;refine⟨(h1 r0 h0).1,?_⟩;simp only;rw[S.act_mul];exact hAB _ (h1 r0 h0).2
 .rw[tH];exact h2 _
def Hm{S:cN τ M}{p:Int}(G:bB S p)(i:Nat)(a:M):Fn τ:=λφ=>G.iv i*ln (λt=>φ (S.act a t)) (G.g i)
def Rl{S:cN τ M}{p:Int}(G:bB S p)(i:Nat)(a:M)(j:Nat)(b:M):Prop:=Vb G (λt=>S.lt t (S.act a (G.ld i))) λφ=>Hm G i a φ-Hm G j b φ
theorem Rl.refl(G:bB S p)(i:Nat)(a:M):Rl G i a i a:=Vb.zero λφ=>⟨0,by omega⟩
variable{a b:M}{i j:Nat}
theorem Rl.symm{G:bB S p}(e:S.act a (G.ld i)=S.act b (G.ld j))(h:Rl G i a j b):Rl G j b i a:=by unfold Rl at h⊢;rw[<-e];exact(Vb.scl (-1) h).congr λφ=>⟨0,by omega⟩
variable{k:Nat}
theorem Rl.trans{G:bB S p}{c:M}(e:S.act a (G.ld i)=S.act b (G.ld j))(h:Rl G i a j b)(h2:Rl G j b k c):Rl G i a k c:=by unfold Rl at h h2⊢;rw[<-e] at h2;exact(Vb.add h h2).congr λφ=>⟨0,by omega⟩
theorem Rl.shift{G:bB S p}(m:M)(h:Rl G i a j b):Rl G i (S.mul m a) j (S.mul m b):=by
 unfold Rl at h⊢;have h2:=Vb.shift (B:=λt=>S.lt t (S.act (S.mul m a) (G.ld i))) m h (λt ht=>by rw[S.act_mul];exact S.mono m ht);refine h2.congr λφ=>?_;unfold Hm;have e1:(λt=>φ (S.act (S.mul m a) t))=λt=>φ (S.act m (S.act a t)):=by funext t;rw[S.act_mul]
 have e2:(λt=>φ (S.act (S.mul m b) t))=λt=>φ (S.act m (S.act b t)):=by funext t;rw[S.act_mul]
 rw[e1,e2];exact⟨0,by simp⟩
def dl[DecidableEq τ](t:τ):τ->Int:=λs=>if s=t then 1 else 0
theorem jj{φ:τ->Int}:∀{l:List (Int×τ)},(∀x∈l,φ x.2=0)->ln φ l=0
 |[],_=>rfl
 |x::l,h=>by simp only[ln];rw[h x (by simp),jj λy hy=>h y (by simp[hy])];omega
theorem yh[DecidableEq τ]{G:bB S p}(hi:G.live i)(a:M)(t:τ)(h:S.act a (G.ld i)=t):ln (λs=>dl t (S.act a s)) (G.g i)=G.lc i:=by
 obtain⟨r,e,hr⟩:=G.shape i hi;rw[e];rw[jj (l:=r) λx hx=>by
  unfold dl;rw[Oc];intro e2;have:=S.mono a (hr x hx);rw[e2,h] at this;exact S.irr _ this]
 unfold dl;rw[Oe h];omega
theorem tI[DecidableEq τ]{G:bB S p}(hi:G.live i)(a:M)(t:τ)(h:S.lt (S.act a (G.ld i)) t):ln (λs=>dl t (S.act a s)) (G.g i)=0:=by
 obtain⟨r,e,hr⟩:=G.shape i hi;rw[e];rw[jj (l:=r) λx hx=>by
  unfold dl;rw[Oc];intro e2;have:=S.trans (S.mono a (hr x hx)) h;rw[e2] at this;exact S.irr _ this]
 unfold dl;rw[Oc]
 .omega
 .intro e2;rw[e2] at h;exact S.irr _ h
theorem oL[DecidableEq τ]{S:cN τ M}{p:Int}{G:bB S p}(t:τ):∀{rp:Rp M},(∀r∈rp,G.live r.2.2/\S.lt (S.act r.2.1 (G.ld r.2.2)) t)->ev G (dl t) rp=0
 |[],_=>rfl
 |r::rp,h=>by simp only[ev];rw[tI (h r (by simp)).1 _ _ (h r (by simp)).2,oL t λx hx=>h x (by simp[hx])];omega
def ia{S:cN τ M}{p:Int}(G:bB S p):Prop:=∀i a j b,G.live i->G.live j->S.act a (G.ld i)=S.act b (G.ld j)->Rl G i a j b
theorem yi[DecidableEq τ]{S:cN τ M}{p:Int}{G:bB S p}(hA:ia G)(t:τ):∀(rp:Rp M),(∀r∈rp,G.live r.2.2/\(S.lt (S.act r.2.1 (G.ld r.2.2)) t\/S.act r.2.1 (G.ld r.2.2)=t))->(Vb G (λs=>S.lt s t) λφ=>ev G φ rp)\/∃i a c,G.live i/\S.act a (G.ld i)=t/\(Vb G (λs=>S.lt s t) λφ=>ev G φ rp-c*Hm G i a φ)/\p∣ev G (dl t) rp-c
 |[],_=>Ox (Vb.zero λφ=>by simp[ev])
 |r::rp,h=>by
  have hr:=h r (by simp);have ih:=yi hA t rp λx hx=>h x (by simp[hx]);rcases hr.2 with hlt|heq
  .have hv:Vb G (λs=>S.lt s t) λφ=>r.1*ln (λs=>φ (S.act r.2.1 s)) (G.g r.2.2):=⟨[r],λx hx=>by rw[N2] at hx;rw[hx];exact⟨hr.1,hlt⟩,λφ=>⟨0,by simp[ev]⟩⟩;rcases ih with ih|⟨i,a,c,h1,h2,h3,h4⟩
   .exact Ox ((Vb.add hv ih).congr λφ=>⟨0,by simp only[ev];omega⟩)
   .refine Oy ⟨i,a,c,h1,h2,(Vb.add hv h3).congr λφ=>⟨0,by simp only[ev];omega⟩,?_⟩;simp only[ev];rw[tI hr.1 _ _ hlt];simpa using h4
  .obtain⟨q,hq⟩:=G.inv r.2.2 hr.1;have hself:∀φ,p∣r.1*ln (λs=>φ (S.act r.2.1 s)) (G.g r.2.2)-(r.1*G.lc r.2.2)*Hm G r.2.2 r.2.1 φ:=λφ=>by
    unfold Hm;generalize ln (λs=>φ (S.act r.2.1 s)) (G.g r.2.2)=z;refine⟨-(q*r.1*z),?_⟩;have e:G.lc r.2.2*G.iv r.2.2=1+p*q:=by omega
    have e2:r.1*G.lc r.2.2*(G.iv r.2.2*z)=r.1*z*(G.lc r.2.2*G.iv r.2.2):=by grind
    rw[e2,e];grind
   have hco:ev G (dl t) (r::rp)=r.1*G.lc r.2.2+ev G (dl t) rp:=by simp only[ev];rw[yh hr.1 r.2.1 t heq]
   rcases ih with ih|⟨i,a,c,h1,h2,h3,h4⟩
   .refine Oy ⟨r.2.2,r.2.1,r.1*G.lc r.2.2,hr.1,heq,ih.congr λφ=>?_,?_⟩
    .obtain⟨z,hz⟩:=hself φ;exact⟨z,by simp only[ev];omega⟩
    .obtain⟨rq,k1,k2⟩:=ih;obtain⟨z,hz⟩:=k2 (dl t);have hz:ev G (dl t) rp-ev G (dl t) rq=p*z:=hz;rw[oL t k1] at hz;rw[hco];exact⟨z,by omega⟩
   .have hR:=hA i a r.2.2 r.2.1 h1 hr.1 (by rw[h2,heq]);unfold Rl at hR;rw[h2] at hR;refine Oy ⟨i,a,c+r.1*G.lc r.2.2,h1,h2,((Vb.add h3 (Vb.scl (-(r.1*G.lc r.2.2)) hR)).congr λφ=>?_),?_⟩
    .obtain⟨z,hz⟩:=hself φ;refine⟨z,?_⟩;simp only[ev];grind
    .obtain⟨z,hz⟩:=h4;rw[hco];exact⟨z,by omega⟩
theorem top[DecidableEq τ]{G:bB S p}(hA:ia G)(T:τ):∀X:Fn τ,Vb G (λs=>S.lt s T\/s=T) X->(∀φ,p∣X φ)\/∃i a t,G.live i/\S.act a (G.ld i)=t/\¬p∣X (dl t)/\∀s,S.lt t s->p∣X (dl s):=by
 induction T using S.wf.induction with
 |_ T ih=>
  intro X hX;obtain⟨rp,h1,h2⟩:=hX;have hlow:Vb G (λs=>S.lt s T) X->(∀φ,p∣X φ)\/∃i a t,G.live i/\S.act a (G.ld i)=t/\¬p∣X (dl t)/\∀s,S.lt t s->p∣X (dl s):=by
   rintro ⟨rq,k1,k2⟩;cases rq with
   |nil=>exact Ox λφ=>by simpa [ev] using k2 φ
   |cons r rq=>
    have hmax:∀(l:Rp M)(m:τ),S.lt m T->(∀x∈l,S.lt (S.act x.2.1 (G.ld x.2.2)) T)->∃m2,S.lt m2 T/\(S.lt m m2\/m=m2)/\∀x∈l,S.lt (S.act x.2.1 (G.ld x.2.2)) m2\/S.act x.2.1 (G.ld x.2.2)=m2:=by
     intro l;induction l with
     |nil=>exact λm hm _=>⟨m,hm,Oy rfl,λx hx=>by simp at hx⟩
     |cons y l ihl=>
      intro m hm hl;obtain⟨m2,a1,a2,a3⟩:=ihl m hm λx hx=>hl x (by simp[hx]);rcases S.tri (S.act y.2.1 (G.ld y.2.2)) m2 with h|h|h
      .exact⟨m2,a1,a2,λx hx=>(Og.1 hx).elim (λe=>by rw[e];exact Ox h) (a3 x)⟩
      .exact⟨m2,a1,a2,λx hx=>(Og.1 hx).elim (λe=>by rw[e];exact Oy h) (a3 x)⟩
      .refine⟨S.act y.2.1 (G.ld y.2.2),hl y (by simp),Ox (a2.elim (λh2=>S.trans h2 h) (λe=>by rw[e];exact h)),λx hx=>(Og.1 hx).elim (λe=>by rw[e];exact Oy rfl) (λhx=>Ox ((a3 x hx).elim (λh2=>S.trans h2 h) (λe=>by rw[e];exact h)))⟩
    obtain⟨m2,b1,b2,b3⟩:=hmax rq (S.act r.2.1 (G.ld r.2.2)) (k1 r (by simp)).2 (λx hx=>(k1 x (by simp[hx])).2);refine ih m2 b1 X ⟨r::rq,λx hx=>⟨(k1 x hx).1,?_⟩,k2⟩;rcases Og.1 hx with rfl|hx
    .exact b2
    .exact b3 x hx
  rcases yi hA T rp h1 with hd|⟨i,a,c,d1,d2,d3,d4⟩
  .exact hlow (hd.congr h2)
  .by_cases hc:p∣X (dl T)
   .refine hlow (d3.congr λφ=>?_);obtain⟨z1,hz1⟩:=h2 φ;obtain⟨z2,hz2⟩:=h2 (dl T);obtain⟨z3,hz3⟩:=hc;obtain⟨z4,hz4⟩:=d4;have e:c=p*(z3-z2-z4):=by rw[Int.mul_sub,Int.mul_sub];omega
    refine⟨z1+(z3-z2-z4)*Hm G i a φ,?_⟩;rw[e];grind
   .refine Oy ⟨i,a,T,d1,d2,hc,λs hs=>?_⟩;obtain⟨z,hz⟩:=h2 (dl s);rw[oL s λr hr=>⟨(h1 r hr).1,(h1 r hr).2.elim (λh=>S.trans h hs) (λe=>by rw[e];exact hs)⟩] at hz;exact⟨z,by omega⟩
structure lT(τ:Type) where
 dv:τ->τ->Prop
 deg:τ->Nat
 lc:τ->τ->τ
 trans:∀{a b c},dv a b->dv b c->dv a c
 refl:∀a,dv a a
 less:∀{a b},dv a b->a≠b->deg a<deg b
 lcl:∀{a b t},dv a t->dv b t->dv a (lc a b)
 lcr:∀{a b t},dv a t->dv b t->dv b (lc a b)
 lci:∀{a b t},dv a t->dv b t->dv (lc a b) t
def Pa(E:Nat->Nat->Prop)(i j:Nat):Prop:=∀P:Nat->Prop,P i->(∀j k,P j->E j k->P k)->(∀j k,P j->E k j->P k)->P j
variable{E:Nat->Nat->Prop}
theorem Pa.refl(i:Nat):Pa E i i:=λ_ h _ _=>h
theorem Pa.fwd(h:Pa E i j)(e:E j k):Pa E i k:=λP h1 h2 h3=>h2 j k (h P h1 h2 h3) e
theorem Pa.bwd(h:Pa E i j)(e:E k j):Pa E i k:=λP h1 h2 h3=>h3 j k (h P h1 h2 h3) e
theorem Pa.ind{E:Nat->Nat->Prop}{i:Nat}{motive:∀j,Pa E i j->Prop}(refl:motive i (Pa.refl i))(fwd:∀{j k}(h:Pa E i j)(e:E j k),motive j h->motive k (h.fwd e))(bwd:∀{j k}(h:Pa E i j)(e:E k j),motive j h->motive k (h.bwd e)){j:Nat}(h:Pa E i j):motive j h:=by have:=h (λj=>∃h,motive j h) ⟨_,refl⟩ (λj k ⟨h1,h2⟩ e=>⟨_,fwd h1 e h2⟩) (λj k ⟨h1,h2⟩ e=>⟨_,bwd h1 e h2⟩);exact this.2
theorem Pa.trans(h:Pa E i j)(g:Pa E j k):Pa E i k:=by
 induction g using Pa.ind with
 |refl=>exact h
 |fwd _ e ih=>exact ih.fwd e
 |bwd _ e ih=>exact ih.bwd e
theorem Pa.symm(h:Pa E i j):Pa E j i:=by
 induction h using Pa.ind with
 |refl=>exact Pa.refl _
 |fwd _ e ih=>exact((Pa.refl _).bwd e).trans ih
 |bwd _ e ih=>exact((Pa.refl _).fwd e).trans ih
theorem Pa.mono{F:Nat->Nat->Prop}(h:Pa E i j)(hEF:∀a b,E a b->F a b):Pa F i j:=by
 induction h using Pa.ind with
 |refl=>exact Pa.refl _
 |fwd _ e ih=>exact ih.fwd (hEF _ _ e)
 |bwd _ e ih=>exact ih.bwd (hEF _ _ e)
def Ed(D:lT τ)(ld:Nat->τ)(P:Nat->Nat->Prop)(t:τ)(i j:Nat):Prop:=P i j/\D.dv (ld i) t/\D.dv (ld j) t/\D.dv (D.lc (ld i) (ld j)) t
structure iB(D:lT τ)(ld:Nat->τ)(n:Nat)(P:Nat->Nat->Prop)(gone:Nat->Prop):Prop where
 con:∀t i j,i<n->j<n->D.dv (ld i) t->D.dv (ld j) t->Pa (Ed D ld P t) i j
 gn:∀x,x<n->gone x->∃y,y<n/\¬gone y/\D.dv (ld y) (ld x)
 lt:∀i j,P i j->i<n/\j<n
theorem iB.step{D:lT τ}{ld:Nat->τ}{n:Nat}{P:Nat->Nat->Prop}{gone:Nat->Prop}(h:iB D ld n P gone){P':Nat->Nat->Prop}{gone' kept:Nat->Prop}(hk1:∀x,kept x->x<n)(hk2:∀x t,x<n->¬gone x->D.dv (ld x) t->D.dv (ld n) t->kept x\/∃y,kept y/\D.dv (ld y) t/\D.dv (D.lc (ld y) (ld n)) (D.lc (ld x) (ld n)))(hP1:∀i j,P' i j->(P i j\/(j=n/\kept i)))(hP2:∀i,kept i->P' i n)(hP3:∀i j,P i j->P' i j\/(D.dv (ld n) (D.lc (ld i) (ld j))/\D.lc (ld i) (ld n)≠D.lc (ld i) (ld j)/\D.lc (ld j) (ld n)≠D.lc (ld i) (ld j)))(hg:∀x,gone' x↔(x<n/\(gone x\/D.dv (ld n) (ld x)))):iB D ld (n+1) P' gone':=by
 have core:∀t,(∀s,D.deg s<D.deg t->D.dv (ld n) s->∀x,x<n->D.dv (ld x) s->Pa (Ed D ld P' s) x n)->D.dv (ld n) t->∀x,x<n->D.dv (ld x) t->Pa (Ed D ld P' t) x n:=by
  intro t ih hf;have up:∀s i j,D.dv s t->Pa (Ed D ld P' s) i j->Pa (Ed D ld P' t) i j:=λs i j hs hp=>hp.mono λa b e=>⟨e.1,D.trans e.2.1 hs,D.trans e.2.2.1 hs,D.trans e.2.2.2 hs⟩;have low:∀i,i<n->D.dv (ld i) t->D.lc (ld i) (ld n)≠t->Pa (Ed D ld P' t) i n:=λi hi hit hne=>by have hs:=D.lci hit hf;exact up _ _ _ hs (ih _ (D.less hs hne) (D.lcr hit hf) i hi (D.lcl hit hf))
  have old:∀i j,i<n->j<n->D.dv (ld i) t->D.dv (ld j) t->Pa (Ed D ld P' t) i j:=λi j hi hj hit hjt=>by
   have hp:=h.con t i j hi hj hit hjt;have one:∀a b,Ed D ld P t a b->Pa (Ed D ld P' t) a b:=λa b e=>by
    obtain⟨ha,hb⟩:=h.lt a b e.1;rcases hP3 a b e.1 with h1|⟨h1,h2,h3⟩
    .exact(Pa.refl a).fwd ⟨h1,e.2⟩
    .have hal:=D.lcl e.2.1 e.2.2.1;have hbl:=D.lcr e.2.1 e.2.2.1;have q1:D.deg (D.lc (ld a) (ld n))<D.deg (D.lc (ld a) (ld b)):=D.less (D.lci hal h1) h2;have q2:D.deg (D.lc (ld b) (ld n))<D.deg (D.lc (ld a) (ld b)):=D.less (D.lci hbl h1) h3;have q3:D.deg (D.lc (ld a) (ld b))<=D.deg t:=by
      by_cases e9:D.lc (ld a) (ld b)=t
      .rw[e9];exact NL _
      .exact Nat.le_of_lt (D.less e.2.2.2 e9)
     have n1:D.lc (ld a) (ld n)≠t:=λe9=>by rw[e9] at q1;omega
     have n2:D.lc (ld b) (ld n)≠t:=λe9=>by rw[e9] at q2;omega
     exact(low a ha e.2.1 n1).trans (low b hb e.2.2.1 n2).symm
   clear hit hjt hi hj;induction hp using Pa.ind with
   |refl=>exact Pa.refl _
   |fwd _ e ih2=>exact ih2.trans (one _ _ e)
   |bwd _ e ih2=>exact ih2.trans (one _ _ e).symm
  have alive:∀x,x<n->¬gone x->D.dv (ld x) t->Pa (Ed D ld P' t) x n:=λx hx hg2 hxt=>by
   rcases hk2 x t hx hg2 hxt hf with hk|⟨y,hy,hyt,_⟩
   .exact(Pa.refl x).fwd ⟨hP2 x hk,hxt,hf,D.lci hxt hf⟩
   .exact(old x y hx (hk1 y hy) hxt hyt).trans ((Pa.refl y).fwd ⟨hP2 y hy,hyt,hf,D.lci hyt hf⟩)
  intro x hx hxt;by_cases hgx:gone x
  .obtain⟨y,hy,hgy,hyx⟩:=h.gn x hx hgx;have hyt:=D.trans hyx hxt;exact(old x y hx hy hxt hyt).trans (alive y hy hgy hyt)
  .exact alive x hx hgx hxt
 have key:∀(m:Nat)(t:τ),D.deg t<m->D.dv (ld n) t->∀x,x<n->D.dv (ld x) t->Pa (Ed D ld P' t) x n:=by
  intro m;induction m with
  |zero=>intro t hm;omega
  |succ m ihm=>exact λt hm hf=>core t (λs hs hfs=>ihm s (by omega) hfs) hf
 refine⟨λt i j hi hj hit hjt=>?_,λx hx hgx=>?_,λi j hp=>?_⟩
 .by_cases hf:D.dv (ld n) t
  .have toN:∀i,i<n+1->D.dv (ld i) t->Pa (Ed D ld P' t) i n:=λi hi hit=>by
    rcases Nat.lt_or_ge i n with h1|h1
    .exact key _ t (Nat.lt_succ_self _) hf i h1 hit
    .have:i=n:=by omega
     rw[this];exact Pa.refl _
   exact(toN i hi hit).trans (toN j hj hjt).symm
  .have hi2:i<n:=by
    rcases Nat.lt_or_ge i n with h1|h1
    .exact h1
    .have:i=n:=by omega
     rw[this] at hit;exact absurd hit hf
   have hj2:j<n:=by
    rcases Nat.lt_or_ge j n with h1|h1
    .exact h1
    .have:j=n:=by omega
     rw[this] at hjt;exact absurd hjt hf
   refine(h.con t i j hi2 hj2 hit hjt).mono λa b e=>⟨?_,e.2⟩;rcases hP3 a b e.1 with h1|⟨h1,_⟩
   .exact h1
   .exact absurd (D.trans h1 e.2.2.2) hf
 .obtain⟨h1,h2⟩:=(hg x).1 hgx;have hn:¬gone' n:=λh=>by have:=((hg n).1 h).1;omega
  by_cases hd:D.dv (ld n) (ld x)
  .exact⟨n,by omega,hn,hd⟩
  .have h3:gone x:=h2.elim id λh=>absurd h hd;obtain⟨y,y1,y2,y3⟩:=h.gn x h1 h3;by_cases hy:gone' y
   .have h4:=((hg y).1 hy).2;have h5:D.dv (ld n) (ld y):=h4.elim (λh=>absurd h y2) id;exact⟨n,by omega,hn,D.trans h5 y3⟩
   .exact⟨y,by omega,hy,y3⟩
 .rcases hP1 i j hp with h1|⟨h1,h2⟩
  .have:=h.lt i j h1;omega
  .have:=hk1 i h2;omega
end Go.Proofs.YtjkalahhpobefaaGreat.Gb
namespace Go.Proofs.YtjkalahhpobefaaGreat.Gb
open Go.Proofs.Tryz
set_option linter.unusedSimpArgs false
set_option linter.unusedVariables false
abbrev Te:=Nat×Nat×Nat×Nat
abbrev Mo:=Nat×Nat×Nat
def yj(m:Mo)(t:Te):Te:=(t.1,t.2.1+m.1,t.2.2.1+m.2.1,t.2.2.2+m.2.2)
def bK(m k:Mo):Mo:=(m.1+k.1,m.2.1+k.2.1,m.2.2+k.2.2)
def c1(o:Int)(t:Te):Nat:=if o=1 then t.2.1+t.2.2.1 else t.2.1
def c2(o:Int)(t:Te):Nat:=if o=1 then t.2.1 else t.2.2.1
def yk(t:Te):Nat:=t.2.1+t.2.2.1+t.2.2.2
def L4(x y:Nat×Nat×Nat×Nat):Prop:=x.1<y.1\/(x.1=y.1/\(x.2.1<y.2.1\/(x.2.1=y.2.1/\(x.2.2.1<y.2.2.1\/(x.2.2.1=y.2.2.1/\x.2.2.2<y.2.2.2)))))
def eE:lT Te where
 dv s t:=s.1=t.1/\s.2.1<=t.2.1/\s.2.2.1<=t.2.2.1/\s.2.2.2<=t.2.2.2
 deg:=yk
 lc s t:=(s.1,max s.2.1 t.2.1,max s.2.2.1 t.2.2.1,max s.2.2.2 t.2.2.2)
 trans {a b c} h k:=by omega
 refl a:=by omega
 less {a b} h hne:=by obtain⟨a0,a1,a2,a3⟩:=a;obtain⟨b0,b1,b2,b3⟩:=b;simp only[ne_eq,Prod.mk.injEq] at h hne;unfold yk;simp only;omega
 lcl {a b t} h k:=by have h:a.1=t.1/\a.2.1<=t.2.1/\a.2.2.1<=t.2.2.1/\a.2.2.2<=t.2.2.2:=h;have k:b.1=t.1/\b.2.1<=t.2.1/\b.2.2.1<=t.2.2.1/\b.2.2.2<=t.2.2.2:=k;show a.1=a.1/\a.2.1<=max a.2.1 b.2.1/\a.2.2.1<=max a.2.2.1 b.2.2.1/\a.2.2.2<=max a.2.2.2 b.2.2.2;omega
 lcr {a b t} h k:=by have h:a.1=t.1/\a.2.1<=t.2.1/\a.2.2.1<=t.2.2.1/\a.2.2.2<=t.2.2.2:=h;have k:b.1=t.1/\b.2.1<=t.2.1/\b.2.2.1<=t.2.2.1/\b.2.2.2<=t.2.2.2:=k;show b.1=a.1/\b.2.1<=max a.2.1 b.2.1/\b.2.2.1<=max a.2.2.1 b.2.2.1/\b.2.2.2<=max a.2.2.2 b.2.2.2;omega
 lci {a b t} h k:=by have h:a.1=t.1/\a.2.1<=t.2.1/\a.2.2.1<=t.2.2.1/\a.2.2.2<=t.2.2.2:=h;have k:b.1=t.1/\b.2.1<=t.2.1/\b.2.2.1<=t.2.2.1/\b.2.2.2<=t.2.2.2:=k;show a.1=t.1/\max a.2.1 b.2.1<=t.2.1/\max a.2.2.1 b.2.2.1<=t.2.2.1/\max a.2.2.2 b.2.2.2<=t.2.2.2;omega
end Go.Proofs.YtjkalahhpobefaaGreat.Gb
namespace Go.Proofs.YtjkalahhpobefaaGreat.Gb
open Go.Proofs.Tryz
set_option linter.unusedSimpArgs false
set_option linter.unusedVariables false
variable {τ M:Type}
def mP{S:cN τ M}{p:Int}(G:bB S p)(A:τ->Prop):Prop:=∀i a j b,G.live i->G.live j->S.act a (G.ld i)=S.act b (G.ld j)->A (S.act a (G.ld i))->Rl G i a j b
theorem yl[DecidableEq τ]{S:cN τ M}{p:Int}{G:bB S p}{A:τ->Prop}(hA:mP G A)(t:τ)(ht:A t):∀(rp:Rp M),(∀r∈rp,G.live r.2.2/\(S.lt (S.act r.2.1 (G.ld r.2.2)) t\/S.act r.2.1 (G.ld r.2.2)=t))->(Vb G (λs=>S.lt s t) λφ=>ev G φ rp)\/∃i a c,G.live i/\S.act a (G.ld i)=t/\(Vb G (λs=>S.lt s t) λφ=>ev G φ rp-c*Hm G i a φ)/\p∣ev G (dl t) rp-c
 |[],_=>Ox (Vb.zero λφ=>by simp[ev])
 |r::rp,h=>by
  have hr:=h r (by simp);have ih:=yl hA t ht rp λx hx=>h x (by simp[hx]);rcases hr.2 with hlt|heq
  .have hv:Vb G (λs=>S.lt s t) λφ=>r.1*ln (λs=>φ (S.act r.2.1 s)) (G.g r.2.2):=⟨[r],λx hx=>by rw[N2] at hx;rw[hx];exact⟨hr.1,hlt⟩,λφ=>⟨0,by simp[ev]⟩⟩;rcases ih with ih|⟨i,a,c,h1,h2,h3,h4⟩
   .exact Ox ((Vb.add hv ih).congr λφ=>⟨0,by simp only[ev];omega⟩)
   .refine Oy ⟨i,a,c,h1,h2,(Vb.add hv h3).congr λφ=>⟨0,by simp only[ev];omega⟩,?_⟩;simp only[ev];rw[tI hr.1 _ _ hlt];simpa using h4
  .obtain⟨q,hq⟩:=G.inv r.2.2 hr.1;have hself:∀φ,p∣r.1*ln (λs=>φ (S.act r.2.1 s)) (G.g r.2.2)-(r.1*G.lc r.2.2)*Hm G r.2.2 r.2.1 φ:=λφ=>by
    unfold Hm;generalize ln (λs=>φ (S.act r.2.1 s)) (G.g r.2.2)=z;refine⟨-(q*r.1*z),?_⟩;have e:G.lc r.2.2*G.iv r.2.2=1+p*q:=by omega
    have e2:r.1*G.lc r.2.2*(G.iv r.2.2*z)=r.1*z*(G.lc r.2.2*G.iv r.2.2):=by grind
    rw[e2,e];grind
   have hco:ev G (dl t) (r::rp)=r.1*G.lc r.2.2+ev G (dl t) rp:=by simp only[ev];rw[yh hr.1 r.2.1 t heq]
   rcases ih with ih|⟨i,a,c,h1,h2,h3,h4⟩
   .refine Oy ⟨r.2.2,r.2.1,r.1*G.lc r.2.2,hr.1,heq,ih.congr λφ=>?_,?_⟩
    .obtain⟨z,hz⟩:=hself φ;exact⟨z,by simp only[ev];omega⟩
    .obtain⟨rq,k1,k2⟩:=ih;obtain⟨z,hz⟩:=k2 (dl t);have hz:ev G (dl t) rp-ev G (dl t) rq=p*z:=hz;rw[oL t k1] at hz;rw[hco];exact⟨z,by omega⟩
   .have hR:=hA i a r.2.2 r.2.1 h1 hr.1 (by rw[h2,heq]) (by rw[h2];exact ht);unfold Rl at hR;rw[h2] at hR;refine Oy ⟨i,a,c+r.1*G.lc r.2.2,h1,h2,((Vb.add h3 (Vb.scl (-(r.1*G.lc r.2.2)) hR)).congr λφ=>?_),?_⟩
    .obtain⟨z,hz⟩:=hself φ;refine⟨z,?_⟩;simp only[ev];grind
    .obtain⟨z,hz⟩:=h4;rw[hco];exact⟨z,by omega⟩
variable{p:Int}
theorem Ez[DecidableEq τ]{S:cN τ M}{G:bB S p}{A:τ->Prop}(hA:mP G A)(hdn:∀{s t},S.lt s t->A t->A s)(T:τ)(hT:A T):∀X:Fn τ,Vb G (λs=>S.lt s T\/s=T) X->(∀φ,p∣X φ)\/∃i a t,G.live i/\S.act a (G.ld i)=t/\¬p∣X (dl t)/\∀s,S.lt t s->p∣X (dl s):=by
 induction T using S.wf.induction with
 |_ T ih=>
  intro X hX;obtain⟨rp,h1,h2⟩:=hX;have hlow:Vb G (λs=>S.lt s T) X->(∀φ,p∣X φ)\/∃i a t,G.live i/\S.act a (G.ld i)=t/\¬p∣X (dl t)/\∀s,S.lt t s->p∣X (dl s):=by
   rintro ⟨rq,k1,k2⟩;cases rq with
   |nil=>exact Ox λφ=>by simpa [ev] using k2 φ
   |cons r rq=>
    have hmax:∀(l:Rp M)(m:τ),S.lt m T->(∀x∈l,S.lt (S.act x.2.1 (G.ld x.2.2)) T)->∃m2,S.lt m2 T/\(S.lt m m2\/m=m2)/\∀x∈l,S.lt (S.act x.2.1 (G.ld x.2.2)) m2\/S.act x.2.1 (G.ld x.2.2)=m2:=by
     intro l;induction l with
     |nil=>exact λm hm _=>⟨m,hm,Oy rfl,λx hx=>by simp at hx⟩
     |cons y l ihl=>
      intro m hm hl;obtain⟨m2,a1,a2,a3⟩:=ihl m hm λx hx=>hl x (by simp[hx]);rcases S.tri (S.act y.2.1 (G.ld y.2.2)) m2 with h|h|h
      .exact⟨m2,a1,a2,λx hx=>(Og.1 hx).elim (λe=>by rw[e];exact Ox h) (a3 x)⟩
      .exact⟨m2,a1,a2,λx hx=>(Og.1 hx).elim (λe=>by rw[e];exact Oy h) (a3 x)⟩
      .refine⟨S.act y.2.1 (G.ld y.2.2),hl y (by simp),Ox (a2.elim (λh2=>S.trans h2 h) (λe=>by rw[e];exact h)),λx hx=>(Og.1 hx).elim (λe=>by rw[e];exact Oy rfl) (λhx=>Ox ((a3 x hx).elim (λh2=>S.trans h2 h) (λe=>by rw[e];exact h)))⟩
    obtain⟨m2,b1,b2,b3⟩:=hmax rq (S.act r.2.1 (G.ld r.2.2)) (k1 r (by simp)).2 (λx hx=>(k1 x (by simp[hx])).2);refine ih m2 b1 (hdn b1 hT) X ⟨r::rq,λx hx=>⟨(k1 x hx).1,?_⟩,k2⟩;rcases Og.1 hx with rfl|hx
    .exact b2
    .exact b3 x hx
  rcases yl hA T hT rp h1 with hd|⟨i,a,c,d1,d2,d3,d4⟩
  .exact hlow (hd.congr h2)
  .by_cases hc:p∣X (dl T)
   .refine hlow (d3.congr λφ=>?_);obtain⟨z1,hz1⟩:=h2 φ;obtain⟨z2,hz2⟩:=h2 (dl T);obtain⟨z3,hz3⟩:=hc;obtain⟨z4,hz4⟩:=d4;have e:c=p*(z3-z2-z4):=by rw[Int.mul_sub,Int.mul_sub];omega
    refine⟨z1+(z3-z2-z4)*Hm G i a φ,?_⟩;rw[e];grind
   .refine Oy ⟨i,a,T,d1,d2,hc,λs hs=>?_⟩;obtain⟨z,hz⟩:=h2 (dl s);rw[oL s λr hr=>⟨(h1 r hr).1,(h1 r hr).2.elim (λh=>S.trans h hs) (λe=>by rw[e];exact hs)⟩] at hz;exact⟨z,by omega⟩
theorem EA{τ M:Type}{S:cN τ M}(canc:∀a b s,S.act a s=S.act b s->a=b){G:bB S p}{D:lT τ}(hdv:∀s t,D.dv s t↔∃a,S.act a s=t){P:Nat->Nat->Prop}(hcon:∀t i j,G.live i->G.live j->D.dv (G.ld i) t->D.dv (G.ld j) t->Pa (Ed D G.ld P t) i j){A:τ->Prop}(hAd:∀{s t},D.dv s t->A t->A s)(good:∀i j t,P i j->D.dv (G.ld i) t->D.dv (G.ld j) t->A (D.lc (G.ld i) (G.ld j))->∃a b,S.act a (G.ld i)=D.lc (G.ld i) (G.ld j)/\S.act b (G.ld j)=D.lc (G.ld i) (G.ld j)/\Rl G i a j b):mP G A:=by
 intro i a j b hi hj e hAt;obtain⟨t,ht⟩:∃t,S.act a (G.ld i)=t:=⟨_,rfl⟩;rw[ht] at hAt;have hp:=hcon t i j hi hj ((hdv _ _).2 ⟨a,ht⟩) ((hdv _ _).2 ⟨b,by rw[<-e,ht]⟩);have key:∀k,Pa (Ed D G.ld P t) i k->∃c,S.act c (G.ld k)=t/\Rl G i a k c:=by
  intro k hk;induction hk using Pa.ind with
  |refl=>exact⟨a,ht,Rl.refl G i a⟩
  |fwd _ e2 ih=>obtain⟨c,hc,hr⟩:=ih;obtain⟨a2,b2,h1,h2,h3⟩:=good _ _ t e2.1 e2.2.1 e2.2.2.1 (hAd e2.2.2.2 hAt);obtain⟨m,hm⟩:=(hdv _ _).1 e2.2.2.2;have e3:S.mul m a2=c:=canc _ _ _ (by rw[S.act_mul,h1,hm,hc]);have h4:=h3.shift m;rw[e3] at h4;exact⟨S.mul m b2,by rw[S.act_mul,h2,hm],Rl.trans (by rw[ht,hc]) hr h4⟩
  |bwd _ e2 ih=>obtain⟨c,hc,hr⟩:=ih;obtain⟨a2,b2,h1,h2,h3⟩:=good _ _ t e2.1 e2.2.1 e2.2.2.1 (hAd e2.2.2.2 hAt);obtain⟨m,hm⟩:=(hdv _ _).1 e2.2.2.2;have e3:S.mul m b2=c:=canc _ _ _ (by rw[S.act_mul,h2,hm,hc]);have h4:=h3.shift m;rw[e3] at h4;have e4:=(S.act_mul m a2 _).trans ((congrArg (S.act m) h1).trans hm);exact⟨S.mul m a2,e4,Rl.trans (by rw[ht,hc]) hr (Rl.symm (by rw[e4,hc]) h4)⟩
 obtain⟨c,hc,hr⟩:=key j hp;have e5:c=b:=canc _ _ _ (by rw[hc,<-e,ht]);rw[e5] at hr;exact hr
end Go.Proofs.YtjkalahhpobefaaGreat.Gb
namespace Go.Proofs.YtjkalahhpobefaaGreat.C4
open Go.Proofs.Tryz
set_option linter.unusedSimpArgs false
set_option linter.unusedVariables false
open Cn (Od jl iV bC Pr sm kj yV tV yW mU fJ qB qA)
abbrev N6:=Nat×Nat×Nat×Nat×Nat×Nat
def L6(x y:N6):Prop:=x.1<y.1\/(x.1=y.1/\(x.2.1<y.2.1\/(x.2.1=y.2.1/\(x.2.2.1<y.2.2.1\/(x.2.2.1=y.2.2.1/\(x.2.2.2.1<y.2.2.2.1\/(x.2.2.2.1=y.2.2.2.1/\(x.2.2.2.2.1<y.2.2.2.2.1\/(x.2.2.2.2.1=y.2.2.2.2.1/\x.2.2.2.2.2<y.2.2.2.2.2)))))))))
theorem EB:WellFounded L6:=by
 refine Subrelation.wf (r:=(Prod.lex Nat.lt_wfRel (Prod.lex Nat.lt_wfRel (Prod.lex Nat.lt_wfRel (Prod.lex Nat.lt_wfRel (Prod.lex Nat.lt_wfRel Nat.lt_wfRel))))).rel) (fun {x y} h=>?_) (Prod.lex Nat.lt_wfRel (Prod.lex Nat.lt_wfRel (Prod.lex Nat.lt_wfRel (Prod.lex Nat.lt_wfRel (Prod.lex Nat.lt_wfRel Nat.lt_wfRel))))).wf;obtain⟨x1,x2,x3,x4,x5,x6⟩:=x;obtain⟨y1,y2,y3,y4,y5,y6⟩:=y;rcases h with h|⟨h,h2⟩
 .exact Prod.Lex.left _ _ h
 .simp only at h;subst h;refine Prod.Lex.right _ ?_;rcases h2 with h|⟨h,h2⟩
  .exact Prod.Lex.left _ _ h
  .simp only at h;subst h;refine Prod.Lex.right _ ?_;rcases h2 with h|⟨h,h2⟩
   .exact Prod.Lex.left _ _ h
   .simp only at h;subst h;refine Prod.Lex.right _ ?_;rcases h2 with h|⟨h,h2⟩
    .exact Prod.Lex.left _ _ h
    .simp only at h;subst h;refine Prod.Lex.right _ ?_;rcases h2 with h|⟨h,h2⟩
     .exact Prod.Lex.left _ _ h
     .simp only at h;subst h;exact Prod.Lex.right _ h2
def iC(i:Nat):Nat:=if i<256 then 255-i else i
theorem EC{i j:Nat}(h:iC i=iC j):i=j:=by unfold iC at h;split at h<;>split at h<;>omega
def fS(n:Nat)(d:Nat->Nat)(t:Tt):N6:=(d t.1+aC t.2,(if t.1<n then 1 else 0),t.2.1+t.2.2.1+t.2.2.2.1,t.2.1+t.2.2.1,t.2.1+t.2.2.2.1,iC t.1)
theorem ED{n:Nat}{d:Nat->Nat}{s t:Tt}(h:fS n d s=fS n d t):s=t:=by obtain⟨s0,s1,s2,s3,s4⟩:=s;obtain⟨t0,t1,t2,t3,t4⟩:=t;have h:(d s0+(s1+s2+s3+s4),(if s0<n then 1 else 0),s1+s2+s3,s1+s2,s1+s3,iC s0)=(d t0+(t1+t2+t3+t4),(if t0<n then 1 else 0),t1+t2+t3,t1+t2,t1+t3,iC t0):=h;simp only[Prod.mk.injEq] at h;obtain⟨h1,_,h3,h4,h5,h6⟩:=h;have h6:=EC h6;subst h6;simp only[Prod.mk.injEq,true_and];omega
def aN(n:Nat)(d:Nat->Nat):Gb.cN Tt Mt where
 lt s t:=L6 (fS n d s) (fS n d t)
 act:=aw
 mul:=bK
 act_mul a b t:=by obtain⟨a1,a2,a3,a4⟩:=a;obtain⟨b1,b2,b3,b4⟩:=b;obtain⟨t0,t1,t2,t3,t4⟩:=t;simp only[aw,bK,Prod.mk.injEq,true_and];omega
 wf:=InvImage.wf (fS n d) EB
 tri s t:=by
  have h:=@ED n d s t;generalize fS n d s=x at h⊢;generalize fS n d t=y at h⊢;obtain⟨x1,x2,x3,x4,x5,x6⟩:=x;obtain⟨y1,y2,y3,y4,y5,y6⟩:=y;by_cases e:(x1,x2,x3,x4,x5,x6)=(y1,y2,y3,y4,y5,y6)
  .exact Oy (Ox (h e))
  .simp only[Prod.mk.injEq] at e;unfold L6;simp only;have:(x1<y1\/x1=y1/\(x2<y2\/x2=y2/\(x3<y3\/x3=y3/\(x4<y4\/x4=y4/\(x5<y5\/x5=y5/\x6<y6)))))\/(y1<x1\/y1=x1/\(y2<x2\/y2=x2/\(y3<x3\/y3=x3/\(y4<x4\/y4=x4/\(y5<x5\/y5=x5/\y6<x6))))):=by omega
   exact this.elim Ox λh=>Oy (Oy h)
 trans {a b c} h k:=by revert h k;generalize fS n d a=x;generalize fS n d b=y;generalize fS n d c=z;unfold L6;omega
 mono a {s t} h:=by revert h;obtain⟨s0,s1,s2,s3,s4⟩:=s;obtain⟨t0,t1,t2,t3,t4⟩:=t;obtain⟨m1,m2,m3,m4⟩:=a;unfold fS aw bK aC L6;simp only;generalize (if s0<n then 1 else 0:Nat)=x;generalize (if t0<n then 1 else 0:Nat)=y;generalize iC s0=u;generalize iC t0=v;omega
variable{d:Nat->Nat}{n:Nat}
theorem EE:∀a b s,(aN n d).act a s=(aN n d).act b s->a=b:=by intro a b s h;have h:aw a s=aw b s:=h;simp only[aw,Prod.mk.injEq,true_and] at h;rw[lU a,lU b] at h;exact qq h
def bT:Gb.lT Tt where
 dv s t:=s.1=t.1/\cl s.2 t.2
 deg t:=aC t.2
 lc s t:=(s.1,max s.2.1 t.2.1,max s.2.2.1 t.2.2.1,max s.2.2.2.1 t.2.2.2.1,max s.2.2.2.2 t.2.2.2.2)
 trans {a b c} h k:=by unfold cl at*;omega
 refl a:=by unfold cl;omega
 less {a b} h hne:=by obtain⟨a0,a1,a2,a3,a4⟩:=a;obtain⟨b0,b1,b2,b3,b4⟩:=b;unfold cl at h;simp only[ne_eq,Prod.mk.injEq] at h hne;unfold aC;simp only;omega
 lcl {a b t} h k:=by unfold cl at*;refine⟨rfl,?_⟩;simp only;omega
 lcr {a b t} h k:=by have e:b.1=a.1:=k.1.trans h.1.symm;unfold cl at*;refine⟨e,?_⟩;simp only;omega
 lci {a b t} h k:=by unfold cl at*;simp only;omega
theorem qr(n:Nat)(d:Nat->Nat)(s t:Tt):bT.dv s t↔∃a,(aN n d).act a s=t:=by
 constructor
 .intro h;have h:s.1=t.1/\cl s.2 t.2:=h;refine⟨dJ s.2 t.2,?_⟩;show aw _ _=_;unfold aw;rw[lU,oM h.2,h.1]
 .rintro ⟨a,h⟩;have h:aw a s=t:=h;rw[<-h];show s.1=s.1/\cl s.2 (bK a s.2);exact⟨rfl,by rw[lU];exact qt _ _⟩
theorem EF{s t:Tt}(h:(aN n d).lt s t):d s.1+aC s.2<=d t.1+aC t.2:=by have h:L6 (fS n d s) (fS n d t):=h;unfold L6 fS at h;simp only at h;omega
def ic(n:Nat)(d:Nat->Nat):Od Tt:=⟨(aN n d).lt,(aN n d).wf,(aN n d).tri,(aN n d).trans⟩
def yo:Od Mt where
 lt s t:=(ic 0 λ_=>0).lt (0,s) (0,t)
 wf:=InvImage.wf (λs:Mt=>((0,s):Tt)) (ic 0 λ_=>0).wf
 tri s t:=by
  rcases (ic 0 λ_=>0).tri (0,s) (0,t) with h|h|h
  .exact Ox h
  .exact Oy (Ox (by simpa using h))
  .exact Oy (Oy h)
 trans h k:=(ic 0 λ_=>0).trans h k
end Go.Proofs.YtjkalahhpobefaaGreat.C4
namespace Go.Proofs.YtjkalahhpobefaaGreat.C4
open Go.Proofs.Tryz
set_option linter.unusedSimpArgs false
set_option linter.unusedVariables false
open Cn (Od jl iV bC Pr)
theorem EO{τ:Type}{A:τ->Prop}{k:Nat}(h:bC A k){l:List τ}(hn:l.Nodup)(hl:∀x∈l,A x):l.length<=k:=by obtain⟨m,m1,m2,m3⟩:=h;have:=qy (λ_=>1) l m hn λx hx=>(m2 x).2 (hl x hx);rw[iE (c:=1) λ_ _=>rfl,iE (c:=1) λ_ _=>rfl] at this;omega
theorem EP(O:Od Tt)(hO:∀x {s t},O.lt s t->O.lt (aw x s) (aw x t))(P:Od Mt){p:Int}(hp:Pr p)(hp1:¬p∣1){w n:Nat}(hw:w<=3)(hn4:n<=4){d:Nat->Nat}(hd0:∀i,i<w->d i=0)(hd:∀i,i<w+n->d i<=3){G:List (Nat×(Tt->Int))}{us:List Nat}(hus:us.Perm ((List.range n).map (w+·)))(hG:Un p d us G){l:List Tt}(hl:l.Nodup)(hm:∀s∈l,s.1<w+n/\Ml (λy=>LM O p (w+n) d G (s.1,y)) s.2):l.length<=2000001:=by
 have hbd:=fun(s:Tt)(hs:s∈l)=>yx O hO P hp hp1 hw hd0 hd hus hG (hm s hs).1 (hm s hs).2.1 (hm s hs).2.2;obtain⟨R,hRR⟩:∃R,R=w+n:=⟨_,rfl⟩;rw[<-hRR] at hd hm;have c3:=λt=>tO O P hp hp1 R d t _ G (λu hu=>by obtain⟨k,hk,rfl⟩:=N9.1 (hus.mem_iff.1 hu);have:=List.mem_range.1 hk;omega) hG;simp only[λt=>(hus.map λu=>iD (d u) t).sum_nat] at c3;have ea:∃α:Nat->Nat->Nat,∀i s,HF (Bq λy=>LM O p R d G (i,y)) s (α i s):=⟨λi s=>(jK (Bq λy=>LM O p R d G (i,y)) (λm h=>h.1) s).choose,λi s=>(jK (Bq λy=>LM O p R d G (i,y)) (λm h=>h.1) s).choose_spec⟩;have eg:∃γ:Nat->Nat->Nat,∀i s,HF (Gq λy=>LM O p R d G (i,y)) s (γ i s):=⟨λi s=>(jK (Gq λy=>LM O p R d G (i,y)) (λm h=>h.1) s).choose,λi s=>(jK (Gq λy=>LM O p R d G (i,y)) (λm h=>h.1) s).choose_spec⟩;obtain⟨α,ha⟩:=ea;obtain⟨γ,hg⟩:=eg;obtain⟨fu,hfu⟩:∃fu:Nat->Bool,∀i,fu i=true↔∀y,¬LM O p R d G (i,y):=⟨λi=>@decide (∀y,¬LM O p R d G (i,y)) (Classical.propDecidable _),λi=>by simp⟩;have hA:∀t,bC (λu:Tt=>u.1<R/\u∈Ts R d t/\¬LM O p R d G u) (((List.range R).map (cS d α t)).sum):=λt=>qu t (P:=λu=>¬LM O p R d G u) (λi hi ht=>(qz (λm h=>h.1) (ha i (t-d i))).congr λy=>by
  show aC y=t-d i/\bX (gj y) [0,1,2,3]/\¬LM O p R d G (i,gI (gj y))↔_;rw[lV];exact⟨λh=>⟨h.1,h.2.2⟩,λh=>⟨h.1,jJ y,h.2⟩⟩) R (NL _)
 have hall:∀t,bC (λu:Tt=>u.1<R/\u∈Ts R d t/\True) (((List.range R).map (cS d (λ_ s=>nm 4 s) t)).sum):=λt=>qu t (P:=λu=>True) (v:=λ_ s=>nm 4 s) (λi hi ht=>(oO (t-d i)).congr λy=>by simp) R (NL _);have hGm:∀t,bC (λu:Tt=>u.1<R/\u∈Ts R d t/\Ml (λy=>LM O p R d G (u.1,y)) u.2) (((List.range R).map (cS d γ t)).sum):=λt=>qu t (P:=λu=>Ml (λy=>LM O p R d G (u.1,y)) u.2) (λi hi ht=>(qz (λm h=>h.1) (hg i (t-d i))).congr λy=>by
  rw[EG]) R (NL _)
 have he:∀t,((List.range R).map (cS d α t)).sum=w*nm 4 t:=λt=>by
  have h:=bC.uniq (((c3 t).or (hA t) λu h1 h2=>h2.2.2 (by
   have e:=(dk.1 h2.2.1).2;unfold LM;rw[e];exact h1)).congr λu=>by
    constructor
    .rintro (h|⟨h1,h2,_⟩)
     .obtain⟨f,_,h2,_⟩:=h;exact⟨(dk.1 h2).1,h2,trivial⟩
     .exact⟨h1,h2,trivial⟩
    .rintro ⟨h1,h2,_⟩;by_cases h:Cn.Ld O p (Ts R d t) (Vm p R d G t) u
     .exact Ox h
     .refine Oy ⟨h1,h2,λhc=>h ?_⟩;unfold LM at hc;rw[(dk.1 h2).2] at hc;exact hc) (hall t)
  generalize ((List.range R).map (cS d α t)).sum=z at h⊢;have e9:((List.range R).map (cS d (λ_ s=>nm 4 s) t)).sum=w*nm 4 t+(((List.range n).map (w+·)).map λu=>iD (d u) t).sum:=by
   rw[hRR,List.range_add,Oi,List.sum_append];congr 1;rw[List.map_congr_left (g:=λ_=>nm 4 t) λi hi=>by
    have:=hd0 i (List.mem_range.1 hi);unfold cS;rw[this,Oe (NS _),Nat.sub_zero],iE (c:=nm 4 t) λ_ _=>rfl,List.length_range,Nat.mul_comm]
  rw[e9] at h;omega
 have C:gJ d (λi y=>LM O p R d G (i,y)) w ((List.range R).filter fu) ((List.range R).filter λi=>!fu i) α γ:=by
  refine⟨λi x {y} h=>LM.up hO x h,λi hi=>?_,λi hi=>?_,λi hi=>?_,λi hi=>?_,ha,hg,λt=>?_⟩
  .exact hd i (List.mem_range.1 (Om.1 hi).1)
  .exact hd i (List.mem_range.1 (Om.1 hi).1)
  .exact(hfu i).1 (Om.1 hi).2
  .have h:=(Om.1 hi).2;refine Oj λhc=>?_;have:=(hfu i).2 λy hy=>hc ⟨y,hy⟩;simp[this] at h
  .rw[<-tK,he]
 have hlen:=yr fu (List.range R);rw[List.length_range,C.len hw] at hlen;have hB:=C.all hw (by omega);have hz:∀t,(((List.range R).filter fu).map (cS d γ t)).sum=0:=λt=>by
  rw[iE (c:=0) λi hi=>?_,Nat.zero_mul];unfold cS;split
  .exact(hg i (t-d i)).uniq (HF.none λm hm=>(hfu i).1 (Om.1 hi).2 _ hm.2.1)
  .rfl
 have upto:∀T,bC (λu:Tt=>u.1<R/\aC u.2+d u.1<=T/\Ml (λy=>LM O p R d G (u.1,y)) u.2) (er (λt=>(((List.range R).filter λi=>!fu i).map (cS d γ t)).sum) T):=by
  have one:∀t,bC (λu:Tt=>u.1<R/\u∈Ts R d t/\Ml (λy=>LM O p R d G (u.1,y)) u.2) ((((List.range R).filter λi=>!fu i).map (cS d γ t)).sum):=λt=>by have h:=hGm t;rw[tK fu,hz,N4] at h;exact h
  intro T;induction T with
  |zero=>refine(one 0).congr λu=>?_;rw[dk];exact⟨fun⟨h1,h2,h3⟩=>⟨h1,by omega,h3⟩,fun⟨h1,h2,h3⟩=>⟨h1,⟨h1,by omega⟩,h3⟩⟩
  |succ T ih=>
   refine(ih.or (one (T+1)) λu h1 h2=>?_).congr λu=>?_
   .have:=(dk.1 h2.2.1).2;omega
   .rw[dk];constructor
    .rintro (⟨h1,h2,h3⟩|⟨h1,h2,h3⟩)
     .exact⟨h1,by omega,h3⟩
     .exact⟨h1,by omega,h3⟩
    .rintro ⟨h1,h2,h3⟩;by_cases h:aC u.2+d u.1<=T
     .exact Ox ⟨h1,h,h3⟩
     .exact Oy ⟨h1,⟨h1,by omega⟩,h3⟩
 have:=EO (upto 4801) hl λs hs=>⟨(hm s hs).1,hbd s hs,(hm s hs).2⟩;omega
end Go.Proofs.YtjkalahhpobefaaGreat.C4
namespace Go.Proofs.YtjkalahhpobefaaGreat.C4
open Go.Proofs.Tryz
set_option linter.unusedSimpArgs false
set_option linter.unusedVariables false
open Cn (Od jl iV bC Pr sm kj yV tV yW mU fJ qB qA)
def co(l:List (Int×Tt))(s:Tt):Int:=Gb.ln (Gb.dl s) l
theorem EQ(y:Mt)(u v:Tt):Gb.dl (aw y u) (aw y v)=Gb.dl u v:=by
 unfold Gb.dl;by_cases h:v=u
 .rw[Oe h,Oe (by rw[h])]
 .rw[Oc h,Oc];intro e;apply h;simp only[aw,Prod.mk.injEq] at e;obtain⟨e1,e2⟩:=e;exact Prod.ext e1 (qq (x:=y) e2)
variable{s:Tt}
theorem ER{y:Mt}{v:Tt}(h:¬cl y s.2):Gb.dl s (aw y v)=0:=by unfold Gb.dl;rw[Oc];intro e;apply h;rw[<-e];exact qt y v.2
theorem tP(y:Mt)(s:Tt):∀l:List (Int×Tt),Gb.ln (λt=>Gb.dl s (aw y t)) l=cO y (co l) s
 |[]=>by simp[Gb.ln,cO,co]
 |x::l=>by
  have ih:=tP y s l;simp only[Gb.ln];rw[ih];by_cases h:cl y s.2
  .have e:=ki h;rw[<-e];generalize (s.1,dJ y s.2)=u;rw[gK,gK,EQ];rfl
  .rw[gk h,gk h,ER h];omega
structure Hg{p:Int}(R:Nat)(nb:Nat)(d:Nat->Nat)(G:Gb.bB (aN nb d) p)(n:Nat)(c:Nat->Nat):Prop where
 hom:∀i,i<n->∀x∈G.g i,x.2∈Ts R d (c i)
 live:∀i,i<n->G.live i
def Hr(n:Nat)(c:Nat->Nat)(t:Nat)(rp:Gb.Rp Mt):Prop:=∀r∈rp,r.2.2<n/\c r.2.2+aC r.2.1=t
def gl{p:Int}{nb:Nat}{d:Nat->Nat}(G:Gb.bB (aN nb d) p)(c:Nat->Nat):Nat->List (Nat×(Tt->Int))
 |0=>[]
 |n+1=>(c n,co (G.g n))::gl G c n
theorem yA{φ:Mt->Tt->Int}{y:Mt}(t:Tt):∀{l:List Mt},l.Nodup->y∈l->sm l (λz=>if z=y then 1 else 0) φ t=φ y t
 |z::l,hn,hy=>by
  have hnd:=List.nodup_cons.1 hn;rw[fJ];rcases Og.1 hy with e0|hy
  .subst e0;rw[Oe rfl,kj φ t λw hw=>Oc fun(e:w=y)=>hnd.1 (e ▸ hw)];omega
  .have:z≠y:=λe=>hnd.1 (e ▸ hy);rw[Oc this,yA t hnd.2 hy];omega
theorem yB{p:Int}{R:Nat}{nb:Nat}{d:Nat->Nat}{G:Gb.bB (aN nb d) p}{c:Nat->Nat}{t:Nat}{y:Mt}{i:Nat}(ht:c i+aC y=t):∀n,i<n->Vm p R d (gl G c n) t (cO y (co (G.g i)))
 |n+1,h=>by
  by_cases e:i=n
  .subst e;refine⟨λz=>if z=y then 1 else 0,_,(mS p R d t (gl G c i)).zero,λs _=>⟨0,?_⟩⟩;rw[Oe (by omega),yA s (mT _) (jk.2 (by omega))];show _-(0+_)=_;omega
  .refine⟨λ_=>0,_,yB ht n (by omega),λs _=>⟨0,?_⟩⟩;have hz:(if c n<=t then sm (Ys (t-c n)) (λ_=>(0:Int)) (λy=>cO y (co (G.g n))) s else 0)=0:=by
    split
    .exact kj _ _ λ_ _=>rfl
    .rfl
   rw[hz];omega
theorem tQ{p:Int}{R:Nat}{nb:Nat}{d:Nat->Nat}{G:Gb.bB (aN nb d) p}{c:Nat->Nat}{t n:Nat}:∀{rp:Gb.Rp Mt},Hr n c t rp->Vm p R d (gl G c n) t λs=>Gb.ev G (Gb.dl s) rp
 |[],_=>(mS p R d t _).zero
 |r::rp,h=>by have h1:=h r (by simp);have hS:=mS p R d t (gl G c n);refine hS.con (λs _=>⟨0,?_⟩) (hS.add (hS.mul r.1 (yB (R:=R) (G:=G) h1.2 n h1.1)) (tQ (rp:=rp) λx hx=>h x (by simp[hx])));have e:Gb.ev G (Gb.dl s) (r::rp)=r.1*Gb.ln (λt=>Gb.dl s (aw r.2.1 t)) (G.g r.2.2)+Gb.ev G (Gb.dl s) rp:=rfl;rw[e,tP];omega
theorem yC{p:Int}{R:Nat}{nb:Nat}{d:Nat->Nat}{G:Gb.bB (aN nb d) p}{c:Nat->Nat}{t:Nat}:∀(n:Nat)(f:Tt->Int),Vm p R d (gl G c n) t f->∃rp,Hr n c t rp/\∀s∈Ts R d t,p∣f s-Gb.ev G (Gb.dl s) rp
 |0,f,h=>⟨[],λr hr=>by simp at hr,λs hs=>by have:=h s hs;simpa [Gb.ev] using this⟩
 |n+1,f,⟨a,h,h1,h2⟩=>by
  obtain⟨rp,r1,r2⟩:=yC n h h1;by_cases hc:c n<=t
  .refine⟨(Ys (t-c n)).map (λy=>(a y,y,n))++rp,λr hr=>?_,λs hs=>?_⟩
   .rcases N1.1 hr with hr|hr
    .obtain⟨y,hy,rfl⟩:=N9.1 hr;rw[jk] at hy;exact⟨Nat.lt_succ_self _,by simp only;omega⟩
    .have:=r1 r hr;exact⟨by omega,this.2⟩
   .rw[Gb.qp];have e:∀l:List Mt,Gb.ev G (Gb.dl s) (l.map λy=>(a y,y,n))=sm l a (λy=>cO y (co (G.g n))) s:=by
     intro l;induction l with
     |nil=>rfl
     |cons y l ih=>rw[fJ,<-ih,<-tP];rfl
    rw[e];obtain⟨k,hk⟩:=h2 s hs;obtain⟨m,hm⟩:=r2 s hs;rw[Oe hc] at hk;exact⟨k+m,by grind⟩
  .refine⟨rp,λr hr=>by have:=r1 r hr;exact⟨by omega,this.2⟩,λs hs=>?_⟩;obtain⟨k,hk⟩:=h2 s hs;obtain⟨m,hm⟩:=r2 s hs;rw[Oc hc] at hk;exact⟨k+m,by grind⟩
theorem yD{p:Int}{R:Nat}{nb:Nat}{d:Nat->Nat}{G:Gb.bB (aN nb d) p}{c:Nat->Nat}{n t:Nat}(hG:Hg R nb d G n c){u:Tt}(hu:u∉Ts R d t):∀{rp:Gb.Rp Mt},Hr n c t rp->Gb.ev G (Gb.dl u) rp=0
 |[],_=>rfl
 |r::rp,h=>by
  have h1:=h r (by simp);have e:Gb.ev G (Gb.dl u) (r::rp)=r.1*Gb.ln (λt=>Gb.dl u (aw r.2.1 t)) (G.g r.2.2)+Gb.ev G (Gb.dl u) rp:=rfl;rw[e,yD hG hu λx hx=>h x (by simp[hx]),Gb.jj]
  .simp
  .intro x hx;show Gb.dl u (aw r.2.1 x.2)=0;unfold Gb.dl;rw[Oc];intro e2;apply hu;have h3:=hG.hom _ h1.1 x hx;rw[<-e2,<-h1.2,lY];exact h3
theorem yE{p:Int}{nb:Nat}{d:Nat->Nat}{G0 G1:Gb.bB (aN nb d) p}{c0 c1:Nat->Nat}{n0 n1 t:Nat}(ho:∀i,i<n0->∃rp,Hr n1 c1 (c0 i) rp/\∀φ,p∣Gb.ln φ (G0.g i)-Gb.ev G1 φ rp):∀{rp:Gb.Rp Mt},Hr n0 c0 t rp->∃rq,Hr n1 c1 t rq/\∀φ,p∣Gb.ev G0 φ rp-Gb.ev G1 φ rq
 |[],_=>⟨[],λr hr=>by simp at hr,λφ=>⟨0,by simp[Gb.ev]⟩⟩
 |r::rp,h=>by
  have h1:=h r (by simp);obtain⟨rq,q1,q2⟩:=yE ho (rp:=rp) λx hx=>h x (by simp[hx]);obtain⟨rs,s1,s2⟩:=ho r.2.2 h1.1;refine⟨Gb.mN r.1 (Gb.mO (aN nb d) r.2.1 rs)++rq,λx hx=>?_,λφ=>?_⟩
  .rcases N1.1 hx with hx|hx
   .obtain⟨y,hy,rfl⟩:=N9.1 hx;obtain⟨z,hz,rfl⟩:=N9.1 hy;have h3:=s1 z hz;refine⟨h3.1,?_⟩;show c1 z.2.2+aC (bK r.2.1 z.2.1)=t;have e:aC (bK r.2.1 z.2.1)=aC r.2.1+aC z.2.1:=lZ _ _;rw[e];omega
   .exact q1 x hx
  .rw[Gb.qp,Gb.tG,Gb.tH];obtain⟨k,hk⟩:=q2 φ;obtain⟨m,hm⟩:=s2 λt=>φ ((aN nb d).act r.2.1 t);have e:Gb.ev G0 φ (r::rp)=r.1*Gb.ln (λt=>φ ((aN nb d).act r.2.1 t)) (G0.g r.2.2)+Gb.ev G0 φ rp:=rfl;rw[e];exact⟨r.1*m+k,by grind⟩
variable{n1 t nb w n0:Nat}{c0 c1 d:Nat->Nat}{p:Int}
theorem yF{G0 G1:Gb.bB (aN nb d) p}(h0:Hg (w+n0) nb d G0 n0 c0)(h1:Hg (w+n0) nb d G1 n1 c1)(hld:∀i,i<n1->d (G1.ld i).1+aC (G1.ld i).2=c1 i)(ho:∀i,i<n0->∃rp,Hr n1 c1 (c0 i) rp/\∀φ,p∣Gb.ln φ (G0.g i)-Gb.ev G1 φ rp)(hA:Gb.mP G1 λu=>d u.1+aC u.2<t){u:Tt}(hl:LM (ic nb d) p (w+n0) d (gl G0 c0 n0) u)(hdx:d u.1+aC u.2<t):∃i,G1.live i/\bT.dv (G1.ld i) u:=by
 obtain⟨f,f1,f2⟩:=hl;have f2:iV (ic nb d) p (Ts (w+n0) d (d u.1+aC u.2)) f u:=f2;have f1:Vm p (w+n0) d (gl G0 c0 n0) (d u.1+aC u.2) f:=f1;generalize ht':d u.1+aC u.2=t' at f1 f2 hdx;obtain⟨rq,q1,q2⟩:=yC n0 f f1;obtain⟨rs,s1,s2⟩:=yE ho q1;have f3:iV (ic nb d) p (Ts (w+n0) d t') (λv=>Gb.ev G0 (Gb.dl v) rq) u:=qA f2 λv hv=>by obtain⟨a,ha⟩:=q2 v hv;exact⟨-a,by rw[Int.mul_neg];omega⟩
 have hmax:∀l:Gb.Rp Mt,l≠[]->∃r∈l,∀y∈l,(aN nb d).lt ((aN nb d).act y.2.1 (G1.ld y.2.2)) ((aN nb d).act r.2.1 (G1.ld r.2.2))\/(aN nb d).act y.2.1 (G1.ld y.2.2)=(aN nb d).act r.2.1 (G1.ld r.2.2):=by
  intro l;induction l with
  |nil=>exact λh=>absurd rfl h
  |cons a l ih=>
   intro _;by_cases hl:l=[]
   .subst hl;exact⟨a,by simp,λy hy=>by rw[N2] at hy;rw[hy];exact Oy rfl⟩
   .obtain⟨r,r1,r2⟩:=ih hl;rcases (aN nb d).tri ((aN nb d).act a.2.1 (G1.ld a.2.2)) ((aN nb d).act r.2.1 (G1.ld r.2.2)) with h|h|h
    .exact⟨r,by simp[r1],λy hy=>(Og.1 hy).elim (λe=>by rw[e];exact Ox h) (r2 y)⟩
    .exact⟨r,by simp[r1],λy hy=>(Og.1 hy).elim (λe=>by rw[e];exact Oy h) (r2 y)⟩
    .refine⟨a,by simp,λy hy=>(Og.1 hy).elim (λe=>by rw[e];exact Oy rfl) λhy=>Ox ?_⟩;rcases r2 y hy with h3|h3
     .exact(aN nb d).trans h3 h
     .rw[h3];exact h
 have hne:rs≠[]:=λe=>f3.2.1 (by
  obtain⟨a,ha⟩:=s2 (Gb.dl u);rw[e] at ha;exact⟨a,by simpa [Gb.ev] using ha⟩)
 obtain⟨r,r1,r2⟩:=hmax rs hne;have hT:d ((aN nb d).act r.2.1 (G1.ld r.2.2)).1+aC ((aN nb d).act r.2.1 (G1.ld r.2.2)).2<t:=by have h3:=s1 r r1;have h4:=hld _ h3.1;show d (aw r.2.1 (G1.ld r.2.2)).1+aC (aw r.2.1 (G1.ld r.2.2)).2<t;simp only[aw];rw[lZ];omega
 rcases Gb.Ez hA (fun {a b} hl hb=>by have:=EF hl;omega) ((aN nb d).act r.2.1 (G1.ld r.2.2)) hT (λφ=>Gb.ev G0 φ rq) ⟨rs,λy hy=>⟨h1.live _ (s1 y hy).1,r2 y hy⟩,s2⟩ with h|⟨i,a,v,i1,i2,i3,i4⟩
 .exact absurd (h _) f3.2.1
 .have hv:v∈Ts (w+n0) d t':=Oj λhc=>i3 (by show p∣Gb.ev G0 (Gb.dl v) rq;rw[yD h0 hc q1];exact⟨0,by simp⟩);have e:v=u:=qB (O:=ic nb d) (f:=λv=>Gb.ev G0 (Gb.dl v) rq) ⟨hv,i3,λw _ hl=>i4 w hl⟩ f3;exact⟨i,i1,(qr nb d _ _).2 ⟨a,by rw[i2,e]⟩⟩
theorem ES{G0 G1:Gb.bB (aN nb d) p}(h0:Hg (w+n0) nb d G0 n0 c0)(h1:Hg (w+n0) nb d G1 n1 c1)(hld:∀i,i<n1->d (G1.ld i).1+aC (G1.ld i).2=c1 i)(ho:∀i,i<n0->∃rp,Hr n1 c1 (c0 i) rp/\∀φ,p∣Gb.ln φ (G0.g i)-Gb.ev G1 φ rp)(hA:Gb.mP G1 λu=>d u.1+aC u.2<t){X:Gb.Fn Tt}{rp:Gb.Rp Mt}(hr:Hr n0 c0 t rp)(hX:∀φ,p∣X φ-Gb.ev G0 φ rp)(hs:s∈Ts (w+n0) d t)(hn:¬p∣X (Gb.dl s))(hab:∀u∈Ts (w+n0) d t,(aN nb d).lt s u->p∣X (Gb.dl u))(hnd:∀i,G1.live i->¬bT.dv (G1.ld i) s):Ml (λy=>LM (ic nb d) p (w+n0) d (gl G0 c0 n0) (s.1,y)) s.2:=by
 obtain⟨hs1,hs2⟩:=dk.1 hs;refine⟨?_,?_⟩
 .show LM (ic nb d) p (w+n0) d (gl G0 c0 n0) s;unfold LM;rw[hs2];refine⟨_,tQ hr,hs,λhc=>hn ?_,λu hu hl=>?_⟩
  .obtain⟨a,ha⟩:=hX (Gb.dl s);obtain⟨b,hb⟩:=hc;have hb:Gb.ev G0 (Gb.dl s) rp=p*b:=hb;exact⟨a+b,by rw[Int.mul_add];omega⟩
  .obtain⟨a,ha⟩:=hX (Gb.dl u);obtain⟨b,hb⟩:=hab u hu hl;refine⟨b-a,?_⟩;show Gb.ev G0 (Gb.dl u) rp=p*(b-a);rw[Int.mul_sub];omega
 .intro x hx hle hl;have hsx:aw x (s.1,dJ x s.2)=s:=ki hle;have hdx:d s.1+aC (dJ x s.2)+1=t:=by have:=congrArg (λu:Tt=>aC u.2) hsx;simp only[aw] at this;rw[lZ] at this;omega
  obtain⟨i,i1,i2⟩:=yF h0 h1 hld ho hA (u:=(s.1,dJ x s.2)) hl (show d s.1+aC (dJ x s.2)<t by omega);obtain⟨a,ha⟩:=(qr nb d _ _).1 i2;refine hnd i i1 ((qr nb d _ _).2 ⟨(aN nb d).mul x a,?_⟩);rw[(aN nb d).act_mul,ha];exact hsx
end Go.Proofs.YtjkalahhpobefaaGreat.C4
namespace Go.Proofs.YtjkalahhpobefaaGreat.Gb
open Go.Proofs.Tryz
set_option linter.unusedSimpArgs false
set_option linter.unusedVariables false
theorem Pa.map{E F:Nat->Nat->Prop}(f:Nat->Nat)(hEF:∀a b,E a b->F (f a) (f b)){i j:Nat}(h:Pa E i j):Pa F (f i) (f j):=by
 induction h using Pa.ind with
 |refl=>exact Pa.refl _
 |fwd _ e ih=>exact ih.fwd (hEF _ _ e)
 |bwd _ e ih=>exact ih.bwd (hEF _ _ e)
end Go.Proofs.YtjkalahhpobefaaGreat.Gb
