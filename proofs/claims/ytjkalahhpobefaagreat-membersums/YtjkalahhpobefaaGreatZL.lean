/- Flat vectors by their. -/
import Derived.Test.YtjkalahhpobefaaGreatZH
namespace Go.Proofs.YtjkalahhpobefaaGreat
open Go.Proofs.Tryz
set_option linter.all false
def ao(k:Int):PB->Int
 |[]=>0
 |t::ts=>(if t.k=k then t.c else 0)+ao k ts
theorem iY(k:Int):∀f g:PB,ao k (f++g)=ao k f+ao k g
 |[],g=>by simp[ao]
 |t::f,g=>by simp only[List.cons_append,ao,iY k f g];omega
theorem rO{k:Int}:∀{f:PB},(∀t∈f,t.k≠k)->ao k f=0
 |[],_=>rfl
 |t::f,h=>by simp only[ao,OV (h t (by simp)),rO (f:=f) λu hu=>h u (by simp[hu])];rfl
def Dn(fs:PB):Prop:=fs.Pairwise λa b=>b.k<a.k
variable{ts:PB}{t:Ft}
theorem Dn.tail(h:Dn (t::ts)):Dn ts:=(List.pairwise_cons.1 h).2
theorem Dn.head(h:Dn (t::ts)):∀u∈ts,u.k<t.k:=(List.pairwise_cons.1 h).1
theorem Dn.le(h:Dn (t::ts)):∀u∈t::ts,u.k<=t.k:=λu hu=>by
 rcases OY.1 hu with rfl|hu
 .omega
 .have:=h.head u hu;omega
theorem mP(P:PB->PB->Prop)(hl:∀g,P [] g)(hr:∀f,P f [])(h1:∀t u f g,u.k<t.k->P f (u::g)->P (t::f) (u::g))(h2:∀t u f g,t.k<u.k->P (t::f) g->P (t::f) (u::g))(h3:∀t u f g,t.k=u.k->P f g->P (t::f) (u::g)):∀f g,P f g
 |[],g=>hl g
 |t::f,[]=>hr _
 |t::f,u::g=>by
  by_cases ha:u.k<t.k
  .exact h1 t u f g ha (mP P hl hr h1 h2 h3 f (u::g))
  .by_cases hb:t.k<u.k
   .exact h2 t u f g hb (mP P hl hr h1 h2 h3 (t::f) g)
   .exact h3 t u f g (by omega) (mP P hl hr h1 h2 h3 f g)
theorem N1(p k:Int):∀f g:PB,p∣ao k (cT p f g)-(ao k f+ao k g):=by
 refine mP _ (λg=>?_) (λf=>?_) (λt u f g h ih=>?_) (λt u f g h ih=>?_) (λt u f g h ih=>?_)
 .rw[qi];exact⟨0,by simp[ao]⟩
 .rw[qj];exact⟨0,by simp[ao]⟩
 .rw[qn h];simp only[ao] at ih⊢;obtain⟨q,hq⟩:=ih;exact⟨q,by omega⟩
 .rw[qo h];simp only[ao] at ih⊢;obtain⟨q,hq⟩:=ih;exact⟨q,by omega⟩
 .obtain⟨q,hq⟩:=ih;by_cases hc:(t.c+u.c)%p=0
  .rw[qq h hc];obtain⟨m,hm⟩:=Int.dvd_of_emod_eq_zero hc;simp only[ao,h];by_cases hk:u.k=k
   .rw[OW hk,OW hk];exact⟨q-m,by rw[Int.mul_sub];omega⟩
   .rw[OV hk,OV hk];exact⟨q,by omega⟩
  .rw[qp h hc];obtain⟨m,hm⟩:=jU p (t.c+u.c);simp only[ao,h];by_cases hk:u.k=k
   .rw[OW hk,OW hk,OW hk];exact⟨q+m,by rw[Int.mul_add];omega⟩
   .rw[OV hk,OV hk,OV hk];exact⟨q,by omega⟩
def eC(x t:Ft):Prop:=x.k=t.k/\x.a=t.a/\x.b=t.b/\x.d=t.d/\x.z=t.z/\x.pl=t.pl
theorem N2(p:Int)(hp:2<=p):∀f g:PB,(∀t∈f,0<t.c/\t.c<p)->(∀t∈g,0<t.c/\t.c<p)->∀x∈cT p f g,(∃t,(t∈f\/t∈g)/\eC x t)/\0<x.c/\x.c<p:=by
 refine mP _ (λg=>?_) (λf=>?_) (λt u f g h ih=>?_) (λt u f g h ih=>?_) (λt u f g h ih=>?_)
 .rw[qi];exact λ_ hg x hx=>⟨⟨x,Pg hx,rfl,rfl,rfl,rfl,rfl,rfl⟩,hg x hx⟩
 .rw[qj];exact λhf _ x hx=>⟨⟨x,Pf hx,rfl,rfl,rfl,rfl,rfl,rfl⟩,hf x hx⟩
 .intro hf hg x hx;rw[qn h] at hx;rcases OY.1 hx with rfl|hx
  .exact⟨⟨x,by simp,rfl,rfl,rfl,rfl,rfl,rfl⟩,hf x (by simp)⟩
  .obtain⟨⟨y,hy,ha⟩,hc⟩:=ih (λy hy=>hf y (by simp[hy])) hg x hx;exact⟨⟨y,by rcases hy with hy|hy<;>simp[hy],ha⟩,hc⟩
 .intro hf hg x hx;rw[qo h] at hx;rcases OY.1 hx with rfl|hx
  .exact⟨⟨x,by simp,rfl,rfl,rfl,rfl,rfl,rfl⟩,hg x (by simp)⟩
  .obtain⟨⟨y,hy,ha⟩,hc⟩:=ih hf (λy hy=>hg y (by simp[hy])) x hx;exact⟨⟨y,by rcases hy with hy|hy<;>simp[hy],ha⟩,hc⟩
 .intro hf hg x hx;have ih':=ih (λy hy=>hf y (by simp[hy])) (λy hy=>hg y (by simp[hy]));by_cases hc:(t.c+u.c)%p=0
  .rw[qq h hc] at hx;obtain⟨⟨y,hy,ha⟩,hc⟩:=ih' x hx;exact⟨⟨y,by rcases hy with hy|hy<;>simp[hy],ha⟩,hc⟩
  .rw[qp h hc] at hx;rcases OY.1 hx with rfl|hx
   .have h1:=Int.emod_nonneg (t.c+u.c) (show p≠0 by omega);have h2:=Int.emod_lt_of_pos (t.c+u.c) (show 0<p by omega);exact⟨⟨t,by simp,rfl,rfl,rfl,rfl,rfl,rfl⟩,by simp only;omega,by simp only;omega⟩
   .obtain⟨⟨y,hy,ha⟩,hc⟩:=ih' x hx;exact⟨⟨y,by rcases hy with hy|hy<;>simp[hy],ha⟩,hc⟩
theorem xK(p:Int):∀(f g:PB),∀x∈cT p f g,∃t,(t∈f\/t∈g)/\x.k=t.k:=by
 refine mP _ (λg=>?_) (λf=>?_) (λt u f g h ih=>?_) (λt u f g h ih=>?_) (λt u f g h ih=>?_)
 .rw[qi];exact λx hx=>⟨x,Pg hx,rfl⟩
 .rw[qj];exact λx hx=>⟨x,Pf hx,rfl⟩
 .intro x hx;rw[qn h] at hx;rcases OY.1 hx with rfl|hx
  .exact⟨x,by simp,rfl⟩
  .obtain⟨y,hy,ha⟩:=ih x hx;exact⟨y,by rcases hy with hy|hy<;>simp[hy],ha⟩
 .intro x hx;rw[qo h] at hx;rcases OY.1 hx with rfl|hx
  .exact⟨x,by simp,rfl⟩
  .obtain⟨y,hy,ha⟩:=ih x hx;exact⟨y,by rcases hy with hy|hy<;>simp[hy],ha⟩
 .intro x hx;by_cases hc:(t.c+u.c)%p=0
  .rw[qq h hc] at hx;obtain⟨y,hy,ha⟩:=ih x hx;exact⟨y,by rcases hy with hy|hy<;>simp[hy],ha⟩
  .rw[qp h hc] at hx;rcases OY.1 hx with rfl|hx
   .exact⟨t,by simp,rfl⟩
   .obtain⟨y,hy,ha⟩:=ih x hx;exact⟨y,by rcases hy with hy|hy<;>simp[hy],ha⟩
theorem N3(p:Int):∀f g:PB,Dn f->Dn g->Dn (cT p f g):=by
 refine mP _ (λg=>?_) (λf=>?_) (λt u f g h ih=>?_) (λt u f g h ih=>?_) (λt u f g h ih=>?_)
 .rw[qi];exact λ_ hg=>hg
 .rw[qj];exact λhf _=>hf
 .intro hf hg;rw[qn h];refine List.pairwise_cons.2 ⟨λx hx=>?_,ih hf.tail hg⟩;obtain⟨y,hy,e⟩:=xK p _ _ x hx;rcases hy with hy|hy
  .have:=hf.head y hy;omega
  .have:=hg.le y hy;omega
 .intro hf hg;rw[qo h];refine List.pairwise_cons.2 ⟨λx hx=>?_,ih hf hg.tail⟩;obtain⟨y,hy,e⟩:=xK p _ _ x hx;rcases hy with hy|hy
  .have:=hf.le y hy;omega
  .have:=hg.head y hy;omega
 .intro hf hg;by_cases hc:(t.c+u.c)%p=0
  .rw[qq h hc];exact ih hf.tail hg.tail
  .rw[qp h hc];refine List.pairwise_cons.2 ⟨λx hx=>?_,ih hf.tail hg.tail⟩;obtain⟨y,hy,e⟩:=xK p _ _ x hx;simp only;rcases hy with hy|hy
   .have:=hf.head y hy;omega
   .have:=hg.head y hy;omega
theorem N4{g:Option Ft}{row:PB}(hd:Dn row):(∀u,g=some u->∃t,gZ g row=some t/\u.k<=t.k)/\(∀u∈row,∃t,gZ g row=some t/\u.k<=t.k)/\(∀t,gZ g row=some t->g=some t\/∃ts,row=t::ts):=by
 cases row with
 |nil=>exact⟨λu h=>⟨u,h,Int.le_refl _⟩,λu h=>by simp at h,λt h=>Pf h⟩
 |cons t ts=>
  cases g with
  |none=>exact⟨λu h=>by simp at h,λu h=>⟨t,rfl,hd.le u h⟩,λx h=>by simp only[gZ,OP] at h;exact Pg ⟨ts,by rw[h]⟩⟩
  |some g=>
   simp only[gZ];split
   .exact⟨λu h=>⟨t,rfl,by simp at h;subst h;omega⟩,λu h=>⟨t,rfl,hd.le u h⟩,λx h=>by simp only[OP] at h;exact Pg ⟨ts,by rw[h]⟩⟩
   .exact⟨λu h=>⟨g,rfl,by simp at h;subst h;omega⟩,λu h=>⟨g,rfl,by have:=hd.le u h;omega⟩,λx h=>Pf h⟩
theorem xL:∀(rows:PC) (g:Option Ft),(∀r∈rows,Dn r)->(∀u,g=some u->∃t,rows.foldl gZ g=some t/\u.k<=t.k)/\(∀r∈rows,∀u∈r,∃t,rows.foldl gZ g=some t/\u.k<=t.k)/\(∀t,rows.foldl gZ g=some t->g=some t\/∃ts,(t::ts)∈rows)
 |[],g,_=>⟨λu h=>⟨u,h,Int.le_refl _⟩,λr h=>by simp at h,λt h=>Pf h⟩
 |r::rows,g,hd=>by
  obtain⟨a1,a2,a3⟩:=N4 (g:=g) (hd r (by simp));obtain⟨b1,b2,b3⟩:=xL rows (gZ g r) λr hr=>hd r (by simp[hr]);refine⟨λu h=>?_,λr' hr' u hu=>?_,λt h=>?_⟩
  .obtain⟨t,ht,hk⟩:=a1 u h;obtain⟨t2,ht2,hk2⟩:=b1 t ht;exact⟨t2,ht2,by omega⟩
  .rcases OY.1 hr' with rfl|hr'
   .obtain⟨t,ht,hk⟩:=a2 u hu;obtain⟨t2,ht2,hk2⟩:=b1 t ht;exact⟨t2,ht2,by omega⟩
   .exact b2 r' hr' u hu
  .rcases b3 t h with h|⟨ts,h⟩
   .rcases a3 t h with h|⟨ts,rfl⟩
    .exact Pf h
    .exact Pg ⟨ts,by simp⟩
   .exact Pg ⟨ts,by simp[h]⟩
variable{rows:PC}
theorem BV(hd:∀r∈rows,Dn r)(h:eL rows=none):∀r∈rows,r=[]:=by
 intro r hr;cases r with
 |nil=>rfl
 |cons t ts=>obtain⟨x,hx,_⟩:=(xL rows none hd).2.1 _ hr t (by simp);rw[eL] at h;rw[h] at hx;simp at hx
theorem D9(hd:∀r∈rows,Dn r)(h:eL rows=some t):(∃ts,(t::ts)∈rows)/\∀r∈rows,∀u∈r,u.k<=t.k:=by
 obtain⟨_,b2,b3⟩:=xL rows none hd;refine⟨?_,λr hr u hu=>?_⟩
 .rcases b3 t h with h|h
  .simp at h
  .exact h
 .obtain⟨x,hx,hk⟩:=b2 r hr u hu;rw[eL] at h;rw[h] at hx;simp at hx;subst hx;exact hk
def eM(key:Int):PB->PB
 |[]=>[]
 |t::ts=>if t.k=key then ts else t::ts
def ji(key:Int):PB->Int
 |[]=>0
 |t::_=>if t.k=key then t.c else 0
def tk(key:Int)(rows:PC):PC:=rows.map (eM key)
def dA(key:Int)(rows:PC):Int:=(rows.map (ji key)).sum
theorem xM(key:Int)(r:PB):∀u∈eM key r,u∈r:=by
 cases r with
 |nil=>exact λu h=>h
 |cons t ts=>
  simp only[eM];split
  .exact λu h=>by simp[h]
  .exact λu h=>h
variable{r:PB}{key:Int}
theorem wy(h:Dn r):Dn (eM key r):=by
 cases r with
 |nil=>exact h
 |cons t ts=>
  simp only[eM];split
  .exact h.tail
  .exact h
theorem N5(h:Dn r)(hk:∀u∈r,u.k<=key):∀u∈eM key r,u.k<key:=by
 cases r with
 |nil=>exact λu h=>by simp[eM] at h
 |cons t ts=>
  simp only[eM];split
  .rename_i e;exact λu hu=>by have:=h.head u hu;omega
  .rename_i e;intro u hu;have h1:=hk t (by simp);have h2:=h.le u hu;omega
theorem N7(key k:Int):ao k r=ao k (eM key r)+if k=key then ji key r else 0:=by
 cases r with
 |nil=>simp[eM,ji,ao]
 |cons t ts=>
  simp only[eM,ji];by_cases h:t.k=key
  .rw[OW h,OW h];simp only[ao];by_cases hk:k=key
   .rw[OW (by omega),OW hk];omega
   .rw[OV (by omega),OV hk];omega
  .rw[OV h,OV h];simp
theorem xN(key k:Int):∀rows:PC,ao k rows.flatten=ao k (tk key rows).flatten+if k=key then dA key rows else 0
 |[]=>by simp[tk,dA,ao]
 |r::rows=>by
  have h1:=N7 key k (r:=r);have h2:=xN key k rows;simp only[tk,dA,List.map_cons,List.flatten_cons,List.sum_cons,iY] at h2⊢;split at h1
  .rename_i e;simp only[OW e] at h2⊢;omega
  .rename_i e;simp only[OV e] at h2⊢;omega
def gh(rows:PC):Nat:=(rows.map List.length).sum
theorem Ea(key:Int):∀rows:PC,gh (tk key rows)<=gh rows
 |[]=>by simp[tk,gh]
 |r::rows=>by
  have h:=Ea key rows;have h1:(eM key r).length<=r.length:=by
   cases r with
   |nil=>simp[eM]
   |cons t ts=>simp only[eM];split<;>simp
  simp only[tk,gh,List.map_cons,List.sum_cons] at h⊢;omega
theorem Eb{t:Ft}{ts:PB}:∀{rows:PC},(t::ts)∈rows->gh (tk t.k rows)<gh rows
 |[],h=>by simp at h
 |r::rows,h=>by
  have h0:=Ea t.k rows;have h1:(eM t.k r).length<=r.length:=by
   cases r with
   |nil=>simp[eM]
   |cons t ts=>simp only[eM];split<;>simp
  rcases OY.1 h with rfl|h
  .simp only[tk,gh,List.map_cons,List.sum_cons,eM,OW] at h0⊢;simp only[OZ];omega
  .have h2:=Eb h;simp only[tk,gh,List.map_cons,List.sum_cons] at h2⊢;omega
def Nx(p:Int)(rows:PC)(r:Option Ft)(rows2:PC):Prop:=
 ∀P:PC->Option Ft->PC->Prop,(∀rows,eL rows=none->P rows none rows)->(∀rows (t:Ft),eL rows=some t->dA t.k rows%p≠0->P rows (some {t with c:=dA t.k rows%p}) (tk t.k rows))->
  (∀rows rows2 (t:Ft) r,eL rows=some t->dA t.k rows%p=0->P (tk t.k rows) r rows2->P rows r rows2)->P rows r rows2
variable{p:Int}
theorem Nx.stop(rows:PC)(h:eL rows=none):Nx p rows none rows:=λ_ h1 _ _=>h1 rows h
theorem Nx.hit(rows:PC)(t:Ft)(h:eL rows=some t)(hz:dA t.k rows%p≠0):Nx p rows (some {t with c:=dA t.k rows%p}) (tk t.k rows):=λ_ _ h2 _=>h2 rows t h hz
theorem Nx.go(rows rows2:PC)(t:Ft)(r:Option Ft)(h:eL rows=some t)(hz:dA t.k rows%p=0)(hn:Nx p (tk t.k rows) r rows2):Nx p rows r rows2:=λP h1 h2 h3=>h3 rows rows2 t r h hz (hn P h1 h2 h3)
theorem Nx.ind{p:Int}{motive:∀rows r rows2,Nx p rows r rows2->Prop}(stop:∀rows h,motive rows none rows (Nx.stop rows h))(hit:∀rows t h hz,motive _ _ _ (Nx.hit rows t h hz))(go:∀rows rows2 t r h hz hn,motive _ _ _ hn->motive _ _ _ (Nx.go rows rows2 t r h hz hn)){rows:PC}{r:Option Ft}{rows2:PC}(h:Nx p rows r rows2):motive rows r rows2 h:=by have:=h (λa b c=>∃h,motive a b c h) (λa h1=>⟨_,stop a h1⟩) (λa t h1 h2=>⟨_,hit a t h1 h2⟩) (λa b t r h1 h2 ⟨h3,h4⟩=>⟨_,go a b t r h1 h2 h3 h4⟩);exact this.2
structure aG(p:Int)(G:Ft->Prop)(rows:PC):Prop where
 dn:∀r∈rows,Dn r
 co:∀r∈rows,∀t∈r,0<t.c/\t.c<p
 gd:∀r∈rows,∀t∈r,G t
variable{G:Ft->Prop}
theorem aG.tk(h:aG p G rows)(key:Int):aG p G (tk key rows):=by
 refine⟨λr hr=>?_,λr hr t ht=>?_,λr hr t ht=>?_⟩<;>(obtain⟨r0,h0,rfl⟩:=OR.1 hr)
 .exact wy (h.dn r0 h0)
 .exact h.co r0 h0 t (xM key r0 t ht)
 .exact h.gd r0 h0 t (xM key r0 t ht)
theorem Nx.spec(hp:2<=p)(hG:∀x t,eC x t->G t->G x){rows2:PC}{r:Option Ft}(h:Nx p rows r rows2):aG p G rows->aG p G rows2/\rows2.length=rows.length/\match r with
   |none=>∀k,p∣ao k rows.flatten
   |some t=>G t/\0<t.c/\t.c<p/\(∀r∈rows2,∀u∈r,u.k<t.k)/\∀k,p∣ao k rows.flatten-(ao k rows2.flatten+if k=t.k then t.c else 0):=by
 induction h using Nx.ind with
 |stop rows hg=>
  intro hr;refine⟨hr,rfl,λk=>?_⟩;have he:=BV hr.dn hg;rw[rO (λt ht=>by
   obtain⟨r,h1,h2⟩:=List.mem_flatten.1 ht;rw[he r h1] at h2;simp at h2)]
  exact⟨0,by omega⟩
 |hit rows t hg hne=>
  intro hr;obtain⟨⟨ts,hm⟩,hle⟩:=D9 hr.dn hg;have h1:=Int.emod_nonneg (dA t.k rows) (show p≠0 by omega);have h2:=Int.emod_lt_of_pos (dA t.k rows) (show 0<p by omega);refine⟨hr.tk _,by simp[tk],hG _ t ⟨rfl,rfl,rfl,rfl,rfl,rfl⟩ (hr.gd _ hm t (by simp)),by simp only;omega,h2,λr hr2 u hu=>?_,λk=>?_⟩
  .obtain⟨r0,h0,rfl⟩:=OR.1 hr2;exact N5 (hr.dn r0 h0) (hle r0 h0) u hu
  .rw[xN t.k k rows];by_cases hk:k=t.k
   .simp only[OW hk];obtain⟨m,hm⟩:=jU p (dA t.k rows);exact⟨-m,by rw[Int.mul_neg];omega⟩
   .simp only[OV hk];exact⟨0,by omega⟩
 |go rows rows2 t r hg hz hn ih=>
  intro hr;obtain⟨i1,i2,i3⟩:=ih (hr.tk _);refine⟨i1,by rw[i2];simp[tk],?_⟩;have hc:∀k,p∣ao k rows.flatten-ao k (tk t.k rows).flatten:=λk=>by
   rw[xN t.k k rows];obtain⟨m,hm⟩:=Int.dvd_of_emod_eq_zero hz;by_cases hk:k=t.k
   .rw[OW hk];exact⟨m,by omega⟩
   .rw[OV hk];exact⟨0,by omega⟩
  cases r with
  |none=>intro k;obtain⟨a,ha⟩:=hc k;obtain⟨b,hb⟩:=i3 k;exact⟨a+b,by rw[Int.mul_add];omega⟩
  |some x=>obtain⟨j1,j2,j3,j4,j5⟩:=i3;refine⟨j1,j2,j3,j4,λk=>?_⟩;obtain⟨a,ha⟩:=hc k;obtain⟨b,hb⟩:=j5 k;exact⟨a+b,by rw[Int.mul_add];omega⟩
end Go.Proofs.YtjkalahhpobefaaGreat
namespace Go.Proofs.YtjkalahhpobefaaGreat
set_option linter.all false
open Go.Proofs.Tryz Go.RowKit
def bU(Φ:PK->Prop)(w:PJ)(g:Nat):Prop:=∀j u,w.cell? (PN g j)=some u->Φ u
variable{g:Nat}{w w':PJ}{Φ:PK->Prop}
theorem bU.below(h:bU Φ w g)(hb:w'.heap[g]?=w.heap[g]?):bU Φ w' g:=by intro j u hu;rw[World.cell?_of_block (a:=(PN g j)) hb] at hu;exact h j u hu
variable{C:Array PK}
theorem r7{T:TypeId}(h:∀u∈C.toList,Φ u):bU Φ (w.alloc (.cells C T)) w.heap.size:=by
 intro j u hu;have e:(w.alloc (.cells C T)).cell? (PN w.heap.size j)=C[j]?:=by unfold World.cell?;rw[show (w.alloc (.cells C T)).heap[w.heap.size]?=some (.cells C T (0,0)) from heap_alloc_new w _];simp
 rw[e] at hu;exact h u (by rw[Array.mem_toList_iff];exact Array.mem_of_getElem? hu)
theorem kZ{T:TypeId}(hg:w.heap[g]?=some (.cells C T (0,0)))(h:∀u∈C.toList,Φ u):bU Φ w g:=by
 intro j u hu;have e:w.cell? (PN g j)=C[j]?:=by unfold World.cell?;rw[hg];simp
 rw[e] at hu;exact h u (by rw[Array.mem_toList_iff];exact Array.mem_of_getElem? hu)
theorem uL{T:TypeId}(hg:w.heap[g]?=some (.cells C T (0,0)))(h:bU Φ w g):∀u∈C.toList,Φ u:=by intro u hu;obtain⟨j,hj,rfl⟩:=List.getElem_of_mem hu;refine h j _ ?_;unfold World.cell?;rw[hg];simp at hj⊢
variable{u:PK}
theorem Ec{j:Nat}{y:PK}(h:bU Φ w g)(hu:Φ u)(hy:w.cell? (PN g j)=some y):bU Φ (w.setCell (PN g j) u) g:=by
 intro i x hx;by_cases e:i=j
 .subst e;rw[World.cell?_setCell_same _ _ _ hy] at hx;simp only[OP] at hx;rw[<-hx];exact hu
 .rw[World.cell?_setCell_other] at hx
  .exact h i x hx
  .intro h2;apply e;simpa using h2.symm
theorem vL{P:Program}(w:PJ)(Φ:PK->Prop)(base:Nat)(t ty e:TypeId)(i:TypeInfo)(z:PK)(size bytes:Nat)(ht:P.underlying t=some (.slice e))(hi:P.info? e=some i)(hz:i.zero=some z)(hsize:i.size=size)(hby:i.bytes=bytes)(hzs:z.cells.size=size)(hsz:0<size)(hΦz:∀u∈z.cells.toList,Φ u)(v:PK)(n:Nat)(xs:PH)(hown:w.ownsRow base e size v n xs)(hk:∀g,v.ownBlock=some g->bU Φ w g)(a:Addr)(m c:Nat)(news:PH)(hm:0<m)(hl:news.length=m*size)(hnews:∀j u,news[j]?=some u->w.cell? (a.add j)=some u)(h1:∀u∈news,u.oneCell'=true)(hΦn:∀u∈news,Φ u)(h63:n+m<=maxLen)(hbytes:(n+m)*bytes<=140737488355328)(hbase:base<=w.heap.size):∃v' w',(Builtin.append_ #[t,t] ty #[v,.slice (some a) m c]).run P w=.ok v' w'/\w'.ownsRow base e size v' (n+m) (xs++news)/\w.grownBy w' v.ownBlock/\(∀g,v'.ownBlock=some g->bU Φ w' g)/\(v'.ownBlock=v.ownBlock\/v'.ownBlock=some w.heap.size):=by
 obtain⟨v',w',hr,h2,h3,_⟩:=run_append_own (P:=P) w base t ty e i z size bytes ht hi hz hsize hby hzs hsz v n xs hown a m c news hl hnews h1 h63 hbytes hbase;refine⟨v',w',hr,h2,h3,?_⟩;have hsmall:n+m<=9223372036854775807:=by simp only[maxLen] at h63;omega
 have hzero:∀(q:Nat),∀x∈(Builtin.zeroCells z.cells q).toList,Φ x:=by intro q x hx;simp[Builtin.zeroCells] at hx;obtain⟨l,hl,hx⟩:=hx;have hlt:l%z.cells.size<z.cells.size:=Nat.mod_lt _ (by omega);rw[getElem!_pos z.cells _ hlt] at hx;rw[<-hx];exact hΦz _ (by simp)
 subst hsize;subst hby;rcases hown.2 with ⟨rfl,rfl⟩|⟨g,cap,ag,rfl,hbg,hg,hnc,hcm,hcs,htake⟩
 .have hr2:=run_append_nil (P:=P) w t ty e i z ht hi hz a m c news hl hnews (by omega) (by omega) (by have hb:=hbytes;simp only[ON] at hb;omega);rw[hr] at hr2;simp only[Result.ok.injEq] at hr2;obtain⟨rfl,rfl⟩:=hr2;refine⟨λg hg=>?_,Pg rfl⟩;simp only[Value.ownBlock,OP] at hg;subst hg;refine r7 (w:=w.drew) (λx hx=>?_);rw[Array.toList_append,OK] at hx;rcases hx with hx|hx
  .exact hΦn x (by simpa using hx)
  .exact hzero _ x hx
 .have hcur:=uL hg (hk g rfl);by_cases hroom:n+m<=cap
  .have hfit:n*i.size+news.length<=ag.size:=by rw[hl,hcs,<-Nat.add_mul];exact Ph _ hroom
   have hr2:=run_append_room (P:=P) w t ty e i ht hi g n cap ag hg a m c news hl hnews h1 hroom hfit;rw[hr] at hr2;simp only[Result.ok.injEq] at hr2;obtain⟨rfl,rfl⟩:=hr2;refine⟨λg2 hg2=>?_,Pf rfl⟩;simp only[Value.ownBlock,OP] at hg2;subst hg2;refine kZ (setRow_heap w g ag _ e _ hg) (λx hx=>?_);rw[List.toList_toArray,OK,OK] at hx;rcases hx with (hx|hx)|hx
   .exact hcur x (Pj hx)
   .exact hΦn x hx
   .exact hcur x (List.mem_of_mem_drop hx)
  .have holds:∀j x,xs[j]?=some x->w.cell? (((PN g 0):Addr).add j)=some x:=hown.cells (g:=g) rfl;have hr2:=run_append_grow (P:=P) w t ty e i z ht hi hz (PN g 0) n cap xs hown.1 holds a m c news hl hnews (by omega) (by omega) (growslice_fits (by omega) hbytes);rw[hr] at hr2;simp only[Result.ok.injEq] at hr2;obtain⟨rfl,rfl⟩:=hr2;refine⟨λg2 hg2=>?_,Pg rfl⟩;simp only[Value.ownBlock,OP] at hg2;subst hg2;refine r7 (w:=w.drew) (λx hx=>?_);rw[Array.toList_append,Array.toList_append,OK,OK] at hx;rcases hx with (hx|hx)|hx
   .rw[List.toList_toArray,<-htake] at hx;exact hcur x (Pj hx)
   .exact hΦn x (by simpa using hx)
   .exact hzero _ x hx
structure aj(S:Nat->Prop)(w w':PJ):Prop where
 os:w'.os=w.os
 tape:w'.tape=w.tape
 output:w'.output=w.output
 size:w.heap.size<=w'.heap.size
 block:∀k,k<w.heap.size->¬S k->w'.heap[k]?=w.heap[k]?
theorem aj.refl(S:Nat->Prop)(w:PJ):aj S w w:=⟨rfl,rfl,rfl,Ou _,λ_ _ _=>rfl⟩
variable{a b:PJ}{S T:Nat->Prop}
theorem aj.trans{c:PJ}(h:aj S a b)(k:aj T b c)(ht:∀x,x<a.heap.size->T x->S x):aj S a c:=
 ⟨k.os.trans h.os,k.tape.trans h.tape,k.output.trans h.output,OA h.size k.size,λi hi hs=>(k.block i (Oz hi h.size) (λx=>hs (ht i hi x))).trans (h.block i hi hs)⟩
theorem aj.wide(h:aj S a b)(hs:∀x,x<a.heap.size->S x->T x):aj T a b:=⟨h.os,h.tape,h.output,h.size,λk hk hT=>h.block k hk λx=>hT (hs k hk x)⟩
theorem aj.of_below(h:Io a b):aj S a b:=⟨h.os,h.tape,h.output,h.size,λk hk _=>h.block k hk⟩
theorem aj.of_grown{r:Option Nat}(h:a.grownBy b r)(hs:∀g,r=some g->S g):aj S a b:=⟨h.os,h.tape,h.output,h.size,λk hk hS=>h.block k hk λe=>hS (hs k e.symm)⟩
variable{B:Nat}
theorem aj.to_below(h:aj S a b)(hB:B<=a.heap.size)(hs:∀x,S x->B<=x):Below B a b:=⟨h.os,h.tape,h.output,h.size,λk hk=>h.block k (by omega) λx=>by have:=hs k x;omega⟩
theorem aj.cell(h:aj S a b){p:Addr}(hc:a.cell? p=some u)(hs:¬S p.block):b.cell? p=some u:=
 (World.cell?_of_block (h.block p.block (OG a p hc) hs)).trans hc
variable{n:Nat}{v:PK}
theorem aj.own(h:aj S a b){T:TypeId}{s:Nat}{xs:PH}(ho:a.ownsRow B T s v n xs)(hs:∀g,v.ownBlock=some g->¬S g):b.ownsRow B T s v n xs:=by
 refine⟨ho.1,?_⟩;rcases ho.2 with hn|⟨g,cap,ag,rfl,hb,hgg,rest⟩
 .exact .inl hn
 .refine .inr ⟨g,cap,ag,rfl,hb,?_,rest⟩;rw[h.block g (O6.1 hgg).1 (hs g rfl)];exact hgg
theorem aj.kdb(h:aj S a b)(hk:bU Φ a g)(hlt:g<a.heap.size)(hs:¬S g):bU Φ b g:=hk.below (h.block g hlt hs)
def io(u:PK):Prop:=∀x,u≠PP x
theorem kJ(h:cG w g):bU io w g:=λj u hu x e=>by obtain⟨_,_,_,h2⟩:=h j u hu;rw[h2] at e;cases e
theorem fN(h:aj S a b)(hn:∀g,S g->bU io a g){fs:PB}(hf:Fv a v fs):Fv b v fs:=by
 obtain⟨ad,cap,rfl,hc,h1⟩:=hf;refine⟨ad,cap,rfl,hc,λhp=>?_⟩;obtain⟨bl,off,rfl,hlt,hcs⟩:=h1 hp;have hne:¬S bl:=by
  intro hs;cases fs with
  |nil=>simp at hp
  |cons t ts=>exact hn bl hs _ _ (hcs 1 (PP t.a) rfl) t.a rfl
 exact⟨bl,off,rfl,Oz hlt h.size,λj u hj=>h.cell (hcs j u hj) hne⟩
structure aM(B:Nat)(w:PJ)(v:PK)(us:PH)(rows:PC):Prop where
 len:us.length=rows.length
 own:w.ownsRow B 79 1 v rows.length us
 kind:∀g,v.ownBlock=some g->cG w g
 fvs:∀i,i<rows.length->Fv w (us.getD i aL) (rows.getD i [])
variable{rows:PC}{us:PH}
theorem aM.frm(h:aM B w v us rows)(hf:aj S w w')(hn:∀g,S g->bU io w g)(hs:∀g,v.ownBlock=some g->¬S g):aM B w' v us rows:=
 ⟨h.len,hf.own h.own hs,λg hg=>hf.kdb (h.kind g hg) (Ot h.own g hg).2 (hs g hg),λi hi=>fN hf hn (h.fvs i hi)⟩
theorem aM.next(h:aM B w v us rows)(hb:Io w w'):aM B w' v us rows:=
 h.frm (S:=λ_=>False) (aj.of_below hb) (λg hg=>hg.elim) (λg _ hg=>hg)
theorem aM.nil(B:Nat)(w:PJ):aM B w (.slice none 0 0) [] []:=
 ⟨rfl,World.ownsRow_nil _ _ _ _,λg hg=>by simp[Value.ownBlock] at hg,λi hi=>by simp at hi⟩
theorem aM.at(h:aM B w v us rows)(i:Nat)(hi:i<rows.length):∃g c,v=PM g rows.length c/\B<=g/\g<w.heap.size/\w.cell? (PN g i)=some (us.getD i aL)/\w.frozen? (PN g i)=false:=by
 obtain⟨a,c,rfl⟩:=cl h.own;obtain⟨g,rfl,_,hlt,hc⟩:=rd h.own i hi;have hl:=Ot h.own g rfl;have:i<us.length:=by rw[h.len];exact hi
 exact⟨g,c,rfl,hl.1,hl.2,by rw[hc];simp[OH,this],Oo h.own i⟩
theorem aM.rws(h:aM B w v us rows):nR w v rows:=by obtain⟨a,c,rfl⟩:=cl h.own;refine⟨a,c,rfl,λi hi=>?_⟩;obtain⟨g,c2,e,_,hlt,hc,_⟩:=h.at i hi;simp only[OQ] at e;exact⟨g,0,us.getD i aL,e.1,hlt,by rw[ON];exact hc,h.fvs i hi⟩
theorem oc{α:Type}(l:List α)(i j:Nat)(x d:α):(l.set i x).getD j d=if i=j/\j<l.length then x else l.getD j d:=by
 by_cases h:i=j
 .subst h;by_cases h2:i<l.length
  .simp[OH,h2]
  .simp[OH,h2]
 .simp[OH,List.getElem?_set_ne h,h]
variable{c:Nat}
theorem aM.put(h:aM B w (PM g n c) us rows)(i:Nat)(hi:i<rows.length)(u:PK)(f:PB)(hu:Fv w u f):aM B (w.setCell (PN g i) u) (PM g n c) (us.set i u) (rows.set i f)/\w.grownBy (w.setCell (PN g i) u) (some g):=by
 have hn:n=rows.length:=by obtain⟨a,c2,e⟩:=cl h.own;simp only[OQ] at e;exact e.2.1
 subst hn;have s:=OF h.own i u;have hk:=kJ (h.kind g rfl);have hf:aj (λk=>k=g) w (w.setCell (PN g i) u):=aj.of_grown s.2 (λx e=>by simpa using e.symm);have hus:∃a n c,u=.slice a n c:=by obtain⟨a,c,e,_⟩:=hu;exact⟨a,_,c,e⟩
 obtain⟨g2,c2,e2,_,_,hc,_⟩:=h.at i hi;simp only[OQ,OP,Addr.mk.injEq,true_and,and_true] at e2;obtain⟨rfl,_⟩:=e2;refine⟨⟨by simp[h.len],by rw[List.length_set];exact s.1,λg2 hg2=>?_,λj hj=>?_⟩,s.2⟩
 .simp only[Value.ownBlock,OP] at hg2;subst hg2;exact Ec (h.kind g rfl) hus hc
 .rw[List.length_set] at hj;rw[oc,oc,h.len];by_cases e:i=j
  .rw[OW ⟨e,hj⟩,OW ⟨e,hj⟩];exact fN hf (λk e=>by subst e;exact hk) hu
  .rw[OV (λh=>e h.1),OV (λh=>e h.1)];exact fN hf (λk e=>by subst e;exact hk) (h.fvs j hj)
variable{v2:PK}{w2:PJ}
theorem aM.snoc(h:aM B w v us rows)(hu:Fv w u [])(h2:w2.ownsRow B 79 1 v2 (rows.length+1) (us++[u]))(g2:w.grownBy w2 v.ownBlock)(k2:∀g,v2.ownBlock=some g->cG w2 g):aM B w2 v2 (us++[u]) (rows++[[]]):=by
 have hf:aj (λk=>v.ownBlock=some k) w w2:=aj.of_grown g2 (λx e=>e);have hn:∀g,v.ownBlock=some g->bU io w g:=λg hg=>kJ (h.kind g hg);refine⟨by simp[h.len],by rw[OM];exact h2,k2,λi hi=>?_⟩;rw[OM] at hi;simp only[OZ,List.length_nil] at hi;rcases Nat.lt_or_ge i rows.length with hl|hl
 .have e1:(us++[u]).getD i aL=us.getD i aL:=by simp[OH,O4 (show i<us.length by rw[h.len];exact hl)]
  have e2:(rows++[[]]).getD i []=rows.getD i []:=by simp[OH,O4 hl]
  rw[e1,e2];exact fN hf hn (h.fvs i hl)
 .have e:i=rows.length:=by omega
  subst e;have e1:(us++[u]).getD rows.length aL=u:=by rw[<-h.len];simp[OH]
  have e2:(rows++[[]]).getD rows.length []=([]:PB):=by simp[OH]
  rw[e1,e2];exact fN hf hn hu
structure aT(B:Nat)(w:PJ)(sb ob:Nat)(rv:PK)(us:PH)(rows:PC):Prop where
 box:w.ownsRow B 176 2 (PM sb 1 1) 1 [PL ob,rv]
 kind:bU io w sb
 rws:aM B w rv us rows
variable{rv:PK}{sb ob:Nat}
theorem aT.next(h:aT B w sb ob rv us rows)(hb:Io w w'):aT B w' sb ob rv us rows:=
 ⟨aF h.box hb,h.kind.below (hb.block sb (Ot h.box sb rfl).2),h.rws.next hb⟩
theorem aT.apart(h:aT B w sb ob rv us rows):rv.ownBlock≠some sb:=by
 intro e;rcases i5 (by decide) h.rws.own h.box with h1|h1
 .rw[h1] at e;cases e
 .exact h1 (by rw[e];rfl)
theorem aT.lt(h:aT B w sb ob rv us rows):B<=sb/\sb<w.heap.size:=Ot h.box sb rfl
theorem aT.cells(h:aT B w sb ob rv us rows):w.cell? (PN sb 0)=some (PL ob)/\w.cell? (PN sb 1)=some rv/\w.frozen? (PN sb 1)=false:=
 ⟨Oq h.box 0 (by omega),Oq h.box 1 (by omega),Oo h.box 1⟩
theorem aT.put(h:aT B w sb ob (PM g n c) us rows)(i:Nat)(hi:i<rows.length)(u:PK)(f:PB)(hu:Fv w u f):aT B (w.setCell (PN g i) u) sb ob (PM g n c) (us.set i u) (rows.set i f)/\w.grownBy (w.setCell (PN g i) u) (some g):=by have s:=h.rws.put i hi u f hu;have hne:sb≠g:=λe=>h.apart (by rw[e];rfl);exact⟨⟨World.ownsRow.kept h.box s.2 (Pg (by simpa [Value.ownBlock] using hne)),h.kind.below (s.2.block sb h.lt.2 (by simpa using hne)),s.1⟩,s.2⟩
theorem aT.grow(h:aT B w sb ob rv us rows)(hu:Fv w u [])(h2:w2.ownsRow B 79 1 v2 (rows.length+1) (us++[u]))(g2:w.grownBy w2 rv.ownBlock)(k2:∀g,v2.ownBlock=some g->cG w2 g):aT B (w2.setCell (PN sb 1) v2) sb ob v2 (us++[u]) (rows++[[]]):=by
 have hr:=h.rws.snoc hu h2 g2 k2;have hb2:=World.ownsRow.kept h.box g2 (Pg (by simpa [Value.ownBlock] using λe=>h.apart e.symm));have hk2:bU io w2 sb:=h.kind.below (g2.block sb h.lt.2 (λe=>h.apart e.symm));have s:=OF hb2 1 v2;have hav:∀x,v2≠PP x:=by obtain⟨a,c,e⟩:=cl hr.own;rw[e];exact λx h=>by cases h
 have hf:aj (λk=>k=sb) w2 (w2.setCell (PN sb 1) v2):=aj.of_grown s.2 (λx e=>by simpa using e.symm);refine⟨s.1,Ec hk2 hav (Oq hb2 1 (by omega)),hr.frm hf (λg e=>by subst e;exact hk2) λg hg e=>?_⟩;subst e;rcases i5 (by decide) hr.own hb2 with h1|h1
 .rw[h1] at hg;cases hg
 .exact h1 (by rw[hg];rfl)
def fM(sb:Nat)(rv:PK)(k:Nat):Prop:=k=sb\/rv.ownBlock=some k
end Go.Proofs.YtjkalahhpobefaaGreat
