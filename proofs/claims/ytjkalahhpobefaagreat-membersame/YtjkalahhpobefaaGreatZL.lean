/- Flat vectors by their keys: plain mathematics of the sum. -/
import Derived.Test.YtjkalahhpobefaaGreatZH
namespace Go.Proofs.YtjkalahhpobefaaGreat
open Go.Proofs.Tryz
set_option linter.all false
def aq(k:Int):OI->Int
 |[]=>0
 |t::ts=>(if t.k=k then t.c else 0)+aq k ts
theorem iX(k:Int):∀f g:OI,aq k (f++g)=aq k f+aq k g
 |[],g=>by simp[aq]
 |t::f,g=>by simp only[List.cons_append,aq,iX k f g];omega
theorem rF{k:Int}:∀{f:OI},(∀t∈f,t.k≠k)->aq k f=0
 |[],_=>rfl
 |t::f,h=>by simp only[aq,Oc (h t (by simp)),rF (f:=f) λu hu=>h u (by simp[hu])];rfl
def Dn(fs:OI):Prop:=fs.Pairwise λa b=>b.k<a.k
variable{ts:OI}{t:Ft}
theorem Dn.tail(h:Dn (t::ts)):Dn ts:=(List.pairwise_cons.1 h).2
theorem Dn.head(h:Dn (t::ts)):∀u∈ts,u.k<t.k:=(List.pairwise_cons.1 h).1
theorem Dn.le(h:Dn (t::ts)):∀u∈t::ts,u.k<=t.k:=λu hu=>by
 rcases Og.1 hu with rfl|hu
 .omega
 .have:=h.head u hu;omega
theorem mJ(P:OI->OI->Prop)(hl:∀g,P [] g)(hr:∀f,P f [])(h1:∀t u f g,u.k<t.k->P f (u::g)->P (t::f) (u::g))(h2:∀t u f g,t.k<u.k->P (t::f) g->P (t::f) (u::g))(h3:∀t u f g,t.k=u.k->P f g->P (t::f) (u::g)):∀f g,P f g
 |[],g=>hl g
 |t::f,[]=>hr _
 |t::f,u::g=>by
  by_cases ha:u.k<t.k
  .exact h1 t u f g ha (mJ P hl hr h1 h2 h3 f (u::g))
  .by_cases hb:t.k<u.k
   .exact h2 t u f g hb (mJ P hl hr h1 h2 h3 (t::f) g)
   .exact h3 t u f g (by omega) (mJ P hl hr h1 h2 h3 f g)
theorem Ng(p k:Int):∀f g:OI,p∣aq k (cX p f g)-(aq k f+aq k g):=by
 refine mJ _ (λg=>?_) (λf=>?_) (λt u f g h ih=>?_) (λt u f g h ih=>?_) (λt u f g h ih=>?_)
 .rw[p6];exact⟨0,by simp[aq]⟩
 .rw[p7];exact⟨0,by simp[aq]⟩
 .rw[p8 h];simp only[aq] at ih⊢;obtain⟨q,hq⟩:=ih;exact⟨q,by omega⟩
 .rw[p9 h];simp only[aq] at ih⊢;obtain⟨q,hq⟩:=ih;exact⟨q,by omega⟩
 .obtain⟨q,hq⟩:=ih;by_cases hc:(t.c+u.c)%p=0
  .rw[qb h hc];obtain⟨m,hm⟩:=Int.dvd_of_emod_eq_zero hc;simp only[aq,h];by_cases hk:u.k=k
   .rw[Oe hk,Oe hk];exact⟨q-m,by rw[Int.mul_sub];omega⟩
   .rw[Oc hk,Oc hk];exact⟨q,by omega⟩
  .rw[qa h hc];obtain⟨m,hm⟩:=jR p (t.c+u.c);simp only[aq,h];by_cases hk:u.k=k
   .rw[Oe hk,Oe hk,Oe hk];exact⟨q+m,by rw[Int.mul_add];omega⟩
   .rw[Oc hk,Oc hk,Oc hk];exact⟨q,by omega⟩
def eu(x t:Ft):Prop:=x.k=t.k/\x.a=t.a/\x.b=t.b/\x.d=t.d/\x.z=t.z/\x.pl=t.pl
theorem Nh(p:Int)(hp:2<=p):∀f g:OI,(∀t∈f,0<t.c/\t.c<p)->(∀t∈g,0<t.c/\t.c<p)->∀x∈cX p f g,(∃t,(t∈f\/t∈g)/\eu x t)/\0<x.c/\x.c<p:=by
 refine mJ _ (λg=>?_) (λf=>?_) (λt u f g h ih=>?_) (λt u f g h ih=>?_) (λt u f g h ih=>?_)
 .rw[p6];exact λ_ hg x hx=>⟨⟨x,Oy hx,rfl,rfl,rfl,rfl,rfl,rfl⟩,hg x hx⟩
 .rw[p7];exact λhf _ x hx=>⟨⟨x,Ox hx,rfl,rfl,rfl,rfl,rfl,rfl⟩,hf x hx⟩
 .intro hf hg x hx;rw[p8 h] at hx;rcases Og.1 hx with rfl|hx
  .exact⟨⟨x,by simp,rfl,rfl,rfl,rfl,rfl,rfl⟩,hf x (by simp)⟩
  .obtain⟨⟨y,hy,ha⟩,hc⟩:=ih (λy hy=>hf y (by simp[hy])) hg x hx;exact⟨⟨y,by rcases hy with hy|hy<;>simp[hy],ha⟩,hc⟩
 .intro hf hg x hx;rw[p9 h] at hx;rcases Og.1 hx with rfl|hx
  .exact⟨⟨x,by simp,rfl,rfl,rfl,rfl,rfl,rfl⟩,hg x (by simp)⟩
  .obtain⟨⟨y,hy,ha⟩,hc⟩:=ih hf (λy hy=>hg y (by simp[hy])) x hx;exact⟨⟨y,by rcases hy with hy|hy<;>simp[hy],ha⟩,hc⟩
 .intro hf hg x hx;have ih':=ih (λy hy=>hf y (by simp[hy])) (λy hy=>hg y (by simp[hy]));by_cases hc:(t.c+u.c)%p=0
  .rw[qb h hc] at hx;obtain⟨⟨y,hy,ha⟩,hc⟩:=ih' x hx;exact⟨⟨y,by rcases hy with hy|hy<;>simp[hy],ha⟩,hc⟩
  .rw[qa h hc] at hx;rcases Og.1 hx with rfl|hx
   .have h1:=Int.emod_nonneg (t.c+u.c) (show p≠0 by omega);have h2:=Int.emod_lt_of_pos (t.c+u.c) (show 0<p by omega);exact⟨⟨t,by simp,rfl,rfl,rfl,rfl,rfl,rfl⟩,by simp only;omega,by simp only;omega⟩
   .obtain⟨⟨y,hy,ha⟩,hc⟩:=ih' x hx;exact⟨⟨y,by rcases hy with hy|hy<;>simp[hy],ha⟩,hc⟩
theorem xt(p:Int):∀(f g:OI),∀x∈cX p f g,∃t,(t∈f\/t∈g)/\x.k=t.k:=by
 refine mJ _ (λg=>?_) (λf=>?_) (λt u f g h ih=>?_) (λt u f g h ih=>?_) (λt u f g h ih=>?_)
 .rw[p6];exact λx hx=>⟨x,Oy hx,rfl⟩
 .rw[p7];exact λx hx=>⟨x,Ox hx,rfl⟩
 .intro x hx;rw[p8 h] at hx;rcases Og.1 hx with rfl|hx
  .exact⟨x,by simp,rfl⟩
  .obtain⟨y,hy,ha⟩:=ih x hx;exact⟨y,by rcases hy with hy|hy<;>simp[hy],ha⟩
 .intro x hx;rw[p9 h] at hx;rcases Og.1 hx with rfl|hx
  .exact⟨x,by simp,rfl⟩
  .obtain⟨y,hy,ha⟩:=ih x hx;exact⟨y,by rcases hy with hy|hy<;>simp[hy],ha⟩
 .intro x hx;by_cases hc:(t.c+u.c)%p=0
  .rw[qb h hc] at hx;obtain⟨y,hy,ha⟩:=ih x hx;exact⟨y,by rcases hy with hy|hy<;>simp[hy],ha⟩
  .rw[qa h hc] at hx;rcases Og.1 hx with rfl|hx
   .exact⟨t,by simp,rfl⟩
   .obtain⟨y,hy,ha⟩:=ih x hx;exact⟨y,by rcases hy with hy|hy<;>simp[hy],ha⟩
theorem Ni(p:Int):∀f g:OI,Dn f->Dn g->Dn (cX p f g):=by
 refine mJ _ (λg=>?_) (λf=>?_) (λt u f g h ih=>?_) (λt u f g h ih=>?_) (λt u f g h ih=>?_)
 .rw[p6];exact λ_ hg=>hg
 .rw[p7];exact λhf _=>hf
 .intro hf hg;rw[p8 h];refine List.pairwise_cons.2 ⟨λx hx=>?_,ih hf.tail hg⟩;obtain⟨y,hy,e⟩:=xt p _ _ x hx;rcases hy with hy|hy
  .have:=hf.head y hy;omega
  .have:=hg.le y hy;omega
 .intro hf hg;rw[p9 h];refine List.pairwise_cons.2 ⟨λx hx=>?_,ih hf hg.tail⟩;obtain⟨y,hy,e⟩:=xt p _ _ x hx;rcases hy with hy|hy
  .have:=hf.le y hy;omega
  .have:=hg.head y hy;omega
 .intro hf hg;by_cases hc:(t.c+u.c)%p=0
  .rw[qb h hc];exact ih hf.tail hg.tail
  .rw[qa h hc];refine List.pairwise_cons.2 ⟨λx hx=>?_,ih hf.tail hg.tail⟩;obtain⟨y,hy,e⟩:=xt p _ _ x hx;simp only;rcases hy with hy|hy
   .have:=hf.head y hy;omega
   .have:=hg.head y hy;omega
theorem Nj{g:Option Ft}{row:OI}(hd:Dn row):(∀u,g=some u->∃t,gZ g row=some t/\u.k<=t.k)/\(∀u∈row,∃t,gZ g row=some t/\u.k<=t.k)/\(∀t,gZ g row=some t->g=some t\/∃ts,row=t::ts):=by
 cases row with
 |nil=>exact⟨λu h=>⟨u,h,Int.le_refl _⟩,λu h=>by simp at h,λt h=>Ox h⟩
 |cons t ts=>
  cases g with
  |none=>exact⟨λu h=>by simp at h,λu h=>⟨t,rfl,hd.le u h⟩,λx h=>by simp only[gZ,N7] at h;exact Oy ⟨ts,by rw[h]⟩⟩
  |some g=>
   simp only[gZ];split
   .exact⟨λu h=>⟨t,rfl,by simp at h;subst h;omega⟩,λu h=>⟨t,rfl,hd.le u h⟩,λx h=>by simp only[N7] at h;exact Oy ⟨ts,by rw[h]⟩⟩
   .exact⟨λu h=>⟨g,rfl,by simp at h;subst h;omega⟩,λu h=>⟨g,rfl,by have:=hd.le u h;omega⟩,λx h=>Ox h⟩
theorem xu:∀(rows:OJ) (g:Option Ft),(∀r∈rows,Dn r)->(∀u,g=some u->∃t,rows.foldl gZ g=some t/\u.k<=t.k)/\(∀r∈rows,∀u∈r,∃t,rows.foldl gZ g=some t/\u.k<=t.k)/\(∀t,rows.foldl gZ g=some t->g=some t\/∃ts,(t::ts)∈rows)
 |[],g,_=>⟨λu h=>⟨u,h,Int.le_refl _⟩,λr h=>by simp at h,λt h=>Ox h⟩
 |r::rows,g,hd=>by
  obtain⟨a1,a2,a3⟩:=Nj (g:=g) (hd r (by simp));obtain⟨b1,b2,b3⟩:=xu rows (gZ g r) λr hr=>hd r (by simp[hr]);refine⟨λu h=>?_,λr' hr' u hu=>?_,λt h=>?_⟩
  .obtain⟨t,ht,hk⟩:=a1 u h;obtain⟨t2,ht2,hk2⟩:=b1 t ht;exact⟨t2,ht2,by omega⟩
  .rcases Og.1 hr' with rfl|hr'
   .obtain⟨t,ht,hk⟩:=a2 u hu;obtain⟨t2,ht2,hk2⟩:=b1 t ht;exact⟨t2,ht2,by omega⟩
   .exact b2 r' hr' u hu
  .rcases b3 t h with h|⟨ts,h⟩
   .rcases a3 t h with h|⟨ts,rfl⟩
    .exact Ox h
    .exact Oy ⟨ts,by simp⟩
   .exact Oy ⟨ts,by simp[h]⟩
variable{rows:OJ}
theorem BW(hd:∀r∈rows,Dn r)(h:eK rows=none):∀r∈rows,r=[]:=by
 intro r hr;cases r with
 |nil=>rfl
 |cons t ts=>obtain⟨x,hx,_⟩:=(xu rows none hd).2.1 _ hr t (by simp);rw[eK] at h;rw[h] at hx;simp at hx
theorem DU(hd:∀r∈rows,Dn r)(h:eK rows=some t):(∃ts,(t::ts)∈rows)/\∀r∈rows,∀u∈r,u.k<=t.k:=by
 obtain⟨_,b2,b3⟩:=xu rows none hd;refine⟨?_,λr hr u hu=>?_⟩
 .rcases b3 t h with h|h
  .simp at h
  .exact h
 .obtain⟨x,hx,hk⟩:=b2 r hr u hu;rw[eK] at h;rw[h] at hx;simp at hx;subst hx;exact hk
def eL(key:Int):OI->OI
 |[]=>[]
 |t::ts=>if t.k=key then ts else t::ts
def jd(key:Int):OI->Int
 |[]=>0
 |t::_=>if t.k=key then t.c else 0
def tk(key:Int)(rows:OJ):OJ:=rows.map (eL key)
def dE(key:Int)(rows:OJ):Int:=(rows.map (jd key)).sum
theorem xw(key:Int)(r:OI):∀u∈eL key r,u∈r:=by
 cases r with
 |nil=>exact λu h=>h
 |cons t ts=>
  simp only[eL];split
  .exact λu h=>by simp[h]
  .exact λu h=>h
variable{r:OI}{key:Int}
theorem wh(h:Dn r):Dn (eL key r):=by
 cases r with
 |nil=>exact h
 |cons t ts=>
  simp only[eL];split
  .exact h.tail
  .exact h
theorem Nk(h:Dn r)(hk:∀u∈r,u.k<=key):∀u∈eL key r,u.k<key:=by
 cases r with
 |nil=>exact λu h=>by simp[eL] at h
 |cons t ts=>
  simp only[eL];split
  .rename_i e;exact λu hu=>by have:=h.head u hu;omega
  .rename_i e;intro u hu;have h1:=hk t (by simp);have h2:=h.le u hu;omega
theorem Nl(key k:Int):aq k r=aq k (eL key r)+if k=key then jd key r else 0:=by
 cases r with
 |nil=>simp[eL,jd,aq]
 |cons t ts=>
  simp only[eL,jd];by_cases h:t.k=key
  .rw[Oe h,Oe h];simp only[aq];by_cases hk:k=key
   .rw[Oe (by omega),Oe hk];omega
   .rw[Oc (by omega),Oc hk];omega
  .rw[Oc h,Oc h];simp
theorem xy(key k:Int):∀rows:OJ,aq k rows.flatten=aq k (tk key rows).flatten+if k=key then dE key rows else 0
 |[]=>by simp[tk,dE,aq]
 |r::rows=>by
  have h1:=Nl key k (r:=r);have h2:=xy key k rows;simp only[tk,dE,List.map_cons,List.flatten_cons,List.sum_cons,iX] at h2⊢;split at h1
  .rename_i e;simp only[Oe e] at h2⊢;omega
  .rename_i e;simp only[Oc e] at h2⊢;omega
def f9(rows:OJ):Nat:=(rows.map List.length).sum
theorem DV(key:Int):∀rows:OJ,f9 (tk key rows)<=f9 rows
 |[]=>by simp[tk,f9]
 |r::rows=>by
  have h:=DV key rows;have h1:(eL key r).length<=r.length:=by
   cases r with
   |nil=>simp[eL]
   |cons t ts=>simp only[eL];split<;>simp
  simp only[tk,f9,List.map_cons,List.sum_cons] at h⊢;omega
theorem DW{t:Ft}{ts:OI}:∀{rows:OJ},(t::ts)∈rows->f9 (tk t.k rows)<f9 rows
 |[],h=>by simp at h
 |r::rows,h=>by
  have h0:=DV t.k rows;have h1:(eL t.k r).length<=r.length:=by
   cases r with
   |nil=>simp[eL]
   |cons t ts=>simp only[eL];split<;>simp
  rcases Og.1 h with rfl|h
  .simp only[tk,f9,List.map_cons,List.sum_cons,eL,Oe] at h0⊢;simp only[Oh];omega
  .have h2:=DW h;simp only[tk,f9,List.map_cons,List.sum_cons] at h2⊢;omega
def Nx(p:Int)(rows:OJ)(r:Option Ft)(rows2:OJ):Prop:=
 ∀P:OJ->Option Ft->OJ->Prop,(∀rows,eK rows=none->P rows none rows)->(∀rows (t:Ft),eK rows=some t->dE t.k rows%p≠0->P rows (some {t with c:=dE t.k rows%p}) (tk t.k rows))->
  (∀rows rows2 (t:Ft) r,eK rows=some t->dE t.k rows%p=0->P (tk t.k rows) r rows2->P rows r rows2)->P rows r rows2
variable{p:Int}
theorem Nx.stop(rows:OJ)(h:eK rows=none):Nx p rows none rows:=λ_ h1 _ _=>h1 rows h
theorem Nx.hit(rows:OJ)(t:Ft)(h:eK rows=some t)(hz:dE t.k rows%p≠0):Nx p rows (some {t with c:=dE t.k rows%p}) (tk t.k rows):=λ_ _ h2 _=>h2 rows t h hz
theorem Nx.go(rows rows2:OJ)(t:Ft)(r:Option Ft)(h:eK rows=some t)(hz:dE t.k rows%p=0)(hn:Nx p (tk t.k rows) r rows2):Nx p rows r rows2:=λP h1 h2 h3=>h3 rows rows2 t r h hz (hn P h1 h2 h3)
theorem Nx.ind{p:Int}{motive:∀rows r rows2,Nx p rows r rows2->Prop}(stop:∀rows h,motive rows none rows (Nx.stop rows h))(hit:∀rows t h hz,motive _ _ _ (Nx.hit rows t h hz))(go:∀rows rows2 t r h hz hn,motive _ _ _ hn->motive _ _ _ (Nx.go rows rows2 t r h hz hn)){rows:OJ}{r:Option Ft}{rows2:OJ}(h:Nx p rows r rows2):motive rows r rows2 h:=by have:=h (λa b c=>∃h,motive a b c h) (λa h1=>⟨_,stop a h1⟩) (λa t h1 h2=>⟨_,hit a t h1 h2⟩) (λa b t r h1 h2 ⟨h3,h4⟩=>⟨_,go a b t r h1 h2 h3 h4⟩);exact this.2
structure aG(p:Int)(G:Ft->Prop)(rows:OJ):Prop where
 dn:∀r∈rows,Dn r
 co:∀r∈rows,∀t∈r,0<t.c/\t.c<p
 gd:∀r∈rows,∀t∈r,G t
variable{G:Ft->Prop}
theorem aG.tk(h:aG p G rows)(key:Int):aG p G (tk key rows):=by
 refine⟨λr hr=>?_,λr hr t ht=>?_,λr hr t ht=>?_⟩<;>(obtain⟨r0,h0,rfl⟩:=N9.1 hr)
 .exact wh (h.dn r0 h0)
 .exact h.co r0 h0 t (xw key r0 t ht)
 .exact h.gd r0 h0 t (xw key r0 t ht)
theorem Nx.spec(hp:2<=p)(hG:∀x t,eu x t->G t->G x){rows2:OJ}{r:Option Ft}(h:Nx p rows r rows2):aG p G rows->aG p G rows2/\rows2.length=rows.length/\match r with
   |none=>∀k,p∣aq k rows.flatten
   |some t=>G t/\0<t.c/\t.c<p/\(∀r∈rows2,∀u∈r,u.k<t.k)/\∀k,p∣aq k rows.flatten-(aq k rows2.flatten+if k=t.k then t.c else 0):=by
 induction h using Nx.ind with
 |stop rows hg=>
  intro hr;refine⟨hr,rfl,λk=>?_⟩;have he:=BW hr.dn hg;rw[rF (λt ht=>by
   obtain⟨r,h1,h2⟩:=List.mem_flatten.1 ht;rw[he r h1] at h2;simp at h2)]
  exact⟨0,by omega⟩
 |hit rows t hg hne=>
  intro hr;obtain⟨⟨ts,hm⟩,hle⟩:=DU hr.dn hg;have h1:=Int.emod_nonneg (dE t.k rows) (show p≠0 by omega);have h2:=Int.emod_lt_of_pos (dE t.k rows) (show 0<p by omega);refine⟨hr.tk _,by simp[tk],hG _ t ⟨rfl,rfl,rfl,rfl,rfl,rfl⟩ (hr.gd _ hm t (by simp)),by simp only;omega,h2,λr hr2 u hu=>?_,λk=>?_⟩
  .obtain⟨r0,h0,rfl⟩:=N9.1 hr2;exact Nk (hr.dn r0 h0) (hle r0 h0) u hu
  .rw[xy t.k k rows];by_cases hk:k=t.k
   .simp only[Oe hk];obtain⟨m,hm⟩:=jR p (dE t.k rows);exact⟨-m,by rw[Int.mul_neg];omega⟩
   .simp only[Oc hk];exact⟨0,by omega⟩
 |go rows rows2 t r hg hz hn ih=>
  intro hr;obtain⟨i1,i2,i3⟩:=ih (hr.tk _);refine⟨i1,by rw[i2];simp[tk],?_⟩;have hc:∀k,p∣aq k rows.flatten-aq k (tk t.k rows).flatten:=λk=>by
   rw[xy t.k k rows];obtain⟨m,hm⟩:=Int.dvd_of_emod_eq_zero hz;by_cases hk:k=t.k
   .rw[Oe hk];exact⟨m,by omega⟩
   .rw[Oc hk];exact⟨0,by omega⟩
  cases r with
  |none=>intro k;obtain⟨a,ha⟩:=hc k;obtain⟨b,hb⟩:=i3 k;exact⟨a+b,by rw[Int.mul_add];omega⟩
  |some x=>obtain⟨j1,j2,j3,j4,j5⟩:=i3;refine⟨j1,j2,j3,j4,λk=>?_⟩;obtain⟨a,ha⟩:=hc k;obtain⟨b,hb⟩:=j5 k;exact⟨a+b,by rw[Int.mul_add];omega⟩
end Go.Proofs.YtjkalahhpobefaaGreat
namespace Go.Proofs.YtjkalahhpobefaaGreat
set_option linter.all false
open Go.Proofs.Tryz Go.RowKit
def bW(Φ:OR->Prop)(w:OQ)(g:Nat):Prop:=∀j u,w.cell? (OV g j)=some u->Φ u
variable{g:Nat}{w w':OQ}{Φ:OR->Prop}
theorem bW.below(h:bW Φ w g)(hb:w'.heap[g]?=w.heap[g]?):bW Φ w' g:=by intro j u hu;rw[World.cell?_of_block (a:=(OV g j)) hb] at hu;exact h j u hu
variable{C:Array OR}
theorem r8{T:TypeId}(h:∀u∈C.toList,Φ u):bW Φ (w.alloc (.cells C T)) w.heap.size:=by
 intro j u hu;have e:(w.alloc (.cells C T)).cell? (OV w.heap.size j)=C[j]?:=by unfold World.cell?;rw[show (w.alloc (.cells C T)).heap[w.heap.size]?=some (.cells C T (0,0)) from heap_alloc_new w _];simp
 rw[e] at hu;exact h u (by rw[Array.mem_toList_iff];exact Array.mem_of_getElem? hu)
theorem kV{T:TypeId}(hg:w.heap[g]?=some (.cells C T (0,0)))(h:∀u∈C.toList,Φ u):bW Φ w g:=by
 intro j u hu;have e:w.cell? (OV g j)=C[j]?:=by unfold World.cell?;rw[hg];simp
 rw[e] at hu;exact h u (by rw[Array.mem_toList_iff];exact Array.mem_of_getElem? hu)
theorem uB{T:TypeId}(hg:w.heap[g]?=some (.cells C T (0,0)))(h:bW Φ w g):∀u∈C.toList,Φ u:=by intro u hu;obtain⟨j,hj,rfl⟩:=List.getElem_of_mem hu;refine h j _ ?_;unfold World.cell?;rw[hg];simp at hj⊢
variable{u:OR}
theorem DX{j:Nat}{y:OR}(h:bW Φ w g)(hu:Φ u)(hy:w.cell? (OV g j)=some y):bW Φ (w.setCell (OV g j) u) g:=by
 intro i x hx;by_cases e:i=j
 .subst e;rw[World.cell?_setCell_same _ _ _ hy] at hx;simp only[N7] at hx;rw[<-hx];exact hu
 .rw[World.cell?_setCell_other] at hx
  .exact h i x hx
  .intro h2;apply e;simpa using h2.symm
theorem vB{P:Program}(w:OQ)(Φ:OR->Prop)(base:Nat)(t ty e:TypeId)(i:TypeInfo)(z:OR)(size bytes:Nat)(ht:P.underlying t=some (.slice e))(hi:P.info? e=some i)(hz:i.zero=some z)(hsize:i.size=size)(hby:i.bytes=bytes)(hzs:z.cells.size=size)(hsz:0<size)(hΦz:∀u∈z.cells.toList,Φ u)(v:OR)(n:Nat)(xs:OO)(hown:w.ownsRow base e size v n xs)(hk:∀g,v.ownBlock=some g->bW Φ w g)(a:Addr)(m c:Nat)(news:OO)(hm:0<m)(hl:news.length=m*size)(hnews:∀j u,news[j]?=some u->w.cell? (a.add j)=some u)(h1:∀u∈news,u.oneCell'=true)(hΦn:∀u∈news,Φ u)(h63:n+m<=maxLen)(hbytes:(n+m)*bytes<=140737488355328)(hbase:base<=w.heap.size):∃v' w',(Builtin.append_ #[t,t] ty #[v,.slice (some a) m c]).run P w=.ok v' w'/\w'.ownsRow base e size v' (n+m) (xs++news)/\w.grownBy w' v.ownBlock/\(∀g,v'.ownBlock=some g->bW Φ w' g)/\(v'.ownBlock=v.ownBlock\/v'.ownBlock=some w.heap.size):=by
 obtain⟨v',w',hr,h2,h3,_⟩:=run_append_own (P:=P) w base t ty e i z size bytes ht hi hz hsize hby hzs hsz v n xs hown a m c news hl hnews h1 h63 hbytes hbase;refine⟨v',w',hr,h2,h3,?_⟩;have hsmall:n+m<=9223372036854775807:=by simp only[maxLen] at h63;omega
 have hzero:∀(q:Nat),∀x∈(Builtin.zeroCells z.cells q).toList,Φ x:=by intro q x hx;simp[Builtin.zeroCells] at hx;obtain⟨l,hl,hx⟩:=hx;have hlt:l%z.cells.size<z.cells.size:=Nat.mod_lt _ (by omega);rw[getElem!_pos z.cells _ hlt] at hx;rw[<-hx];exact hΦz _ (by simp)
 subst hsize;subst hby;rcases hown.2 with ⟨rfl,rfl⟩|⟨g,cap,ag,rfl,hbg,hg,hnc,hcm,hcs,htake⟩
 .have hr2:=run_append_nil (P:=P) w t ty e i z ht hi hz a m c news hl hnews (by omega) (by omega) (by have hb:=hbytes;simp only[N4] at hb;omega);rw[hr] at hr2;simp only[Result.ok.injEq] at hr2;obtain⟨rfl,rfl⟩:=hr2;refine⟨λg hg=>?_,Oy rfl⟩;simp only[Value.ownBlock,N7] at hg;subst hg;refine r8 (w:=w.drew) (λx hx=>?_);rw[Array.toList_append,N1] at hx;rcases hx with hx|hx
  .exact hΦn x (by simpa using hx)
  .exact hzero _ x hx
 .have hcur:=uB hg (hk g rfl);by_cases hroom:n+m<=cap
  .have hfit:n*i.size+news.length<=ag.size:=by rw[hl,hcs,<-Nat.add_mul];exact Oz _ hroom
   have hr2:=run_append_room (P:=P) w t ty e i ht hi g n cap ag hg a m c news hl hnews h1 hroom hfit;rw[hr] at hr2;simp only[Result.ok.injEq] at hr2;obtain⟨rfl,rfl⟩:=hr2;refine⟨λg2 hg2=>?_,Ox rfl⟩;simp only[Value.ownBlock,N7] at hg2;subst hg2;refine kV (setRow_heap w g ag _ e _ hg) (λx hx=>?_);rw[List.toList_toArray,N1,N1] at hx;rcases hx with (hx|hx)|hx
   .exact hcur x (OA hx)
   .exact hΦn x hx
   .exact hcur x (List.mem_of_mem_drop hx)
  .have holds:∀j x,xs[j]?=some x->w.cell? (((OV g 0):Addr).add j)=some x:=hown.cells (g:=g) rfl;have hr2:=run_append_grow (P:=P) w t ty e i z ht hi hz (OV g 0) n cap xs hown.1 holds a m c news hl hnews (by omega) (by omega) (growslice_fits (by omega) hbytes);rw[hr] at hr2;simp only[Result.ok.injEq] at hr2;obtain⟨rfl,rfl⟩:=hr2;refine⟨λg2 hg2=>?_,Oy rfl⟩;simp only[Value.ownBlock,N7] at hg2;subst hg2;refine r8 (w:=w.drew) (λx hx=>?_);rw[Array.toList_append,Array.toList_append,N1,N1] at hx;rcases hx with (hx|hx)|hx
   .rw[List.toList_toArray,<-htake] at hx;exact hcur x (OA hx)
   .exact hΦn x (by simpa using hx)
   .exact hzero _ x hx
structure am(S:Nat->Prop)(w w':OQ):Prop where
 os:w'.os=w.os
 tape:w'.tape=w.tape
 output:w'.output=w.output
 size:w.heap.size<=w'.heap.size
 block:∀k,k<w.heap.size->¬S k->w'.heap[k]?=w.heap[k]?
theorem am.refl(S:Nat->Prop)(w:OQ):am S w w:=⟨rfl,rfl,rfl,NL _,λ_ _ _=>rfl⟩
variable{a b:OQ}{S T:Nat->Prop}
theorem am.trans{c:OQ}(h:am S a b)(k:am T b c)(ht:∀x,x<a.heap.size->T x->S x):am S a c:=
 ⟨k.os.trans h.os,k.tape.trans h.tape,k.output.trans h.output,NR h.size k.size,λi hi hs=>(k.block i (NQ hi h.size) (λx=>hs (ht i hi x))).trans (h.block i hi hs)⟩
theorem am.wide(h:am S a b)(hs:∀x,x<a.heap.size->S x->T x):am T a b:=⟨h.os,h.tape,h.output,h.size,λk hk hT=>h.block k hk λx=>hT (hs k hk x)⟩
theorem am.of_below(h:LT a b):am S a b:=⟨h.os,h.tape,h.output,h.size,λk hk _=>h.block k hk⟩
theorem am.of_grown{r:Option Nat}(h:a.grownBy b r)(hs:∀g,r=some g->S g):am S a b:=⟨h.os,h.tape,h.output,h.size,λk hk hS=>h.block k hk λe=>hS (hs k e.symm)⟩
variable{B:Nat}
theorem am.to_below(h:am S a b)(hB:B<=a.heap.size)(hs:∀x,S x->B<=x):Below B a b:=⟨h.os,h.tape,h.output,h.size,λk hk=>h.block k (by omega) λx=>by have:=hs k x;omega⟩
theorem am.cell(h:am S a b){p:Addr}(hc:a.cell? p=some u)(hs:¬S p.block):b.cell? p=some u:=
 (World.cell?_of_block (h.block p.block (NX a p hc) hs)).trans hc
variable{n:Nat}{v:OR}
theorem am.own(h:am S a b){T:TypeId}{s:Nat}{xs:OO}(ho:a.ownsRow B T s v n xs)(hs:∀g,v.ownBlock=some g->¬S g):b.ownsRow B T s v n xs:=by
 refine⟨ho.1,?_⟩;rcases ho.2 with hn|⟨g,cap,ag,rfl,hb,hgg,rest⟩
 .exact .inl hn
 .refine .inr ⟨g,cap,ag,rfl,hb,?_,rest⟩;rw[h.block g (On.1 hgg).1 (hs g rfl)];exact hgg
theorem am.kdb(h:am S a b)(hk:bW Φ a g)(hlt:g<a.heap.size)(hs:¬S g):bW Φ b g:=hk.below (h.block g hlt hs)
def io(u:OR):Prop:=∀x,u≠OX x
theorem kF(h:cK w g):bW io w g:=λj u hu x e=>by obtain⟨_,_,_,h2⟩:=h j u hu;rw[h2] at e;cases e
theorem fM(h:am S a b)(hn:∀g,S g->bW io a g){fs:OI}(hf:Fv a v fs):Fv b v fs:=by
 obtain⟨ad,cap,rfl,hc,h1⟩:=hf;refine⟨ad,cap,rfl,hc,λhp=>?_⟩;obtain⟨bl,off,rfl,hlt,hcs⟩:=h1 hp;have hne:¬S bl:=by
  intro hs;cases fs with
  |nil=>simp at hp
  |cons t ts=>exact hn bl hs _ _ (hcs 1 (OX t.a) rfl) t.a rfl
 exact⟨bl,off,rfl,NQ hlt h.size,λj u hj=>h.cell (hcs j u hj) hne⟩
structure aM(B:Nat)(w:OQ)(v:OR)(us:OO)(rows:OJ):Prop where
 len:us.length=rows.length
 own:w.ownsRow B 79 1 v rows.length us
 kind:∀g,v.ownBlock=some g->cK w g
 fvs:∀i,i<rows.length->Fv w (us.getD i aL) (rows.getD i [])
variable{rows:OJ}{us:OO}
theorem aM.frm(h:aM B w v us rows)(hf:am S w w')(hn:∀g,S g->bW io w g)(hs:∀g,v.ownBlock=some g->¬S g):aM B w' v us rows:=
 ⟨h.len,hf.own h.own hs,λg hg=>hf.kdb (h.kind g hg) (NK h.own g hg).2 (hs g hg),λi hi=>fM hf hn (h.fvs i hi)⟩
theorem aM.next(h:aM B w v us rows)(hb:LT w w'):aM B w' v us rows:=
 h.frm (S:=λ_=>False) (am.of_below hb) (λg hg=>hg.elim) (λg _ hg=>hg)
theorem aM.nil(B:Nat)(w:OQ):aM B w (.slice none 0 0) [] []:=
 ⟨rfl,World.ownsRow_nil _ _ _ _,λg hg=>by simp[Value.ownBlock] at hg,λi hi=>by simp at hi⟩
theorem aM.at(h:aM B w v us rows)(i:Nat)(hi:i<rows.length):∃g c,v=OU g rows.length c/\B<=g/\g<w.heap.size/\w.cell? (OV g i)=some (us.getD i aL)/\w.frozen? (OV g i)=false:=by
 obtain⟨a,c,rfl⟩:=ct h.own;obtain⟨g,rfl,_,hlt,hc⟩:=qQ h.own i hi;have hl:=NK h.own g rfl;have:i<us.length:=by rw[h.len];exact hi
 exact⟨g,c,rfl,hl.1,hl.2,by rw[hc];simp[NY,this],NI h.own i⟩
theorem aM.rws(h:aM B w v us rows):nL w v rows:=by obtain⟨a,c,rfl⟩:=ct h.own;refine⟨a,c,rfl,λi hi=>?_⟩;obtain⟨g,c2,e,_,hlt,hc,_⟩:=h.at i hi;simp only[N8] at e;exact⟨g,0,us.getD i aL,e.1,hlt,by rw[N4];exact hc,h.fvs i hi⟩
theorem nW{α:Type}(l:List α)(i j:Nat)(x d:α):(l.set i x).getD j d=if i=j/\j<l.length then x else l.getD j d:=by
 by_cases h:i=j
 .subst h;by_cases h2:i<l.length
  .simp[NY,h2]
  .simp[NY,h2]
 .simp[NY,List.getElem?_set_ne h,h]
variable{c:Nat}
theorem aM.put(h:aM B w (OU g n c) us rows)(i:Nat)(hi:i<rows.length)(u:OR)(f:OI)(hu:Fv w u f):aM B (w.setCell (OV g i) u) (OU g n c) (us.set i u) (rows.set i f)/\w.grownBy (w.setCell (OV g i) u) (some g):=by
 have hn:n=rows.length:=by obtain⟨a,c2,e⟩:=ct h.own;simp only[N8] at e;exact e.2.1
 subst hn;have s:=NW h.own i u;have hk:=kF (h.kind g rfl);have hf:am (λk=>k=g) w (w.setCell (OV g i) u):=am.of_grown s.2 (λx e=>by simpa using e.symm);have hus:∃a n c,u=.slice a n c:=by obtain⟨a,c,e,_⟩:=hu;exact⟨a,_,c,e⟩
 obtain⟨g2,c2,e2,_,_,hc,_⟩:=h.at i hi;simp only[N8,N7,Addr.mk.injEq,true_and,and_true] at e2;obtain⟨rfl,_⟩:=e2;refine⟨⟨by simp[h.len],by rw[List.length_set];exact s.1,λg2 hg2=>?_,λj hj=>?_⟩,s.2⟩
 .simp only[Value.ownBlock,N7] at hg2;subst hg2;exact DX (h.kind g rfl) hus hc
 .rw[List.length_set] at hj;rw[nW,nW,h.len];by_cases e:i=j
  .rw[Oe ⟨e,hj⟩,Oe ⟨e,hj⟩];exact fM hf (λk e=>by subst e;exact hk) hu
  .rw[Oc (λh=>e h.1),Oc (λh=>e h.1)];exact fM hf (λk e=>by subst e;exact hk) (h.fvs j hj)
variable{v2:OR}{w2:OQ}
theorem aM.snoc(h:aM B w v us rows)(hu:Fv w u [])(h2:w2.ownsRow B 79 1 v2 (rows.length+1) (us++[u]))(g2:w.grownBy w2 v.ownBlock)(k2:∀g,v2.ownBlock=some g->cK w2 g):aM B w2 v2 (us++[u]) (rows++[[]]):=by
 have hf:am (λk=>v.ownBlock=some k) w w2:=am.of_grown g2 (λx e=>e);have hn:∀g,v.ownBlock=some g->bW io w g:=λg hg=>kF (h.kind g hg);refine⟨by simp[h.len],by rw[N3];exact h2,k2,λi hi=>?_⟩;rw[N3] at hi;simp only[Oh,List.length_nil] at hi;rcases Nat.lt_or_ge i rows.length with hl|hl
 .have e1:(us++[u]).getD i aL=us.getD i aL:=by simp[NY,Ol (show i<us.length by rw[h.len];exact hl)]
  have e2:(rows++[[]]).getD i []=rows.getD i []:=by simp[NY,Ol hl]
  rw[e1,e2];exact fM hf hn (h.fvs i hl)
 .have e:i=rows.length:=by omega
  subst e;have e1:(us++[u]).getD rows.length aL=u:=by rw[<-h.len];simp[NY]
  have e2:(rows++[[]]).getD rows.length []=([]:OI):=by simp[NY]
  rw[e1,e2];exact fM hf hn hu
structure aU(B:Nat)(w:OQ)(sb ob:Nat)(rv:OR)(us:OO)(rows:OJ):Prop where
 box:w.ownsRow B 176 2 (OU sb 1 1) 1 [OS ob,rv]
 kind:bW io w sb
 rws:aM B w rv us rows
variable{rv:OR}{sb ob:Nat}
theorem aU.next(h:aU B w sb ob rv us rows)(hb:LT w w'):aU B w' sb ob rv us rows:=
 ⟨aF h.box hb,h.kind.below (hb.block sb (NK h.box sb rfl).2),h.rws.next hb⟩
theorem aU.apart(h:aU B w sb ob rv us rows):rv.ownBlock≠some sb:=by
 intro e;rcases iY (by decide) h.rws.own h.box with h1|h1
 .rw[h1] at e;cases e
 .exact h1 (by rw[e];rfl)
theorem aU.lt(h:aU B w sb ob rv us rows):B<=sb/\sb<w.heap.size:=NK h.box sb rfl
theorem aU.cells(h:aU B w sb ob rv us rows):w.cell? (OV sb 0)=some (OS ob)/\w.cell? (OV sb 1)=some rv/\w.frozen? (OV sb 1)=false:=
 ⟨NJ h.box 0 (by omega),NJ h.box 1 (by omega),NI h.box 1⟩
theorem aU.put(h:aU B w sb ob (OU g n c) us rows)(i:Nat)(hi:i<rows.length)(u:OR)(f:OI)(hu:Fv w u f):aU B (w.setCell (OV g i) u) sb ob (OU g n c) (us.set i u) (rows.set i f)/\w.grownBy (w.setCell (OV g i) u) (some g):=by have s:=h.rws.put i hi u f hu;have hne:sb≠g:=λe=>h.apart (by rw[e];rfl);exact⟨⟨World.ownsRow.kept h.box s.2 (Oy (by simpa [Value.ownBlock] using hne)),h.kind.below (s.2.block sb h.lt.2 (by simpa using hne)),s.1⟩,s.2⟩
theorem aU.grow(h:aU B w sb ob rv us rows)(hu:Fv w u [])(h2:w2.ownsRow B 79 1 v2 (rows.length+1) (us++[u]))(g2:w.grownBy w2 rv.ownBlock)(k2:∀g,v2.ownBlock=some g->cK w2 g):aU B (w2.setCell (OV sb 1) v2) sb ob v2 (us++[u]) (rows++[[]]):=by
 have hr:=h.rws.snoc hu h2 g2 k2;have hb2:=World.ownsRow.kept h.box g2 (Oy (by simpa [Value.ownBlock] using λe=>h.apart e.symm));have hk2:bW io w2 sb:=h.kind.below (g2.block sb h.lt.2 (λe=>h.apart e.symm));have s:=NW hb2 1 v2;have hav:∀x,v2≠OX x:=by obtain⟨a,c,e⟩:=ct hr.own;rw[e];exact λx h=>by cases h
 have hf:am (λk=>k=sb) w2 (w2.setCell (OV sb 1) v2):=am.of_grown s.2 (λx e=>by simpa using e.symm);refine⟨s.1,DX hk2 hav (NJ hb2 1 (by omega)),hr.frm hf (λg e=>by subst e;exact hk2) λg hg e=>?_⟩;subst e;rcases iY (by decide) hr.own hb2 with h1|h1
 .rw[h1] at hg;cases hg
 .exact h1 (by rw[hg];rfl)
def fL(sb:Nat)(rv:OR)(k:Nat):Prop:=k=sb\/rv.ownBlock=some k
end Go.Proofs.YtjkalahhpobefaaGreat
