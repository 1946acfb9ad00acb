/- Flat rows as vectors: what functions tell of them; degrees that rise by places. -/
import Derived.Test.YtglijodcbdcngaaGreatQY
import Derived.Test.YtglijodcbdcngaaGreatZV
namespace Go.Proofs.YtglijodcbdcngaaGreat
set_option linter.unusedSimpArgs false
set_option linter.unusedVariables false
open Go.Proofs.Tryz Go.RowKit
def aE(R:Nat)(t:Ft):Gb.Te:=(R-1-t.pl.toNat,t.a.toNat,t.b.toNat,t.d.toNat)
def bV(R:Nat)(φ:Gb.Te->Int)(fs:List Ft):Int:=Gb.ln φ (fs.map λt=>(t.c,aE R t))
theorem og(R:Nat)(φ:Gb.Te->Int):bV R φ []=0:=rfl
theorem iq(R:Nat)(φ:Gb.Te->Int)(t:Ft)(fs:List Ft):bV R φ (t::fs)=t.c*φ (aE R t)+bV R φ fs:=rfl
theorem qy(R:Nat)(φ:Gb.Te->Int)(f g:List Ft):bV R φ (f++g)=bV R φ f+bV R φ g:=by unfold bV;rw[List.map_append,jZ]
def sK(ψ:Int->Int):List Ft->Int
 |[]=>0
 |t::ts=>t.c*ψ t.k+sK ψ ts
theorem vI(ψ:Int->Int):∀f g:List Ft,sK ψ (f++g)=sK ψ f+sK ψ g
 |[],g=>by simp[sK]
 |t::f,g=>by simp only[List.cons_append,sK,vI ψ f g];omega
theorem vJ(ψ:Int->Int)(a:Int):∀l:List Ft,sK ψ l=aw a l*ψ a+sK ψ (l.filter λt=>decide (t.k≠a))
 |[]=>by simp[sK,aw]
 |t::l=>by
  have ih:=vJ ψ a l;by_cases h:t.k=a
  ·rw[List.filter_cons_of_neg (by simp[h])];simp only[sK,aw,if_pos h,Int.add_mul];rw[ih,h];omega
  ·rw[List.filter_cons_of_pos (by simp[h])];simp only[sK,aw,if_neg h];rw[ih];simp only[Int.zero_add];omega
theorem vK(k a:Int):∀l:List Ft,aw k (l.filter λt=>decide (t.k≠a))=if k=a then 0 else aw k l
 |[]=>by simp[aw]
 |t::l=>by
  have ih:=vK k a l;by_cases h:t.k=a
  ·rw[List.filter_cons_of_neg (by simp[h]),ih];by_cases hk:k=a
   ·rw[if_pos hk,if_pos hk]
   ·rw[if_neg hk,if_neg hk];simp only[aw];rw[if_neg (by omega)];omega
  ·rw[List.filter_cons_of_pos (by simp[h])];simp only[aw];rw[ih];by_cases hk:k=a
   ·rw[if_pos hk,if_pos hk,if_neg (by omega)];omega
   ·rw[if_neg hk,if_neg hk]
theorem CD{p:Int}(ψ:Int->Int):∀(n:Nat)(l:List Ft),l.length<=n->(∀k,p∣aw k l)->p∣sK ψ l:=by
 intro n;induction n with
 |zero=>intro l hl _;have:l=[]:=List.length_eq_zero_iff.1 (by omega);subst this;exact⟨0,by simp[sK]⟩
 |succ n ih=>
  intro l hl hc;cases l with
  |nil=>exact⟨0,by simp[sK]⟩
  |cons t l=>
   rw[vJ ψ t.k];have h1:((t::l).filter λu=>decide (u.k≠t.k)).length<=n:=by rw[List.filter_cons_of_neg (by simp)];have:=List.length_filter_le (λu:Ft=>decide (u.k≠t.k)) l;simp at hl;omega
   obtain⟨x,hx⟩:=ih _ h1 λk=>by
    rw[vK];by_cases hk:k=t.k
    ·rw[if_pos hk];exact⟨0,by omega⟩
    ·rw[if_neg hk];exact hc k
   obtain⟨y,hy⟩:=hc t.k;exact⟨y*ψ t.k+x,by rw[hx,hy];grind⟩
theorem vL(ψ:Int->Int):∀l:List Ft,sK ψ (l.map λt=>{t with c:=-t.c})=-sK ψ l
 |[]=>by simp[sK]
 |t::l=>by simp only[List.map_cons,sK,vL ψ l,Int.neg_mul];omega
theorem vM(k:Int):∀l:List Ft,aw k (l.map λt=>{t with c:=-t.c})=-aw k l
 |[]=>by simp[aw]
 |t::l=>by
  simp only[List.map_cons,aw,vM k l];by_cases h:t.k=k
  ·rw[if_pos h,if_pos h];omega
  ·rw[if_neg h,if_neg h];omega
theorem CF{p:Int}(ψ:Int->Int){f g:List Ft}(h:∀k,p∣aw k f-aw k g):p∣sK ψ f-sK ψ g:=by
 have h2:=CD (p:=p) ψ _ (f++g.map λt=>{t with c:=-t.c}) (He _) λk=>by rw[iM,vM];obtain⟨x,hx⟩:=h k;exact⟨x,by omega⟩
 rw[vI,vL] at h2;obtain⟨x,hx⟩:=h2;exact⟨x,by omega⟩
theorem qz(R:Nat)(φ:Gb.Te->Int)(ψ:Int->Int):∀f:List Ft,(∀t∈f,ψ t.k=φ (aE R t))->bV R φ f=sK ψ f
 |[],_=>rfl
 |t::f,h=>by rw[iq];simp only[sK];rw[qz R φ ψ f λu hu=>h u (by simp[hu]),h t (by simp)]
open Classical in
theorem oh{p:Int}{R:Nat}{f g:List Ft}(hi:∀t u,t∈f++g->u∈f++g->t.k=u.k->aE R t=aE R u)(h:∀k,p∣aw k f-aw k g)(φ:Gb.Te->Int):p∣bV R φ f-bV R φ g:=by
 let ψ:Int->Int:=λk=>if h:∃t,t∈f++g/\t.k=k then φ (aE R (Classical.choose h)) else 0
 have hψ:∀t∈f++g,ψ t.k=φ (aE R t):=λt ht=>by have he:∃u,u∈f++g/\u.k=t.k:=⟨t,ht,rfl⟩;show (if h:∃u,u∈f++g/\u.k=t.k then φ (aE R (Classical.choose h)) else 0)=_;rw[dif_pos he];have hs:=Classical.choose_spec he;rw[hi _ _ hs.1 ht hs.2]
 rw[qz R φ ψ f λt ht=>hψ t (by simp[ht]),qz R φ ψ g λt ht=>hψ t (by simp[ht])];exact CF ψ h
def j6(ov pl:Int):Int:=if ov=1 then 80 else 80+40*pl
def cu(o ov:Int)(N R:Nat)(t:Ft):Prop:=Gd o ov N R (j6 ov t.pl) t
theorem CG{ov pl:Int}(h0:0<=pl)(h:pl<40):80<=j6 ov pl/\j6 ov pl<=1640:=by unfold j6;split<;>omega
theorem cu.alk{o ov:Int}{N R:Nat}(x t:Ft)(h:fN x t)(g:cu o ov N R t):cu o ov N R x:=by unfold cu at g⊢;have:=Gd.alk x t h g;rw[h.2.2.2.2.2];exact this
theorem Gd.wide{o ov:Int}{N R:Nat}{Q Q2:Int}{t:Ft}(g:Gd o ov N R Q t)(h:t.a+t.b+t.d<=Q2):Gd o ov N R Q2 t:=⟨g.k,g.a,g.b,g.d,h,g.z,g.pl0,g.pl,g.n1,g.n2⟩
theorem cu.gd{o ov:Int}{N R:Nat}{t:Ft}(hR:R<=40)(g:cu o ov N R t):Gd o ov N R 1640 t:=by have h0:=g.pl0;have h1:=g.pl;have h2:=g.deg;exact Gd.wide g (by have:=CG (ov:=ov) h0 (by omega);omega)
theorem Gd.gdb{o ov:Int}{N R:Nat}{Q:Int}{t:Ft}(g:Gd o ov N R Q t)(hQ:Q<=80):cu o ov N R t:=Gd.wide g (by have:=g.deg;have:=g.pl0;unfold j6;split<;>omega)
theorem oj{o ov:Int}{N R:Nat}{Q:Int}{t:Ft}(h0:0<N)(h3:N<=3)(g:Gd o ov N R Q t):aE R t=aL R t.pl.toNat (aJ N t):=by
 have h1:=g.n1;have h2:=g.n2;have hN:N=1\/N=2\/N=3:=by omega
 rcases hN with rfl|rfl|rfl
 ·have:=h1 (by omega);have:=h2 (by omega);simp[aE,aL,aJ, *]
 ·have:=h2 (by omega);simp[aE,aL,aJ, *]
 ·simp[aE,aL,aJ]
theorem CH{o ov:Int}{N R:Nat}(hx:bj 2 o ov N R\/(o=1\/o=2)/\(ov=1\/ov=2)/\0<N/\N<=3/\R<=40){Q:Int}(hQ:Q<=16000){t u:Ft}(gt:Gd o ov N R Q t)(gu:Gd o ov N R Q u)(h:t.k=u.k):aE R t=aE R u:=by have hx2:(o=1\/o=2)/\(ov=1\/ov=2)/\0<N/\N<=3/\R<=40:=hx.elim (λh=>⟨h.o,h.ov,h.n0,h.n3,h.r⟩) id;obtain⟨ho,hov,h0,h3,hR⟩:=hx2;rw[oj h0 h3 gt,oj h0 h3 gu];have k1:=gt.k;have k2:=gu.k;have a1:=gt.pl0;have a2:=gt.pl;have b1:=gu.pl0;have b2:=gu.pl;rw[<-Int.toNat_of_nonneg a1] at k1;rw[<-Int.toNat_of_nonneg b1] at k2;have:=mQ ho hov h0 h3 (i:=t.pl.toNat) (j:=u.pl.toNat) (by omega) (by omega) (gt.exq h0 h3 hQ).1 (gu.exq h0 h3 hQ).1 (by rw[<-k1,<-k2,h]);rw[this.1,this.2]
theorem qA{o ov:Int}{N R:Nat}(ho:o=1\/o=2)(hov:ov=1\/ov=2)(h0:0<N)(h3:N<=3)(hR:R<=40){Q:Int}(hQ:Q<=16000){t u:Ft}(gt:Gd o ov N R Q t)(gu:Gd o ov N R Q u)(h:t.k<u.k):(Gb.bi o ov).lt (aE R t) (aE R u):=by rw[oj h0 h3 gt,oj h0 h3 gu];have k1:=gt.k;have k2:=gu.k;have a1:=gt.pl0;have a2:=gt.pl;have b1:=gu.pl0;have b2:=gu.pl;rw[<-Int.toNat_of_nonneg a1] at k1;rw[<-Int.toNat_of_nonneg b1] at k2;exact qB ho hov h3 hR (by omega) (by omega) (gt.exq h0 h3 hQ).1 (gu.exq h0 h3 hQ).1 (by rw[<-k1,<-k2];exact h)
theorem vN{m a b a2 b2:Nat}(hb:b<m)(hb2:b2<m)(h:a*m+b=a2*m+b2):a=a2/\b=b2:=by
 have e1:(a*m+b)/m=a:=by rw[Nat.mul_comm,Nat.mul_add_div (by omega),Nat.div_eq_of_lt hb];omega
 have e2:(a2*m+b2)/m=a2:=by rw[Nat.mul_comm,Nat.mul_add_div (by omega),Nat.div_eq_of_lt hb2];omega
 have e:a=a2:=by rw[<-e1,<-e2,h]
 subst e;exact⟨rfl,by omega⟩
def jn(q:Nat):Nat:=81+40*q
def iN:Nat->Nat
 |0=>0
 |q+1=>iN q+jn q*jn q*jn q
theorem ol:∀(d q:Nat),iN q<=iN (q+d)
 |0,_=>He _
 |d+1,q=>Hk (ol d q) (by rw[<-Nat.add_assoc];simp only[iN];omega)
theorem CI{m a b d:Nat}(ha:a<m)(hb:b<m)(hd:d<m):(a*m+b)*m+d<m*m*m:=by
 have h1:a*m+b+1<=m*m:=by have:=Nat.mul_le_mul_right m (show a+1<=m by omega);rw[Nat.add_mul] at this;omega
 have h2:=Nat.mul_le_mul_right m h1;rw[Nat.add_mul] at h2;omega
theorem qC{o ov:Int}{N R:Nat}(hR:R<=40):∀r,Dn r->(∀t∈r,cu o ov N R t)->r.length<=100000000000:=by
 intro r hd hg;let idx:Ft->Nat:=λt=>iN t.pl.toNat+((t.a.toNat*jn t.pl.toNat+t.b.toNat)*jn t.pl.toNat+t.d.toNat);have hbd:∀t∈r,t.a.toNat<jn t.pl.toNat/\t.b.toNat<jn t.pl.toNat/\t.d.toNat<jn t.pl.toNat/\t.pl.toNat<40:=λt ht=>by
  have g:=hg t ht;have h1:=g.a;have h2:=g.b;have h3:=g.d;have h4:=g.deg;have h5:=g.pl0;have h6:=g.pl;have h7:j6 ov t.pl<=80+40*t.pl:=by unfold j6;split<;>omega
  unfold jn;omega
 have hup:∀t∈r,idx t<iN (t.pl.toNat+1):=λt ht=>by obtain⟨a1,a2,a3,_⟩:=hbd t ht;have:=CI a1 a2 a3;simp only[idx,iN];omega
 have hn:(r.map idx).Nodup:=by
  rw[List.nodup_iff_pairwise_ne,List.pairwise_map];refine List.Pairwise.imp_of_mem (R:=λa b:Ft=>b.k<a.k) (fun {a b} ha hb hlt e=>?_) hd;have ga:=hg a ha;have gb:=hg b hb;have hpl:a.pl.toNat=b.pl.toNat:=by
   rcases Nat.lt_trichotomy a.pl.toNat b.pl.toNat with h|h|h
   ·have h1:=hup a ha;obtain⟨q,hq⟩:=Nat.exists_eq_add_of_lt h;have h2:=ol q (a.pl.toNat+1);have h3:iN b.pl.toNat<=idx b:=Nat.le_add_right _ _;have e4:b.pl.toNat=a.pl.toNat+1+q:=by omega
    rw[e4] at h3;omega
   ·exact h
   ·have h1:=hup b hb;obtain⟨q,hq⟩:=Nat.exists_eq_add_of_lt h;have h2:=ol q (b.pl.toNat+1);have h3:iN a.pl.toNat<=idx a:=Nat.le_add_right _ _;have e4:a.pl.toNat=b.pl.toNat+1+q:=by omega
    rw[e4] at h3;omega
  obtain⟨a1,a2,a3,_⟩:=hbd a ha;obtain⟨b1,b2,b3,_⟩:=hbd b hb;simp only[idx] at e;rw[hpl] at e a1 a2 a3;obtain⟨e1,e2⟩:=vN a3 b3 (Nat.add_left_cancel e);obtain⟨e3,e4⟩:=vN a2 b2 e1;have x1:=ga.a;have x2:=ga.b;have x3:=ga.d;have y1:=gb.a;have y2:=gb.b;have y3:=gb.d;have z1:=ga.pl0;have z2:=gb.pl0;have q1:a.a=b.a:=by omega
  have q2:a.b=b.b:=by omega
  have q3:a.d=b.d:=by omega
  have q4:a.pl=b.pl:=by omega
  have e5:aJ N a=aJ N b:=by unfold aJ;rw[q1,q2,q3]
  have k1:=ga.k;have k2:=gb.k;rw[k1,k2,e5,q4] at hlt;omega
 have hb:∀x∈r.map idx,x<100000000000:=λx hx=>by
  obtain⟨t,ht,rfl⟩:=H8.1 hx;have h1:=hup t ht;obtain⟨_,_,_,h2⟩:=hbd t ht;have h3:=ol (40-(t.pl.toNat+1)) (t.pl.toNat+1);have e:t.pl.toNat+1+(40-(t.pl.toNat+1))=40:=by omega
  rw[e] at h3;have h4:iN 40<100000000000:=by decide
  omega
 have:=mR _ _ hn hb;rwa [Ia] at this
def bC(b:Ft):Gb.Mo:=(b.a.toNat,b.b.toNat,b.d.toNat)
structure fM{p o ov:Int}(G:Gb.bw (Gb.bi o ov) p)(N R:Nat)(j:Nat)(L:Ft)(r:List Ft):Prop where
 live:G.live j
 ld:G.ld j=aE R L
 c1:L.c=1
 made:∀φ,p∣bV R φ (L::r)-G.iv j*Gb.ln φ (G.g j)
 dn:Dn (L::r)
 co:∀t∈L::r,0<t.c/\t.c<p
 gd:∀t∈L::r,Gd o ov N R 40 t
theorem CJ{o ov:Int}{N R:Nat}(ho:o=1\/o=2)(hov:ov=1\/ov=2)(h0:0<N)(h3:N<=3)(hR:R<=40){Q:Int}(hQ:Q<=16000){x L:Ft}(gx:Gd o ov N R Q x)(gL:Gd o ov N R Q L)(h:x.k<L.k):(ov=1->x.a+x.b+x.d<=L.a+L.b+L.d)/\(ov=2->L.pl<x.pl\/(x.pl=L.pl/\x.a+x.b+x.d<=L.a+L.b+L.d)):=by
 have hl:Gb.L4 (Gb.dS o ov (aE R x)) (Gb.dS o ov (aE R L)):=qA ho hov h0 h3 hR hQ gx gL h;have a1:=gx.a;have a2:=gx.b;have a3:=gx.d;have a4:=gx.pl0;have a5:=gx.pl;have b1:=gL.a;have b2:=gL.b;have b3:=gL.d;have b4:=gL.pl0;have b5:=gL.pl;unfold Gb.L4 Gb.dS Gb.ie aE at hl;rcases hov with rfl|rfl
 ·simp only[if_true] at hl;exact⟨λ_=>by omega,λh=>by omega⟩
 ·rw[if_neg (by omega),if_neg (by omega)] at hl;simp only at hl;exact⟨λh=>by omega,λ_=>by omega⟩
theorem vO{p:Int}{N:Nat}{t L bt:Ft}(h0:0<N)(h3:N<=3)(ha:bt.a+L.a=t.a)(hb:bt.b+L.b=t.b)(hd:bt.d+L.d=t.d):aJ N t=ah (·+·) (aJ N bt) (aJ N L):=by
 have hN:N=1\/N=2\/N=3:=by omega
 rcases hN with rfl|rfl|rfl<;>simp[aJ,ah]<;>omega
theorem om{N:Nat}(h3:N<=3)(t:Ft):(aJ N t).length=N:=by unfold aJ;rw[List.length_take];simp;omega
structure gQ(N:Nat)(t L bt:Ft):Prop where
 pl:L.pl=t.pl
 a:bt.a+L.a=t.a
 b:bt.b+L.b=t.b
 d:bt.d+L.d=t.d
 a0:0<=bt.a
 b0:0<=bt.b
 d0:0<=bt.d
 z:bt.z=0
 n1:N<=1->bt.b=0
 n2:N<=2->bt.d=0
theorem gQ.key{o ov:Int}{N R:Nat}{Q1 Q2:Int}{t L bt:Ft}(h:gQ N t L bt)(h0:0<N)(h3:N<=3)(gt:Gd o ov N R Q1 t)(gL:Gd o ov N R Q2 L):L.k+a8 o (aJ N bt)=t.k:=by rw[gt.k,gL.k,vO (p:=0) h0 h3 h.a h.b h.d,<-h.pl];unfold aK;rw[qD h3 (om h3 _) (om h3 _)];omega
theorem gQ.te{o ov:Int}{N R:Nat}{Q2:Int}{t L bt:Ft}(h:gQ N t L bt)(gL:Gd o ov N R Q2 L):Gb.bB (bC bt) (aE R L)=aE R t:=by have h1:=h.a;have h2:=h.b;have h3:=h.d;have h4:=h.a0;have h5:=h.b0;have h6:=h.d0;have g1:=gL.a;have g2:=gL.b;have g3:=gL.d;unfold Gb.bB bC aE;rw[h.pl];simp only[Prod.mk.injEq,true_and];omega
theorem oo{p o ov:Int}{N R:Nat}(hx:bj p o ov N R){t L bt:Ft}{r:List Ft}{more c:Int}(gt:cu o ov N R t)(hd:Dn (L::r))(hc:∀x∈L::r,0<x.c/\x.c<p)(hg:∀x∈L::r,Gd o ov N R 40 x)(h:gQ N t L bt)(bc:0<c/\c<p)(hm:more=a8 o (aJ N bt)):aO p (λu=>cu o ov N R u/\u.k<t.k) [r.map (bh p more {bt with c:=c})]:=by
 have gL:=hg L (by simp);have hk:=h.key hx.n0 hx.n3 gt gL;have e1:=h.a;have e2:=h.b;have e3:=h.d;have e4:=h.a0;have e5:=h.b0;have e6:=h.d0;refine⟨λf hf=>?_,λf hf x ht=>?_,λf hf x ht=>?_⟩<;>(rw[Hw] at hf;subst hf)
 ·unfold Dn;rw[List.pairwise_map];exact hd.tail.imp fun {a b} h=>by simp only[bh];omega
 ·obtain⟨x,hx2,rfl⟩:=H8.1 ht;have h1:=hc x (by simp[hx2]);have:=lH hx.pr (show 1<=x.c by omega) h1.2 (show 1<=c by omega) bc.2;simp only[bh];omega
 ·obtain⟨x,hx2,rfl⟩:=H8.1 ht;have gx:=hg x (by simp[hx2]);have hlt:=hd.head x hx2;obtain⟨d1,d2⟩:=CJ hx.o hx.ov hx.n0 hx.n3 hx.r (Q:=40) (by omega) gx gL hlt;obtain⟨k1,a1,b1',c1,s1,z1,p1,q1,n1,n2⟩:=gx;have hex:aJ N (bh p more {bt with c:=c} x)=ah (·+·) (aJ N bt) (aJ N x):=vO (p:=p) hx.n0 hx.n3 (by simp only[bh];omega) (by simp only[bh];omega) (by simp only[bh];omega)
  have gdeg:=gt.deg;have t1:=gt.pl0;have t2:=gt.pl;have gL1:=gL.a;have gL2:=gL.b;have gL3:=gL.d;have hpl:=h.pl;refine⟨⟨?_,by simp only[bh];omega,by simp only[bh];omega,by simp only[bh];omega,?_,by simp only[bh];have:=h.z;omega,by simp only[bh];exact p1,by simp only[bh];exact q1,λh9=>by simp only[bh];have:=n1 h9;have:=h.n1 h9;omega,λh9=>by simp only[bh];have:=n2 h9;have:=h.n2 h9;omega⟩,by simp only[bh];omega⟩
  ·rw[hex];show x.k+more=aK o ov x.pl _;unfold aK;rw[qD hx.n3 (om hx.n3 _) (om hx.n3 _),k1,hm];unfold aK;omega
  ·have hov:=hx.ov;simp only[bh];unfold j6 at gdeg⊢;rcases hov with rfl|rfl
   ·have:=d1 rfl;simp only[if_true] at gdeg⊢;omega
   ·have:=d2 rfl;rw[if_neg (by omega)] at gdeg⊢;omega
theorem oq{p:Int}{R:Nat}{more c:Int}{bt:Ft}(a0:0<=bt.a)(b0:0<=bt.b)(d0:0<=bt.d)(φ:Gb.Te->Int):∀fs:List Ft,(∀t∈fs,0<=t.a/\0<=t.b/\0<=t.d)->p∣bV R φ (fs.map (bh p more {bt with c:=c}))-c*bV R (λs=>φ (Gb.bB (bC bt) s)) fs
 |[],_=>⟨0,by simp[og]⟩
 |t::fs,h=>by
  obtain⟨x,hx⟩:=oq (p:=p) (R:=R) (more:=more) (c:=c) a0 b0 d0 φ fs λu hu=>h u (by simp[hu]);rw[List.map_cons,iq,iq];have e:aE R (bh p more {bt with c:=c} t)=Gb.bB (bC bt) (aE R t):=by have:=h t (by simp);unfold aE Gb.bB bC bh;simp only[Prod.mk.injEq,true_and];omega
  rw[e];obtain⟨y,hy⟩:=gC p (t.c*c);show p∣(t.c*c%p)*φ (Gb.bB (bC bt) (aE R t))+_-_;generalize φ (Gb.bB (bC bt) (aE R t))=z at*;generalize t.c*c%p=q at*;have e2:q=t.c*c+p*y:=by omega
  exact⟨y*z+x,by rw[e2];grind⟩
def lJ(R:Nat)(φ:Gb.Te->Int):Option Ft->Int
 |none=>0
 |some t=>t.c*φ (aE R t)
structure LI{p o ov:Int}(G:Gb.bw (Gb.bi o ov) p)(N R:Nat)(X:Gb.Fn Gb.Te)(P:Ft)(r:Option Ft)(rows:List (List Ft)):Prop where
 ok:aO p (λu=>cu o ov N R u/\u.k<P.k) rows
 made:Gb.Vb G (λs=>(Gb.bi o ov).lt s (aE R P)) λφ=>X φ-(lJ R φ r+bV R φ rows.flatten)
 tr:∀t,r=some t->cu o ov N R t/\0<t.c/\t.c<p/\t.k<P.k/\∀r∈rows,∀u∈r,u.k<t.k
theorem ou{p o ov:Int}{N R:Nat}(hx:bj p o ov N R){f:List Ft}(h:∀t∈f,cu o ov N R t):∀t u,t∈f->u∈f->t.k=u.k->aE R t=aE R u:=λt u ht hu e=>CH (Or.inr ⟨hx.o,hx.ov,hx.n0,hx.n3,hx.r⟩) (Q:=1640) (by omega) ((h t ht).gd hx.r) ((h u hu).gd hx.r) e
theorem lK{p:Int}{G:Ft->Prop}{rows:List (List Ft)}(h:aO p G rows):∀t∈rows.flatten,G t:=λt ht=>by obtain⟨r,h1,h2⟩:=List.mem_flatten.1 ht;exact h.gd r h1 t h2
theorem CK{p:Int}{rows rows2:List (List Ft)}{r:Option Ft}(hn:Nx p rows r rows2):(∀f∈rows,Dn f)->r=none->∀f∈rows2,f=[]:=by
 induction hn using Nx.ind with
 |stop rows hg=>exact λhd _=>vP hd hg
 |hit rows t hg hne=>exact λ_ h=>by simp at h
 |go rows rows2 t r hg hz hn ih=>intro hd he;refine ih (λf hf=>?_) he;obtain⟨f0,h0,rfl⟩:=H8.1 hf;exact qE (hd f0 h0)
theorem vQ{p o ov:Int}{N R:Nat}(hx:bj p o ov N R){G:Gb.bw (Gb.bi o ov) p}{X:Gb.Fn Gb.Te}{P:Ft}{rows rows2:List (List Ft)}{r:Option Ft}{K:Int}(h:LI G N R X P none rows)(hK:∀f∈rows,∀u∈f,u.k<K)(hn:Nx p rows r rows2):LI G N R X P r rows2/\rows2.length=rows.length/\(r=none->Gb.Vb G (λs=>(Gb.bi o ov).lt s (aE R P)) X)/\∀t,r=some t->t.k<K:=by
 obtain⟨hp1,hp2⟩:=dU hx.pr;have hok:aO p (λu=>cu o ov N R u/\u.k<P.k/\u.k<K) rows:=⟨h.ok.dn,h.ok.co,λf hf t ht=>⟨(h.ok.gd f hf t ht).1,(h.ok.gd f hf t ht).2,hK f hf t ht⟩⟩;have hsp:=Nx.spec hp1 (G:=λu=>cu o ov N R u/\u.k<P.k/\u.k<K) (λx t ha hg=>⟨cu.alk x t ha hg.1,by rw[ha.1];exact hg.2⟩) hn hok;obtain⟨s1,s2,s3⟩:=hsp;have ok2:aO p (λu=>cu o ov N R u/\u.k<P.k) rows2:=⟨s1.dn,s1.co,λf hf t ht=>⟨(s1.gd f hf t ht).1,(s1.gd f hf t ht).2.1⟩⟩;cases r with
 |none=>
  have hz:∀φ,p∣bV R φ rows.flatten:=λφ=>by have h9:=oh (p:=p) (R:=R) (f:=rows.flatten) (g:=[]) (by rw[List.append_nil];exact ou hx λt ht=>(lK h.ok t ht).1) (λk=>by simpa [aw] using s3 k) φ;simpa [og] using h9
  have hz2:Gb.Vb G (λs=>(Gb.bi o ov).lt s (aE R P)) X:=h.made.congr λφ=>by obtain⟨z,e⟩:=hz φ;refine⟨z,?_⟩;simp only[lJ];omega
  have e2:rows2.flatten=[]:=by rw[List.flatten_eq_nil_iff];exact CK hn h.ok.dn rfl
  refine⟨⟨ok2,?_,λt ht=>by simp at ht⟩,s2,λ_=>hz2,λt ht=>by simp at ht⟩;rw[e2];exact hz2.congr λφ=>⟨0,by simp[lJ,og]⟩
 |some t=>
  obtain⟨g,c0,c1,hlt,hc⟩:=s3;refine⟨⟨ok2,h.made.congr λφ=>?_,λu hu=>?_⟩,s2,λh=>by simp at h,λu hu=>?_⟩
  ·have h9:=oh (p:=p) (R:=R) (f:=rows.flatten) (g:=t::rows2.flatten) (ou hx λu hu=>by
    rcases Hv.1 hu with h1|h1
    ·exact(lK h.ok u h1).1
    ·rcases List.mem_cons.1 h1 with rfl|h1
     ·exact g.1
     ·exact(lK ok2 u h1).1) (λk=>by
    obtain⟨z,hz⟩:=hc k;refine⟨z,?_⟩;simp only[aw];by_cases hk:k=t.k
    ·rw[if_pos hk] at hz;rw[if_pos hk.symm];omega
    ·rw[if_neg hk] at hz;rw[if_neg (λe=>hk e.symm)];omega) φ
   rw[iq] at h9;obtain⟨z,hz⟩:=h9;refine⟨z,?_⟩;simp only[lJ];omega
  ·cases hu;exact⟨g.1,c0,c1,g.2.1,hlt⟩
  ·cases hu;exact g.2.2
theorem qF{p o ov:Int}{G:Gb.bw (Gb.bi o ov) p}{N R j:Nat}{L:Ft}{r:List Ft}(hm:fM G N R j L r)(a:Gb.Mo)(φ:Gb.Te->Int):p∣φ (Gb.bB a (aE R L))+bV R (λs=>φ (Gb.bB a s)) r-G.iv j*Gb.ln (λs=>φ (Gb.bB a s)) (G.g j):=by have h:=hm.made λs=>φ (Gb.bB a s);rw[iq,hm.c1,Int.one_mul] at h;exact h
theorem CL{p o ov:Int}{N R:Nat}(hx:bj p o ov N R){G:Gb.bw (Gb.bi o ov) p}{X:Gb.Fn Gb.Te}{P t:Ft}{rows rows':List (List Ft)}{j:Nat}{L bt:Ft}{r:List Ft}{c:Int}(h:LI G N R X P (some t) rows)(hm:fM G N R j L r)(hb:gQ N t L bt)(hP:cu o ov N R P)(hc:p∣c+t.c)(hok:aO p (λu=>cu o ov N R u/\u.k<t.k) rows')(hs:aO p (λu=>cu o ov N R u/\u.k<t.k) [r.map (bh p (a8 o (aJ N bt)) {bt with c:=c})])(hcnt:∀k,p∣aw k rows'.flatten-(aw k rows.flatten+aw k (r.map (bh p (a8 o (aJ N bt)) {bt with c:=c})))):LI G N R X P none rows'/\∀f∈rows',∀u∈f,u.k<t.k:=by
 obtain⟨gt,_,_,hlt,_⟩:=h.tr t rfl;have gL:=hm.gd L (by simp);have hte:=hb.te gL;refine⟨⟨⟨hok.dn,hok.co,λf hf u hu=>⟨(hok.gd f hf u hu).1,by have:=(hok.gd f hf u hu).2;omega⟩⟩,?_,λu hu=>by simp at hu⟩,λf hf u hu=>(hok.gd f hf u hu).2⟩;have hone:Gb.Vb G (λs=>(Gb.bi o ov).lt s (aE R P)) λφ=>t.c*(G.iv j*Gb.ln (λs=>φ (Gb.bB (bC bt) s)) (G.g j)):=by
  refine⟨[(t.c*G.iv j,bC bt,j)],λx hx2=>?_,λφ=>⟨0,?_⟩⟩
  ·rw[Hw] at hx2;rw[hx2];refine⟨hm.live,?_⟩;show (Gb.bi o ov).lt (Gb.bB (bC bt) (G.ld j)) _;rw[hm.ld,hte];exact qA hx.o hx.ov hx.n0 hx.n3 hx.r (Q:=1640) (by omega) (gt.gd hx.r) (hP.gd hx.r) hlt
  ·have e:Gb.ln (λs=>φ ((Gb.bi o ov).act (bC bt) s)) (G.g j)=Gb.ln (λs=>φ (Gb.bB (bC bt) s)) (G.g j):=rfl;simp only[Gb.ev];rw[e,Int.mul_assoc];omega
 refine(Gb.Vb.add h.made hone).congr λφ=>?_;obtain⟨z1,e1⟩:=qF hm (bC bt) φ;rw[hte] at e1;have h2:=oh (p:=p) (R:=R) (f:=rows'.flatten) (g:=rows.flatten++r.map (bh p (a8 o (aJ N bt)) {bt with c:=c})) (ou hx λu hu=>by
  rcases Hv.1 hu with h1|h1
  ·exact(lK hok u h1).1
  ·rcases Hv.1 h1 with h1|h1
   ·exact(lK h.ok u h1).1
   ·exact(hs.gd _ (List.mem_singleton_self _) u h1).1) (λk=>by rw[iM];exact hcnt k) φ
 rw[qy] at h2;obtain⟨z2,e2⟩:=h2;obtain⟨z3,e3⟩:=oq (p:=p) (R:=R) (more:=a8 o (aJ N bt)) (c:=c) hb.a0 hb.b0 hb.d0 φ r λu hu=>⟨(hm.gd u (by simp[hu])).a,(hm.gd u (by simp[hu])).b,(hm.gd u (by simp[hu])).d⟩;obtain⟨z4,e4⟩:=hc;simp only[lJ];generalize bV R φ rows'.flatten=A at*;generalize bV R φ rows.flatten=B at*;generalize bV R φ (r.map (bh p (a8 o (aJ N bt)) {bt with c:=c}))=C at*;generalize bV R (λs=>φ (Gb.bB (bC bt) s)) r=D at*;generalize G.iv j*Gb.ln (λs=>φ (Gb.bB (bC bt) s)) (G.g j)=E at*;generalize φ (aE R t)=F at*;have e5:c=p*z4-t.c:=by omega
 have e6:E=F+D-p*z1:=by omega
 refine⟨-z2-z3-z4*D+t.c*z1,?_⟩;rw[e6];have e7:C=(p*z4-t.c)*D+p*z3:=by rw[<-e5];omega
 have e8:A=B+C+p*z2:=by omega
 rw[e8,e7];grind
def kL{p o ov:Int}(G:Gb.bw (Gb.bi o ov) p)(i:Nat)(a:Gb.Mo)(j:Nat)(b:Gb.Mo):Gb.Fn Gb.Te:=λφ=>Gb.Hm G i a φ-Gb.Hm G j b φ
theorem CM{p o ov:Int}{N R:Nat}(hx:bj p o ov N R){G:Gb.bw (Gb.bi o ov) p}{P L1 L2 b1 b2:Ft}{r1 r2:List Ft}{j1 j2:Nat}{rows:List (List Ft)}{c:Int}(m1:fM G N R j1 L1 r1)(m2:fM G N R j2 L2 r2)(h1:gQ N P L1 b1)(h2:gQ N P L2 b2)(hc:p∣c+1)(hok:aO p (λu=>cu o ov N R u/\u.k<P.k) rows)(hs1:aO p (λu=>cu o ov N R u/\u.k<P.k) [r1.map (bh p (a8 o (aJ N b1)) {b1 with c:=1})])(hs2:aO p (λu=>cu o ov N R u/\u.k<P.k) [r2.map (bh p (a8 o (aJ N b2)) {b2 with c:=c})])(hcnt:∀k,p∣aw k rows.flatten-(aw k (r1.map (bh p (a8 o (aJ N b1)) {b1 with c:=1}))+aw k (r2.map (bh p (a8 o (aJ N b2)) {b2 with c:=c})))):LI G N R (kL G j1 (bC b1) j2 (bC b2)) P none rows:=by
 refine⟨hok,Gb.Vb.zero λφ=>?_,λu hu=>by simp at hu⟩;obtain⟨z1,e1⟩:=qF m1 (bC b1) φ;obtain⟨z2,e2⟩:=qF m2 (bC b2) φ;rw[h1.te (m1.gd L1 (by simp))] at e1;rw[h2.te (m2.gd L2 (by simp))] at e2;have h3:=oh (p:=p) (R:=R) (f:=rows.flatten) (g:=r1.map (bh p (a8 o (aJ N b1)) {b1 with c:=1})++r2.map (bh p (a8 o (aJ N b2)) {b2 with c:=c})) (ou hx λu hu=>by
  rcases Hv.1 hu with h1|h1
  ·exact(lK hok u h1).1
  ·rcases Hv.1 h1 with h1|h1
   ·exact(hs1.gd _ (List.mem_singleton_self _) u h1).1
   ·exact(hs2.gd _ (List.mem_singleton_self _) u h1).1) (λk=>by rw[iM];exact hcnt k) φ
 rw[qy] at h3;obtain⟨z3,e3⟩:=h3;obtain⟨z4,e4⟩:=oq (p:=p) (R:=R) (more:=a8 o (aJ N b1)) (c:=1) h1.a0 h1.b0 h1.d0 φ r1 λu hu=>⟨(m1.gd u (by simp[hu])).a,(m1.gd u (by simp[hu])).b,(m1.gd u (by simp[hu])).d⟩;obtain⟨z5,e5⟩:=oq (p:=p) (R:=R) (more:=a8 o (aJ N b2)) (c:=c) h2.a0 h2.b0 h2.d0 φ r2 λu hu=>⟨(m2.gd u (by simp[hu])).a,(m2.gd u (by simp[hu])).b,(m2.gd u (by simp[hu])).d⟩;obtain⟨z6,e6⟩:=hc;have q1:Gb.Hm G j1 (bC b1) φ=G.iv j1*Gb.ln (λs=>φ (Gb.bB (bC b1) s)) (G.g j1):=rfl;have q2:Gb.Hm G j2 (bC b2) φ=G.iv j2*Gb.ln (λs=>φ (Gb.bB (bC b2) s)) (G.g j2):=rfl;show p∣Gb.Hm G j1 (bC b1) φ-Gb.Hm G j2 (bC b2) φ-(0+_);rw[q1,q2];generalize G.iv j1*Gb.ln (λs=>φ (Gb.bB (bC b1) s)) (G.g j1)=A at*;generalize G.iv j2*Gb.ln (λs=>φ (Gb.bB (bC b2) s)) (G.g j2)=B at*;generalize bV R φ rows.flatten=C at*;generalize bV R φ (r1.map (bh p (a8 o (aJ N b1)) {b1 with c:=1}))=D at*;generalize bV R φ (r2.map (bh p (a8 o (aJ N b2)) {b2 with c:=c}))=E at*;generalize bV R (λs=>φ (Gb.bB (bC b1) s)) r1=F1 at*;generalize bV R (λs=>φ (Gb.bB (bC b2) s)) r2=F2 at*;have e7:c=p*z6-1:=by omega
 have e8:E=(p*z6-1)*F2+p*z5:=by rw[<-e7];omega
 refine⟨-z1+z2-z3-z4-z5-z6*F2,?_⟩;have e9:C=D+E+p*z3:=by omega
 have e10:D=F1+p*z4:=by omega
 have e11:A=φ (aE R P)+F1-p*z1:=by omega
 have e12:B=φ (aE R P)+F2-p*z2:=by omega
 rw[e9,e10,e11,e12,e8];grind
theorem B6{p o ov:Int}{N R:Nat}{G:Gb.bw (Gb.bi o ov) p}{L1 L2:Ft}{r1 r2:List Ft}{j1 j2:Nat}(m1:fM G N R j1 L1 r1)(m2:fM G N R j2 L2 r2)(a b:Gb.Mo):Gb.Vb G (λ_=>True) (kL G j1 a j2 b):=by
 refine⟨[(G.iv j1,a,j1),(-G.iv j2,b,j2)],λx hx=>?_,λφ=>⟨0,?_⟩⟩
 ·rcases List.mem_cons.1 hx with rfl|hx
  ·exact⟨m1.live,trivial⟩
  ·rw[Hw] at hx;rw[hx];exact⟨m2.live,trivial⟩
 ·simp only[Gb.ev,kL,Gb.Hm,Int.neg_mul];omega
theorem CN{p o ov:Int}{N R:Nat}{G:Gb.bw (Gb.bi o ov) p}{P L1 b1:Ft}{r1:List Ft}{j1 j2:Nat}{b:Gb.Mo}(m1:fM G N R j1 L1 r1)(h1:gQ N P L1 b1)(h:Gb.Vb G (λs=>(Gb.bi o ov).lt s (aE R P)) (kL G j1 (bC b1) j2 b)):Gb.Rl G j1 (bC b1) j2 b:=by
 unfold Gb.Rl;have e:(Gb.bi o ov).act (bC b1) (G.ld j1)=aE R P:=by rw[m1.ld];exact h1.te (m1.gd L1 (by simp))
 rw[e];exact h
theorem Co{p o ov:Int}{N R:Nat}(hx:bj p o ov N R){G:Gb.bw (Gb.bi o ov) p}{X:Gb.Fn Gb.Te}{P t:Ft}{rows:List (List Ft)}(h:LI G N R X P (some t) rows)(hA:Gb.da G)(hX:Gb.Vb G (λ_=>True) X)(hn:∀j,G.live j->¬Gb.bP.dv (G.ld j) (aE R t)):False:=by
 obtain⟨gt,c0,c1,hlt,hrow⟩:=h.tr t rfl;have hY:Gb.Vb G (λ_=>True) λφ=>t.c*φ (aE R t)+bV R φ rows.flatten:=(Gb.Vb.add hX (Gb.Vb.scl (-1) (h.made.mono λ_ _=>trivial))).congr λφ=>⟨0,by simp only[lJ];omega⟩;have hlow:∀u∈rows.flatten,(Gb.bi o ov).lt (aE R u) (aE R t):=λu hu=>by obtain⟨f,h1,h2⟩:=List.mem_flatten.1 hu;exact qA hx.o hx.ov hx.n0 hx.n3 hx.r (Q:=1640) (by omega) ((h.ok.gd f h1 u h2).1.gd hx.r) (gt.gd hx.r) (hrow f h1 u h2)
 have htop:¬p∣t.c*Gb.dl (aE R t) (aE R t)+bV R (Gb.dl (aE R t)) rows.flatten:=λhd=>by
  have e1:bV R (Gb.dl (aE R t)) rows.flatten=0:=Gb.kt λx hx2=>by obtain⟨u,hu,rfl⟩:=H8.1 hx2;unfold Gb.dl;rw[if_neg];intro e;have:=hlow u hu;simp only at e;rw[e] at this;exact(Gb.bi o ov).irr _ this
  have e2:Gb.dl (aE R t) (aE R t)=1:=by unfold Gb.dl;rw[if_pos rfl]
  rw[e1,e2] at hd;exact qG (a:=t.c) (by simpa using hd) (by omega) c1
 rcases vR hY with hz|⟨T,hT⟩
 ·exact htop (hz _)
 ·rcases Gb.tA hA T _ hT with hz|⟨i,a,s,hlive,hact,hns,hup⟩
  ·exact htop (hz _)
  ·by_cases hs:s=aE R t
   ·exact hn i hlive ((Gb.pM o ov _ _).2 ⟨a,by rw[hact,hs]⟩)
   ·by_cases hm:∃u∈rows.flatten,aE R u=s
    ·obtain⟨u,hu,e⟩:=hm;have:=hlow u hu;rw[e] at this;exact htop (hup _ this)
    ·apply hns;have e1:bV R (Gb.dl s) rows.flatten=0:=Gb.kt λx hx2=>by obtain⟨u,hu,rfl⟩:=H8.1 hx2;unfold Gb.dl;rw[if_neg];intro e;exact hm ⟨u,hu,e⟩
     have e2:Gb.dl s (aE R t)=0:=by unfold Gb.dl;rw[if_neg λe=>hs e.symm]
     show p∣t.c*Gb.dl s (aE R t)+bV R (Gb.dl s) rows.flatten;rw[e1,e2];exact⟨0,by simp⟩
end Go.Proofs.YtglijodcbdcngaaGreat
