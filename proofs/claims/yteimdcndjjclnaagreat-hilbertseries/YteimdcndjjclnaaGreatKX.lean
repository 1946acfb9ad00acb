/- Does a sum leave anything, divided by the members? -/
import Derived.Test.YteimdcndjjclnaaGreatKU
import Derived.Test.YteimdcndjjclnaaGreatEB
set_option maxHeartbeats 1000000
namespace Go.Proofs.YteimdcndjjclnaaGreat
set_option linter.all false
open Go.Proofs.Tryz Go.RowKit
def ox(ab:Nat):Value:=.slice (some ⟨ab,0,none⟩) 1 1
theorem Gd.kb{o ov:Int}{N R:Nat}{Q:Int}{t:Ft}(ho:o=1\/o=2)(h0:0<N)(h3:N<=3)(hR:R<=40)(hQ:Q<=16000)(g:Gd o ov N R Q t):0<=t.k/\t.k<1000000000000000000:=by have h:=tS ho h0 h3 (g.exq h0 h3 hQ).1;have h4:=g.pl0;have h5:=g.pl;rw[g.k];unfold eF ef;split<;>omega
theorem Gd.fok{p o ov:Int}{N R:Nat}{Q:Int}{t:Ft}(ho:o=1\/o=2)(h0:0<N)(h3:N<=3)(hR:R<=40)(hQ:Q<=16000)(g:Gd o ov N R Q t)(hc:0<=t.c/\t.c<p):je p t:=by have hk:=g.kb ho h0 h3 hR hQ;have h4:=g.pl0;have h5:=g.pl;have h6:=g.deg;have h7:=g.a;have h8:=g.b;have h9:=g.d;have h10:=g.z;exact⟨by omega,by omega,by omega,by omega,by omega,by omega,hc⟩
def dR(dg:Nat->Int)(R i:Nat):Nat:=(dg (R-1-i)).toNat
def kK(dg:Nat->Int)(pl:Int)(xs:List Int):Int:=255-pl+dg pl.toNat*68719476736+bA 1 xs
structure aP(p:Int)(dg:Nat->Int)(N R:Nat):Prop where
 pr:bm p=0
 n0:0<N
 n3:N<=3
 r:R<=3
 dg:∀i,i<R->0<=dg i/\dg i<=6
structure aM(dg:Nat->Int)(N R:Nat)(D:Int)(t:Ft):Prop where
 k:t.k=kK dg t.pl (aE N t)
 a:0<=t.a
 b:0<=t.b
 d:0<=t.d
 deg:t.a+t.b+t.d+dg t.pl.toNat=D
 z:t.z=0
 pl0:0<=t.pl
 pl:t.pl<R
 n1:N<=1->t.b=0
 n2:N<=2->t.d=0
theorem aM.alk{dg:Nat->Int}{N R:Nat}{D:Int}(x t:Ft)(h:f9 x t)(g:aM dg N R D t):aM dg N R D x:=by
 obtain⟨h1,h2,h3,h4,h5,h6⟩:=h;have e:aE N x=aE N t:=by unfold aE;rw[h2,h3,h4]
 exact⟨by rw[h1,e,h6];exact g.k,by rw[h2];exact g.a,by rw[h3];exact g.b,by rw[h4];exact g.d,by rw[h2,h3,h4,h6];exact g.deg,by rw[h5];exact g.z,by rw[h6];exact g.pl0,by rw[h6];exact g.pl,λh=>by rw[h3];exact g.n1 h,λh=>by rw[h4];exact g.n2 h⟩
theorem GD{N:Nat}{t:Ft}(h0:0<N)(h3:N<=3)(n1:N<=1->t.b=0)(n2:N<=2->t.d=0):bA 1 (aE N t)=(t.a+t.b+t.d)*68719476736-t.d*4194304-t.b*256:=by
 have hN:N=1\/N=2\/N=3:=by omega
 rcases hN with rfl|rfl|rfl
 .have:=n1 (by omega);have:=n2 (by omega);simp[aE,bA,W0];omega
 .have:=n2 (by omega);simp[aE,bA,W0,W1];omega
 .simp[aE,bA,W0,W1,W2];omega
theorem aM.lin{dg:Nat->Int}{N R:Nat}{D:Int}{t:Ft}(h0:0<N)(h3:N<=3)(g:aM dg N R D t):t.k=D*68719476736-t.d*4194304-t.b*256+255-t.pl:=by have h:=g.deg;rw[g.k];unfold kK;rw[GD h0 h3 g.n1 g.n2];omega
theorem aM.bd{p:Int}{dg:Nat->Int}{N R:Nat}(hx:aP p dg N R){D:Int}{t:Ft}(g:aM dg N R D t):t.a+t.b+t.d<=D/\0<=D/\t.pl<3:=by have h1:=hx.dg t.pl.toNat (by have:=g.pl;have:=g.pl0;omega);have h2:=g.deg;have h3:=g.a;have h4:=g.b;have h5:=g.d;have h6:=g.pl;have:=hx.r;omega
theorem tT{D E b d b2 d2 pl pl2 k k2:Int}(e1:k=D*68719476736-d*4194304-b*256+255-pl)(e2:k2=E*68719476736-d2*4194304-b2*256+255-pl2)(hb:0<=b/\b<=16000)(hd:0<=d/\d<=16000)(hp:0<=pl/\pl<200)(hb2:0<=b2/\b2<=16000)(hd2:0<=d2/\d2<=16000)(hp2:0<=pl2/\pl2<200)(h:k<=k2):D<E\/(D=E/\(d2<d\/(d2=d/\(b2<b\/(b2=b/\pl2<=pl))))):=by
 obtain⟨x,hx⟩:∃x,x=b*256-255+pl:=⟨_,rfl⟩;obtain⟨y,hy⟩:∃y,y=b2*256-255+pl2:=⟨_,rfl⟩;have bx:-255<=x/\x<=4100000:=by omega
 have by_:-255<=y/\y<=4100000:=by omega
 have e1:k=D*68719476736-d*4194304-x:=by omega
 have e2:k2=E*68719476736-d2*4194304-y:=by omega
 have hDE:D<=E:=by omega
 rcases Int.lt_or_eq_of_le hDE with h1|h1
 .exact L0 h1
 .subst h1;have hd3:d2<=d:=by omega
  rcases Int.lt_or_eq_of_le hd3 with h2|h2
  .exact L3 ⟨rfl,L0 h2⟩
  .subst h2;have hxy:y<=x:=by omega
   refine L3 ⟨rfl,L3 ⟨rfl,?_⟩⟩;omega
theorem yo{D b d b2 d2 pl pl2 k k2:Int}(e1:k=D*68719476736-d*4194304-b*256+255-pl)(e2:k2=D*68719476736-d2*4194304-b2*256+255-pl2)(hb:0<=b/\b<=16000)(hd:0<=d/\d<=16000)(hp:0<=pl/\pl<200)(hb2:0<=b2/\b2<=16000)(hd2:0<=d2/\d2<=16000)(hp2:0<=pl2/\pl2<200)(h:k=k2):d=d2/\b=b2/\pl=pl2:=by have h1:=tT e1 e2 hb hd hp hb2 hd2 hp2 (by omega);have h2:=tT e2 e1 hb2 hd2 hp2 hb hd hp (by omega);clear e1 e2 h hb hd hp hb2 hd2 hp2;omega
theorem mw{p:Int}{dg:Nat->Int}{N R:Nat}(hx:aP p dg N R){D:Int}(hD:D<=16000){t u:Ft}(gt:aM dg N R D t)(gu:aM dg N R D u)(h:t.k<u.k):(Gb.aD (dR dg R)).lt (ag R t) (ag R u):=by
 have b1:=gt.bd hx;have b2:=gu.bd hx;have a1:=gt.a;have a2:=gt.b;have a3:=gt.d;have a4:=gt.pl0;have a5:=gt.pl;have a6:=gt.deg;have c1:=gu.a;have c2:=gu.b;have c3:=gu.d;have c4:=gu.pl0;have c5:=gu.pl;have c6:=gu.deg;have l1:=gt.lin hx.n0 hx.n3;have l2:=gu.lin hx.n0 hx.n3;have hk:=tT l1 l2 (by omega) (by omega) (by omega) (by omega) (by omega) (by omega) (by omega);have g1:=hx.dg t.pl.toNat (by omega);have g2:=hx.dg u.pl.toNat (by omega);have hr:=hx.r;show Gb.L4 _ _;have e1:dR dg R (R-1-t.pl.toNat)=(dg t.pl.toNat).toNat:=by unfold dR;rw[show R-1-(R-1-t.pl.toNat)=t.pl.toNat by omega]
 have e2:dR dg R (R-1-u.pl.toNat)=(dg u.pl.toNat).toNat:=by unfold dR;rw[show R-1-(R-1-u.pl.toNat)=u.pl.toNat by omega]
 unfold Gb.L4 Gb.gz Gb.bK ag;simp only;rw[e1,e2];clear l1 l2 e1 e2;generalize dg t.pl.toNat=x at*;generalize dg u.pl.toNat=y at*;rcases hk with hk|⟨_,hk|⟨h1,hk|⟨h2,h3⟩⟩⟩
 .omega
 .refine L3 ⟨by omega,L0 (by omega)⟩
 .refine L3 ⟨by omega,L3 ⟨by omega,L0 (by omega)⟩⟩
 .refine L3 ⟨by omega,L3 ⟨by omega,L3 ⟨by omega,?_⟩⟩⟩;have hne:t.pl≠u.pl:=λe=>by
   have:t.k=u.k:=by rw[gt.lin hx.n0 hx.n3,gu.lin hx.n0 hx.n3,e,h1,h2]
   omega
  omega
theorem GF{p:Int}{dg:Nat->Int}{N R:Nat}(hx:aP p dg N R){D:Int}(hD:D<=16000){t u:Ft}(gt:aM dg N R D t)(gu:aM dg N R D u)(h:t.k=u.k):ag R t=ag R u:=by
 have b1:=gt.bd hx;have b2:=gu.bd hx;have a1:=gt.a;have a2:=gt.b;have a3:=gt.d;have a4:=gt.pl0;have c1:=gu.a;have c2:=gu.b;have c3:=gu.d;have c4:=gu.pl0;obtain⟨hd,hb,hpl⟩:=yo (gt.lin hx.n0 hx.n3) (gu.lin hx.n0 hx.n3) (by omega) (by omega) (by omega) (by omega) (by omega) (by omega) h;have a6:=gt.deg;have c6:=gu.deg;rw[hpl] at a6;have ha:t.a=u.a:=by omega
 unfold ag;rw[ha,hb,hd,hpl]
def aL(dg:Nat->Int)(R:Nat)(s:Gb.Te):Nat:=dR dg R s.1+Gb.bK s
theorem aM.ts{p:Int}{dg:Nat->Int}{N R:Nat}(hx:aP p dg N R){D:Int}{t:Ft}(g:aM dg N R D t):aL dg R (ag R t)=D.toNat/\(ag R t).1<R:=by
 have a1:=g.a;have a2:=g.b;have a3:=g.d;have a4:=g.pl0;have a5:=g.pl;have a6:=g.deg;have g1:=hx.dg t.pl.toNat (by omega);have e1:dR dg R (R-1-t.pl.toNat)=(dg t.pl.toNat).toNat:=by unfold dR;rw[show R-1-(R-1-t.pl.toNat)=t.pl.toNat by omega]
 unfold aL Gb.bK ag;simp only;rw[e1];omega
theorem jW(dg:Nat->Int)(R:Nat)(m:Gb.Mo)(s:Gb.Te):aL dg R (Gb.aA m s)=aL dg R s+(m.1+m.2.1+m.2.2):=by unfold aL Gb.bK Gb.aA;simp only;omega
theorem aM.kb{p:Int}{dg:Nat->Int}{N R:Nat}(hx:aP p dg N R){D:Int}(hD:D<=16000){t:Ft}(g:aM dg N R D t):D*68719476736-67112960000<=t.k/\t.k<=D*68719476736+255:=by have b1:=g.bd hx;have a1:=g.a;have a2:=g.b;have a3:=g.d;have a4:=g.pl0;have l1:=g.lin hx.n0 hx.n3;omega
theorem aM.fok{p:Int}{dg:Nat->Int}{N R:Nat}(hx:aP p dg N R){D:Int}(hD:D<=16000){t:Ft}(g:aM dg N R D t)(hc:0<=t.c/\t.c<p):je p t:=by have hk:=g.kb hx hD;have b1:=g.bd hx;have h4:=g.pl0;have h5:=g.pl;have h7:=g.a;have h8:=g.b;have h9:=g.d;have h10:=g.z;exact⟨by omega,by omega,by omega,by omega,by omega,by omega,hc⟩
theorem zl{lo:Int}:∀(r:List Ft)(hi:Int),lo<=hi+1->Dn r->(∀t∈r,lo<=t.k/\t.k<=hi)->(r.length:Int)<=hi-lo+1
 |[],hi,h,_,_=>by simp;omega
 |t::r,hi,h,hd,hb=>by have h1:=hb t (by simp);have h2:=zl (lo:=lo) r (t.k-1) (by omega) hd.tail λu hu=>⟨(hb u (by simp[hu])).1,by have:=hd.head u hu;omega⟩;simp only[LN];omega
theorem mG{p:Int}{dg:Nat->Int}{N R:Nat}(hx:aP p dg N R){D:Int}(hD:D<=16000):∀r,Dn r->(∀t∈r,aM dg N R D t)->r.length<=100000000000:=λr h1 h2=>by have:=zl (lo:=D*68719476736-67112960000) r (D*68719476736+255) (by omega) h1 λt ht=>(h2 t ht).kb hx hD;omega
theorem pV{dg:Nat->Int}{N R:Nat}{D E:Int}{t L bt:Ft}(gt:aM dg N R D t)(gL:aM dg N R E L)(hin:dZ L t=true)(ha:bt.a=t.a-L.a)(hb:bt.b=t.b-L.b)(hd:bt.d=t.d-L.d)(hz:bt.z=t.z-L.z):i7 N t L bt:=by unfold dZ fI at hin;simp only[Bool.and_eq_true,decide_eq_true_eq] at hin;obtain⟨h1,⟨⟨h2,h3⟩,h4⟩,h5⟩:=hin;have z1:=gt.z;have z2:=gL.z;exact⟨h1,by omega,by omega,by omega,by omega,by omega,by omega,by omega,λh=>by have:=gt.n1 h;have:=gL.n1 h;omega,λh=>by have:=gt.n2 h;have:=gL.n2 h;omega⟩
theorem i7.keyG{dg:Nat->Int}{N R:Nat}{D E:Int}{t L bt:Ft}(h:i7 N t L bt)(h0:0<N)(h3:N<=3)(gt:aM dg N R D t)(gL:aM dg N R E L):L.k+bA 1 (aE N bt)=t.k:=by rw[gt.k,gL.k,zm (p:=0) h0 h3 h.a h.b h.d,<-h.pl];unfold Go.Proofs.YteimdcndjjclnaaGreat.kK;rw[zn h3 (qz h3 _) (qz h3 _)];omega
theorem i7.teG{dg:Nat->Int}{N R:Nat}{E:Int}{t L bt:Ft}(h:i7 N t L bt)(gL:aM dg N R E L):Gb.aA (bP bt) (ag R L)=ag R t:=by have h1:=h.a;have h2:=h.b;have h3:=h.d;have h4:=h.a0;have h5:=h.b0;have h6:=h.d0;have g1:=gL.a;have g2:=gL.b;have g3:=gL.d;unfold Gb.aA bP ag;rw[h.pl];simp only[Prod.mk.injEq,true_and];omega
structure iD(p:Int)(dg:Nat->Int)(N R:Nat)(D:Int)(L:Ft)(r:List Ft):Prop where
 c1:L.c=1
 dn:Dn (L::r)
 co:∀t∈L::r,0<t.c/\t.c<p
 gd:∀t∈L::r,aM dg N R D t
theorem mH{p:Int}{dg:Nat->Int}{N R:Nat}(hx:aP p dg N R){D E:Int}{t L bt:Ft}{r:List Ft}{more c:Int}(gt:aM dg N R D t)(hm:iD p dg N R E L r)(h:i7 N t L bt)(bc:0<c/\c<p)(hmo:more=bA 1 (aE N bt)):aO p (λu=>aM dg N R D u/\u.k<t.k) [r.map (bu p more {bt with c:=c})]:=by
 have gL:=hm.gd L (by simp);have hk:=h.keyG hx.n0 hx.n3 gt gL;have e1:=h.a;have e2:=h.b;have e3:=h.d;have e4:=h.a0;have e5:=h.b0;have e6:=h.d0;refine⟨λf hf=>?_,λf hf x ht=>?_,λf hf x ht=>?_⟩<;>(rw[Lw] at hf;subst hf)
 .unfold Dn;rw[List.pairwise_map];exact hm.dn.tail.imp fun {a b} h=>by simp only[bu];omega
 .obtain⟨x,hx2,rfl⟩:=LC.1 ht;have h1:=hm.co x (by simp[hx2]);have:=sH hx.pr (show 1<=x.c by omega) h1.2 (show 1<=c by omega) bc.2;simp only[bu];omega
 .obtain⟨x,hx2,rfl⟩:=LC.1 ht;have gx:=hm.gd x (by simp[hx2]);have hlt:=hm.dn.head x hx2;obtain⟨k1,a1,b1',c1,s1,z1,p1,q1,n1,n2⟩:=gx;have hex:aE N (bu p more {bt with c:=c} x)=bL (·+·) (aE N bt) (aE N x):=zm (p:=p) hx.n0 hx.n3 (by simp only[bu];omega) (by simp only[bu];omega) (by simp only[bu];omega)
  have gdeg:=gt.deg;have gLd:=gL.deg;have hpl:=h.pl;refine⟨⟨?_,by simp only[bu];omega,by simp only[bu];omega,by simp only[bu];omega,?_,by simp only[bu];have:=h.z;omega,by simp only[bu];exact p1,by simp only[bu];exact q1,λh9=>by simp only[bu];have:=n1 h9;have:=h.n1 h9;omega,λh9=>by simp only[bu];have:=n2 h9;have:=h.n2 h9;omega⟩,by simp only[bu];omega⟩
  .rw[hex];show x.k+more=Go.Proofs.YteimdcndjjclnaaGreat.kK dg x.pl _;unfold Go.Proofs.YteimdcndjjclnaaGreat.kK;rw[zn hx.n3 (qz hx.n3 _) (qz hx.n3 _),k1,hmo];unfold Go.Proofs.YteimdcndjjclnaaGreat.kK;omega
  .simp only[bu];rw[hpl] at gLd;omega
theorem oD{p:Int}{dg:Nat->Int}{N R:Nat}(hx:aP p dg N R){D:Int}(hD:D<=16000){f:List Ft}(h:∀t∈f,aM dg N R D t):∀t u,t∈f->u∈f->t.k=u.k->ag R t=ag R u:=λt u ht hu e=>GF hx hD (h t ht) (h u hu) e
def cV(R:Nat)(fs:List Ft):List (Int×Gb.Te):=fs.map λt=>(t.c,ag R t)
def gF(R:Nat):List Ft->Gb.Te
 |[]=>(0,0,0,0)
 |t::_=>ag R t
def mR:List Ft->Int
 |[]=>0
 |t::_=>t.c
theorem dw{α:Type}{l:List (List α)}{i:Nat}{x:List α}(h:l[i]?=some x):l.getD i []=x:=by rw[Lr,h];rfl
def au(p:Int)(dg:Nat->Int)(R:Nat)(fss:List (List Ft)):Gb.aV (Gb.aD (dR dg R)) p where
 live i:=∃t r,fss[i]?=some (t::r)/\(∀u∈r,(Gb.aD (dR dg R)).lt (ag R u) (ag R t))/\p∣t.c*aN p t.c-1
 g i:=cV R (fss.getD i [])
 ld i:=gF R (fss.getD i [])
 lc i:=mR (fss.getD i [])
 iv i:=aN p (mR (fss.getD i []))
 shape i hi:=by obtain⟨t,r,h1,h2,h3⟩:=hi;rw[dw h1];exact⟨cV R r,λφ=>rfl,λx hx=>by obtain⟨u,hu,rfl⟩:=LC.1 hx;exact h2 u hu⟩
 inv i hi:=by obtain⟨t,r,h1,h2,h3⟩:=hi;rw[dw h1];exact h3
structure cP(p:Int)(dg:Nat->Int)(N R:Nat)(D:Int)(fs:List Ft):Prop where
 dn:Dn fs
 co:∀t∈fs,0<t.c/\t.c<p
 gd:∀t∈fs,aM dg N R D t
theorem iD.vch{p:Int}{dg:Nat->Int}{N R:Nat}{D:Int}{L:Ft}{r:List Ft}(h:iD p dg N R D L r):cP p dg N R D (L::r):=⟨h.dn,h.co,h.gd⟩
theorem pO{p c:Int}(hp:bm p=0)(hc:0<c/\c<p):p∣c*aN p c-1:=by obtain⟨_,_,i3⟩:=mu hp hc;have h4:=jx p (c*aN p c);rw[i3] at h4;obtain⟨z,hz⟩:=h4;exact⟨-z,by rw[Int.mul_neg];omega⟩
theorem oe{p:Int}{dg:Nat->Int}{N R:Nat}(hx:aP p dg N R){D:Int}(hD:D<=16000){fss:List (List Ft)}{i:Nat}{t:Ft}{r:List Ft}(h:fss[i]?=some (t::r))(hv:cP p dg N R D (t::r)):(au p dg R fss).live i:=
 ⟨t,r,h,λu hu=>mw hx hD (hv.gd u (by simp[hu])) (hv.gd t (by simp)) (hv.dn.head u hu),pO hx.pr (hv.co t (by simp))⟩
structure qA{τ M:Type}{S:Gb.bY τ M}{p:Int}(G G':Gb.aV S p):Prop where
 live:∀i,G.live i->G'.live i
 g:∀i,G.live i->G'.g i=G.g i
 ld:∀i,G.live i->G'.ld i=G.ld i
 iv:∀i,G.live i->G'.iv i=G.iv i
theorem zo{τ M:Type}{S:Gb.bY τ M}{p:Int}{G G':Gb.aV S p}(h:qA G G')(φ:τ->Int):∀rp:Gb.Rp M,(∀r∈rp,G.live r.2.2)->Gb.ev G' φ rp=Gb.ev G φ rp
 |[],_=>rfl
 |r::rp,hl=>by simp only[Gb.ev];rw[zo h φ rp λx hx=>hl x (by simp[hx]),h.g _ (hl r (by simp))]
theorem lE{τ M:Type}{S:Gb.bY τ M}{p:Int}{G G':Gb.aV S p}(h:qA G G'){A:τ->Prop}{X:Gb.Fn τ}(hv:Gb.Vb G A X):Gb.Vb G' A X:=by obtain⟨rp,h1,h2⟩:=hv;refine⟨rp,λr hr=>⟨h.live _ (h1 r hr).1,by rw[h.ld _ (h1 r hr).1];exact(h1 r hr).2⟩,λφ=>?_⟩;rw[zo h φ rp λr hr=>(h1 r hr).1];exact h2 φ
theorem Dz{τ M:Type}{S:Gb.bY τ M}{p:Int}{G G':Gb.aV S p}(h:qA G G'){i j:Nat}{a b:M}(hi:G.live i)(hj:G.live j)(hv:Gb.Rl G i a j b):Gb.Rl G' i a j b:=by unfold Gb.Rl at hv⊢;rw[h.ld i hi];refine(lE h hv).congr λφ=>⟨0,?_⟩;unfold Gb.Hm;rw[h.g i hi,h.g j hj,h.iv i hi,h.iv j hj];omega
theorem lD(p:Int)(dg:Nat->Int)(R:Nat)(fss gss:List (List Ft)):qA (au p dg R fss) (au p dg R (fss++gss)):=by
 have key:∀i t r,fss[i]?=some (t::r)->(fss++gss)[i]?=some (t::r):=λi t r h=>by obtain⟨hi,_⟩:=List.getElem?_eq_some_iff.1 h;rw[LQ hi];exact h
 have key2:∀i,(au p dg R fss).live i->(fss++gss).getD i []=fss.getD i []:=λi ⟨t,r,h,_⟩=>by rw[dw (key i t r h),dw h]
 exact⟨λi ⟨t,r,h,h2⟩=>⟨t,r,key i t r h,h2⟩,λi hi=>by show cV R _=cV R _;rw[key2 i hi],λi hi=>by show gF R _=gF R _;rw[key2 i hi],λi hi=>by show aN p (mR _)=aN p (mR _);rw[key2 i hi]⟩
structure mS{p:Int}{dg:Nat->Int}{R:Nat}(G:Gb.aV (Gb.aD (dR dg R)) p)(N j:Nat)(D:Int)(L:Ft)(r:List Ft):Prop where
 live:G.live j
 ld:G.ld j=ag R L
 made:∀φ,p∣aF R φ (L::r)-G.iv j*Gb.ln φ (G.g j)
 hm:iD p dg N R D L r
theorem sJ{p:Int}{dg:Nat->Int}{N R:Nat}(hx:aP p dg N R){D:Int}(hD:D<=16000){fss:List (List Ft)}{i:Nat}{L:Ft}{r:List Ft}(h:fss[i]?=some (L::r))(hm:iD p dg N R D L r):mS (au p dg R fss) N i D L r:=by
 refine⟨oe hx hD h hm.vch,?_,λφ=>?_,hm⟩
 .show gF R _=_;rw[dw h];rfl
 .show p∣aF R φ (L::r)-aN p (mR (fss.getD i []))*Gb.ln φ (cV R (fss.getD i []));rw[dw h];have e:Gb.ln φ (cV R (L::r))=aF R φ (L::r):=rfl;rw[e];obtain⟨z,hz⟩:=pO hx.pr (hm.co L (by simp));have e2:mR (L::r)=L.c:=rfl;rw[e2];rw[hm.c1,Int.one_mul] at hz;rw[hm.c1];generalize aF R φ (L::r)=y;have e3:aN p 1=1+p*z:=by omega
  exact⟨-(z*y),by rw[e3];grind⟩
theorem tU{p:Int}{dg:Nat->Int}{R:Nat}{G:Gb.aV (Gb.aD (dR dg R)) p}{N j:Nat}{D:Int}{L:Ft}{r:List Ft}(hm:mS G N j D L r)(a:Gb.Mo)(φ:Gb.Te->Int):p∣φ (Gb.aA a (ag R L))+aF R (λs=>φ (Gb.aA a s)) r-G.iv j*Gb.ln (λs=>φ (Gb.aA a s)) (G.g j):=by have h:=hm.made λs=>φ (Gb.aA a s);rw[gG,hm.hm.c1,Int.one_mul] at h;exact h
structure LG{p:Int}{dg:Nat->Int}{R:Nat}(G:Gb.aV (Gb.aD (dR dg R)) p)(N:Nat)(D:Int)(A:Gb.Te->Prop)(X:Gb.Fn Gb.Te)(K:Int)(acc:List Ft)(r:Option Ft)(rows:List (List Ft)):Prop where
 ok:aO p (λu=>aM dg N R D u/\u.k<K) rows
 made:Gb.Vb G (λs=>A s/\aL dg R s=D.toNat) λφ=>X φ-(aF R φ acc+lU R φ r+aF R φ rows.flatten)
 tr:∀t,r=some t->aM dg N R D t/\0<t.c/\t.c<p/\t.k<K/\∀f∈rows,∀u∈f,u.k<t.k
 av:cP p dg N R D acc
 ak:∀t∈acc,(∀f∈rows,∀u∈f,u.k<t.k)/\(∀u,r=some u->u.k<t.k)/\t.k<K
theorem sU{p:Int}{dg:Nat->Int}{N R:Nat}(hx:aP p dg N R){G:Gb.aV (Gb.aD (dR dg R)) p}{D:Int}(hD:D<=16000){A:Gb.Te->Prop}{X:Gb.Fn Gb.Te}{K:Int}{acc:List Ft}{rows rows2:List (List Ft)}{r:Option Ft}(h:LG G N D A X K acc none rows)(hn:Nx p rows r rows2):LG G N D A X K acc r rows2/\(r=none->Gb.Vb G (λs=>A s/\aL dg R s=D.toNat) λφ=>X φ-aF R φ acc):=by
 obtain⟨hp1,hp2⟩:=fq hx.pr;have hok:aO p (λu=>aM dg N R D u/\u.k<K/\∀a∈acc,u.k<a.k) rows:=⟨h.ok.dn,h.ok.co,λf hf t ht=>⟨(h.ok.gd f hf t ht).1,(h.ok.gd f hf t ht).2,λa ha=>(h.ak a ha).1 f hf t ht⟩⟩;have hsp:=Nx.spec hp1 (G:=λu=>aM dg N R D u/\u.k<K/\∀a∈acc,u.k<a.k) (λx t ha hg=>⟨aM.alk x t ha hg.1,by rw[ha.1];exact hg.2⟩) hn hok;obtain⟨s1,s2,s3⟩:=hsp;have ok2:aO p (λu=>aM dg N R D u/\u.k<K) rows2:=⟨s1.dn,s1.co,λf hf t ht=>⟨(s1.gd f hf t ht).1,(s1.gd f hf t ht).2.1⟩⟩;cases r with
 |none=>
  have hz:∀φ,p∣aF R φ rows.flatten:=λφ=>by have h9:=oE (p:=p) (R:=R) (f:=rows.flatten) (g:=[]) (by rw[List.append_nil];exact oD hx hD λt ht=>(lV h.ok t ht).1) (λk=>by simpa [ao] using s3 k) φ;simpa [kH] using h9
  have hz2:Gb.Vb G (λs=>A s/\aL dg R s=D.toNat) λφ=>X φ-aF R φ acc:=h.made.congr λφ=>by obtain⟨z,e⟩:=hz φ;refine⟨z,?_⟩;simp only[lU];omega
  have e2:rows2.flatten=[]:=by rw[List.flatten_eq_nil_iff];exact GG hn h.ok.dn rfl
  refine⟨⟨ok2,?_,λt ht=>by simp at ht,h.av,λt ht=>⟨λf hf u hu=>(s1.gd f hf u hu).2.2 t ht,λu hu=>by simp at hu,(h.ak t ht).2.2⟩⟩,λ_=>hz2⟩;rw[e2];exact hz2.congr λφ=>⟨0,by simp[lU,kH]⟩
 |some t=>
  obtain⟨g,c0,c1,hlt,hc⟩:=s3;refine⟨⟨ok2,h.made.congr λφ=>?_,λu hu=>?_,h.av,λa ha=>⟨λf hf u hu=>(s1.gd f hf u hu).2.2 a ha,λu hu=>?_,(h.ak a ha).2.2⟩⟩,λh=>by simp at h⟩
  .have h9:=oE (p:=p) (R:=R) (f:=rows.flatten) (g:=t::rows2.flatten) (oD hx hD λu hu=>by
    rcases Lv.1 hu with h1|h1
    .exact(lV h.ok u h1).1
    .rcases LL.1 h1 with rfl|h1
     .exact g.1
     .exact(lV ok2 u h1).1) (λk=>by
    obtain⟨z,hz⟩:=hc k;refine⟨z,?_⟩;simp only[ao];by_cases hk:k=t.k
    .rw[LI hk] at hz;rw[LI hk.symm];omega
    .rw[LH hk] at hz;rw[LH (λe=>hk e.symm)];omega) φ
   rw[gG] at h9;obtain⟨z,hz⟩:=h9;refine⟨z,?_⟩;simp only[lU];omega
  .cases hu;exact⟨g.1,c0,c1,g.2.1,hlt⟩
  .cases hu;exact g.2.2 a ha
theorem GH{p:Int}{dg:Nat->Int}{N R:Nat}{G:Gb.aV (Gb.aD (dR dg R)) p}{D:Int}{A:Gb.Te->Prop}{X:Gb.Fn Gb.Te}{K:Int}{acc:List Ft}{rows:List (List Ft)}{t:Ft}(h:LG G N D A X K acc (some t) rows):LG G N D A X K (acc++[t]) none rows:=by
 obtain⟨g,c0,c1,hk,hlt⟩:=h.tr t rfl;refine⟨h.ok,h.made.congr λφ=>⟨0,?_⟩,λu hu=>by simp at hu,⟨?_,λu hu=>?_,λu hu=>?_⟩,λu hu=>?_⟩
 .rw[qB,gG,kH];simp only[lU];omega
 .unfold Dn;rw[List.pairwise_append];refine⟨h.av.dn,by simp,λa ha b hb=>?_⟩;rw[Lw] at hb;subst hb;exact(h.ak a ha).2.1 b rfl
 .rcases Lv.1 hu with hu|hu
  .exact h.av.co u hu
  .rw[Lw] at hu;subst hu;exact⟨c0,c1⟩
 .rcases Lv.1 hu with hu|hu
  .exact h.av.gd u hu
  .rw[Lw] at hu;subst hu;exact g
 .rcases Lv.1 hu with hu|hu
  .exact⟨(h.ak u hu).1,λv hv=>by simp at hv,(h.ak u hu).2.2⟩
  .rw[Lw] at hu;subst hu;exact⟨hlt,λv hv=>by simp at hv,hk⟩
theorem GI{p:Int}{dg:Nat->Int}{N R:Nat}(hx:aP p dg N R){G:Gb.aV (Gb.aD (dR dg R)) p}{D:Int}(hD:D<=16000){A:Gb.Te->Prop}{X:Gb.Fn Gb.Te}{K:Int}(hA:∀t,aM dg N R D t->t.k<K->A (ag R t)){acc:List Ft}{t:Ft}{rows rows':List (List Ft)}{j:Nat}{E:Int}{L bt:Ft}{r:List Ft}{c:Int}(h:LG G N D A X K acc (some t) rows)(hm:mS G N j E L r)(hb:i7 N t L bt)(hc:p∣c+t.c)(hok:aO p (λu=>aM dg N R D u/\u.k<t.k) rows')(hs:aO p (λu=>aM dg N R D u/\u.k<t.k) [r.map (bu p (bA 1 (aE N bt)) {bt with c:=c})])(hcnt:∀k,p∣ao k rows'.flatten-(ao k rows.flatten+ao k (r.map (bu p (bA 1 (aE N bt)) {bt with c:=c})))):LG G N D A X K acc none rows':=by
 obtain⟨gt,_,_,hlt,_⟩:=h.tr t rfl;have gL:=hm.hm.gd L (by simp);have hte:=hb.teG gL;refine⟨⟨hok.dn,hok.co,λf hf u hu=>⟨(hok.gd f hf u hu).1,by have:=(hok.gd f hf u hu).2;omega⟩⟩,?_,λu hu=>by simp at hu,h.av,λa ha=>⟨λf hf u hu=>?_,λu hu=>by simp at hu,(h.ak a ha).2.2⟩⟩
 .have hone:Gb.Vb G (λs=>A s/\aL dg R s=D.toNat) λφ=>t.c*(G.iv j*Gb.ln (λs=>φ (Gb.aA (bP bt) s)) (G.g j)):=by
   refine⟨[(t.c*G.iv j,bP bt,j)],λx hx2=>?_,λφ=>⟨0,?_⟩⟩
   .rw[Lw] at hx2;rw[hx2];refine⟨hm.live,?_⟩;show A (Gb.aA (bP bt) (G.ld j))/\aL dg R (Gb.aA (bP bt) (G.ld j))=_;rw[hm.ld,hte];exact⟨hA t gt hlt,(gt.ts hx).1⟩
   .have e:Gb.ln (λs=>φ ((Gb.aD (dR dg R)).act (bP bt) s)) (G.g j)=Gb.ln (λs=>φ (Gb.aA (bP bt) s)) (G.g j):=rfl;simp only[Gb.ev];rw[e,Int.mul_assoc];omega
  refine(Gb.Vb.add h.made hone).congr λφ=>?_;obtain⟨z1,e1⟩:=tU hm (bP bt) φ;rw[hte] at e1;have h2:=oE (p:=p) (R:=R) (f:=rows'.flatten) (g:=rows.flatten++r.map (bu p (bA 1 (aE N bt)) {bt with c:=c})) (oD hx hD λu hu=>by
   rcases Lv.1 hu with h1|h1
   .exact(lV hok u h1).1
   .rcases Lv.1 h1 with h1|h1
    .exact(lV h.ok u h1).1
    .exact(hs.gd _ (List.mem_singleton_self _) u h1).1) (λk=>by rw[kg];exact hcnt k) φ
  rw[qB] at h2;obtain⟨z2,e2⟩:=h2;obtain⟨z3,e3⟩:=qC (p:=p) (R:=R) (more:=bA 1 (aE N bt)) (c:=c) hb.a0 hb.b0 hb.d0 φ r λu hu=>⟨(hm.hm.gd u (by simp[hu])).a,(hm.hm.gd u (by simp[hu])).b,(hm.hm.gd u (by simp[hu])).d⟩;obtain⟨z4,e4⟩:=hc;simp only[lU];generalize aF R φ rows'.flatten=A at*;generalize aF R φ rows.flatten=B at*;generalize aF R φ acc=Z at*;generalize aF R φ (r.map (bu p (bA 1 (aE N bt)) {bt with c:=c}))=C at*;generalize aF R (λs=>φ (Gb.aA (bP bt) s)) r=D at*;generalize G.iv j*Gb.ln (λs=>φ (Gb.aA (bP bt) s)) (G.g j)=E at*;generalize φ (ag R t)=F at*;have e5:c=p*z4-t.c:=by omega
  have e6:E=F+D-p*z1:=by omega
  refine⟨-z2-z3-z4*D+t.c*z1,?_⟩;rw[e6];have e7:C=(p*z4-t.c)*D+p*z3:=by rw[<-e5];omega
  have e8:A=B+C+p*z2:=by omega
  rw[e8,e7];grind
 .have h1:=(hok.gd f hf u hu).2;have h2:=(h.ak a ha).2.1 t rfl;omega
def sI{p:Int}{dg:Nat->Int}{R:Nat}(G:Gb.aV (Gb.aD (dR dg R)) p)(N:Nat)(ms:List Mm):Prop:=∀x∈ms,∃j D,D<=16000/\mS G N j D x.L x.r
theorem sT{p:Int}{dg:Nat->Int}{N R:Nat}(hx:aP p dg N R){G:Gb.aV (Gb.aD (dR dg R)) p}{ms:List Mm}(hms:sI G N ms)(hl:ms.length<=1300000){D:Int}(hD:D<=16000):oy p (az 1 N N 0) (az 1 N N 1) (az 1 N N 2) R (aM dg N R D) ms where
 pr:=hx.pr
 b0:=iH 1 N 0
 b1:=iH 1 N 1
 b2:=iH 1 N 2
 alk:=aM.alk
 len:=mG hx hD
 bd:=λt g=>by have hk:=g.kb hx hD;have h3:=g.bd hx;have h4:=g.pl0;have h5:=g.pl;have h7:=g.a;have h8:=g.b;have h9:=g.d;have h10:=g.z;exact⟨by omega,by omega,by omega,by omega,by omega,h4,h5⟩
 fok:=λx hx2 u hu=>by obtain⟨j,E,hE,hm⟩:=hms x hx2;have h2:=hm.hm.co u (by simp[hu]);exact(hm.hm.gd u (by simp[hu])).fok hx hE (by omega)
 lds:=λx hx2=>by obtain⟨j,E,hE,hm⟩:=hms x hx2;have g:=hm.hm.gd x.L (by simp);have c:=hm.hm.co x.L (by simp);exact⟨g.a,g.b,g.d,by rw[g.z];omega,c.1,c.2⟩
 rln:=λx hx2=>by obtain⟨j,E,hE,hm⟩:=hms x hx2;exact mG hx hE x.r hm.hm.dn.tail λt ht=>hm.hm.gd t (by simp[ht])
 mul:=λx hx2 t g hin bt ha hb hd hz c0 c1=>by obtain⟨j,E,hE,hm⟩:=hms x hx2;have hby:=pV g (hm.hm.gd x.L (by simp)) hin ha hb hd hz;have:=mH hx (more:=bt.a*az 1 N N 0+bt.b*az 1 N N 1+bt.d*az 1 N N 2) (c:=bt.c) g hm.hm hby ⟨c0,c1⟩ (pX hx.n0 hx.n3);exact this
 ml:=hl
theorem xU{p:Int}{dg:Nat->Int}{N R:Nat}(hx:aP p dg N R){G:Gb.aV (Gb.aD (dR dg R)) p}{ms:List Mm}(hms:sI G N ms){D:Int}(hD:D<=16000){A:Gb.Te->Prop}{X:Gb.Fn Gb.Te}{K:Int}(hA:∀t,aM dg N R D t->t.k<K->A (ag R t)):oz p (az 1 N N 0) (az 1 N N 1) (az 1 N N 2) (aM dg N R D) ms (λrows acc=>LG G N D A X K acc none rows/\∀t∈acc,gO ms t=none) (λt rows acc=>LG G N D A X K acc (some t) rows/\∀t∈acc,gO ms t=none) (λ_ _=>true) where
 next:=λrows acc t rows2 _ hJ hn=>⟨(sU hx hD hJ.1 hn).1,hJ.2⟩
 left:=λt rows acc _ _ _ _ _ hI hf _=>⟨GH hI.1,λu hu=>by
  rcases Lv.1 hu with hu|hu
  .exact hI.2 u hu
  .rw[Lw] at hu;rw[hu];exact hf⟩
 take:=λt rows acc x bt rows' g c0 c1 hlt hr hI hf hby hr2 hcnt=>by
  have hxm:x∈ms:=(LR.1 (List.mem_of_find?_eq_some hf)).1;have hgo:=List.find?_some hf;unfold fH at hgo;simp only[Bool.and_eq_true] at hgo;obtain⟨j,E,hE,hm⟩:=hms x hxm;have hb:=pV g (hm.hm.gd x.L (by simp)) hgo.2 hby.a hby.b hby.d hby.z;have hcc:p∣bt.c+t.c:=by have:=hby.cc;rw[hm.hm.c1,Int.mul_one] at this;exact this
  have hs:=mH hx (more:=bA 1 (aE N bt)) (c:=bt.c) g hm.hm hb ⟨hby.c0,hby.c1⟩ rfl;refine⟨GI hx hD hA (c:=bt.c) hI.1 hm hb hcc hr2 hs λk=>?_,hI.2⟩;have:=hcnt k;rw[pX hx.n0 hx.n3] at this;exact this
theorem xW{p:Int}{dg:Nat->Int}{N R:Nat}(hx:aP p dg N R){G:Gb.aV (Gb.aD (dR dg R)) p}{D:Int}(hD:D<=16000){A:Gb.Te->Prop}{X:Gb.Fn Gb.Te}{K:Int}{acc:List Ft}{r:Option Ft}{rows:List (List Ft)}(h:LG G N D A X K acc r rows):acc.length<=1000000000000:=by have:=mG hx hD acc h.av.dn h.av.gd;omega
theorem DX{p:Int}{dg:Nat->Int}{N R:Nat}(hx:aP p dg N R){G:Gb.aV (Gb.aD (dR dg R)) p}{D:Int}(hD:D<=16000){P L1 L2 b1 b2:Ft}{r1 r2:List Ft}{j1 j2:Nat}{E1 E2:Int}{rows:List (List Ft)}{c:Int}(gP:aM dg N R D P)(m1:mS G N j1 E1 L1 r1)(m2:mS G N j2 E2 L2 r2)(h1:i7 N P L1 b1)(h2:i7 N P L2 b2)(hc:p∣c+1)(hok:aO p (λu=>aM dg N R D u/\u.k<P.k) rows)(hs1:aO p (λu=>aM dg N R D u/\u.k<P.k) [r1.map (bu p (bA 1 (aE N b1)) {b1 with c:=1})])(hs2:aO p (λu=>aM dg N R D u/\u.k<P.k) [r2.map (bu p (bA 1 (aE N b2)) {b2 with c:=c})])(hcnt:∀k,p∣ao k rows.flatten-(ao k (r1.map (bu p (bA 1 (aE N b1)) {b1 with c:=1}))+ao k (r2.map (bu p (bA 1 (aE N b2)) {b2 with c:=c})))):LG G N D (λs=>(Gb.aD (dR dg R)).lt s (ag R P)) (λφ=>Gb.Hm G j1 (bP b1) φ-Gb.Hm G j2 (bP b2) φ) P.k [] none rows:=by
 refine⟨hok,Gb.Vb.zero λφ=>?_,λu hu=>by simp at hu,⟨List.Pairwise.nil,λt ht=>by simp at ht,λt ht=>by simp at ht⟩,λt ht=>by simp at ht⟩;obtain⟨z1,e1⟩:=tU m1 (bP b1) φ;obtain⟨z2,e2⟩:=tU m2 (bP b2) φ;rw[h1.teG (m1.hm.gd L1 (by simp))] at e1;rw[h2.teG (m2.hm.gd L2 (by simp))] at e2;have h3:=oE (p:=p) (R:=R) (f:=rows.flatten) (g:=r1.map (bu p (bA 1 (aE N b1)) {b1 with c:=1})++r2.map (bu p (bA 1 (aE N b2)) {b2 with c:=c})) (oD hx hD λu hu=>by
  rcases Lv.1 hu with h1|h1
  .exact(lV hok u h1).1
  .rcases Lv.1 h1 with h1|h1
   .exact(hs1.gd _ (List.mem_singleton_self _) u h1).1
   .exact(hs2.gd _ (List.mem_singleton_self _) u h1).1) (λk=>by rw[kg];exact hcnt k) φ
 rw[qB] at h3;obtain⟨z3,e3⟩:=h3;obtain⟨z4,e4⟩:=qC (p:=p) (R:=R) (more:=bA 1 (aE N b1)) (c:=1) h1.a0 h1.b0 h1.d0 φ r1 λu hu=>⟨(m1.hm.gd u (by simp[hu])).a,(m1.hm.gd u (by simp[hu])).b,(m1.hm.gd u (by simp[hu])).d⟩;obtain⟨z5,e5⟩:=qC (p:=p) (R:=R) (more:=bA 1 (aE N b2)) (c:=c) h2.a0 h2.b0 h2.d0 φ r2 λu hu=>⟨(m2.hm.gd u (by simp[hu])).a,(m2.hm.gd u (by simp[hu])).b,(m2.hm.gd u (by simp[hu])).d⟩;obtain⟨z6,e6⟩:=hc;have q1:Gb.Hm G j1 (bP b1) φ=G.iv j1*Gb.ln (λs=>φ (Gb.aA (bP b1) s)) (G.g j1):=rfl;have q2:Gb.Hm G j2 (bP b2) φ=G.iv j2*Gb.ln (λs=>φ (Gb.aA (bP b2) s)) (G.g j2):=rfl;show p∣Gb.Hm G j1 (bP b1) φ-Gb.Hm G j2 (bP b2) φ-(0+0+_);rw[q1,q2];generalize G.iv j1*Gb.ln (λs=>φ (Gb.aA (bP b1) s)) (G.g j1)=A at*;generalize G.iv j2*Gb.ln (λs=>φ (Gb.aA (bP b2) s)) (G.g j2)=B at*;generalize aF R φ rows.flatten=C at*;generalize aF R φ (r1.map (bu p (bA 1 (aE N b1)) {b1 with c:=1}))=D at*;generalize aF R φ (r2.map (bu p (bA 1 (aE N b2)) {b2 with c:=c}))=E at*;generalize aF R (λs=>φ (Gb.aA (bP b1) s)) r1=F1 at*;generalize aF R (λs=>φ (Gb.aA (bP b2) s)) r2=F2 at*;have e7:c=p*z6-1:=by omega
 have e8:E=(p*z6-1)*F2+p*z5:=by rw[<-e7];omega
 refine⟨-z1+z2-z3-z4-z5-z6*F2,?_⟩;have e9:C=D+E+p*z3:=by omega
 have e10:D=F1+p*z4:=by omega
 have e11:A=φ (ag R P)+F1-p*z1:=by omega
 have e12:B=φ (ag R P)+F2-p*z2:=by omega
 rw[e9,e10,e11,e12,e8];grind
theorem EX{p:Int}{dg:Nat->Int}{N R:Nat}(hx:aP p dg N R){G:Gb.aV (Gb.aD (dR dg R)) p}{D:Int}(hD:D<=16000){K:Int}{fs:List Ft}{rows:List (List Ft)}(hv:cP p dg N R D fs)(hok:aO p (λu=>aM dg N R D u/\u.k<K) rows)(hcnt:∀k,p∣ao k rows.flatten-ao k fs):LG G N D (λ_=>True) (λφ=>aF R φ fs) K [] none rows:=by
 refine⟨hok,Gb.Vb.zero λφ=>?_,λu hu=>by simp at hu,⟨List.Pairwise.nil,λt ht=>by simp at ht,λt ht=>by simp at ht⟩,λt ht=>by simp at ht⟩;obtain⟨z,hz⟩:=oE (p:=p) (R:=R) (f:=rows.flatten) (g:=fs) (oD hx hD λu hu=>by
  rcases Lv.1 hu with h1|h1
  .exact(lV hok u h1).1
  .exact hv.gd u h1) hcnt φ
 refine⟨-z,?_⟩;simp only[kH,lU];rw[Int.mul_neg];omega
end Go.Proofs.YteimdcndjjclnaaGreat
