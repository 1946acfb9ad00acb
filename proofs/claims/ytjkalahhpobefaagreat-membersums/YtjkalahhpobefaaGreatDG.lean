/- Terms with four. -/
import Derived.Test.YtjkalahhpobefaaGreatKF
set_option maxHeartbeats 1000000
namespace Go.Proofs.YtjkalahhpobefaaGreat
set_option linter.all false
open Go.Proofs.Tryz Go.RowKit
def ah(t:Ft):C4.Tt:=(t.pl.toNat,t.a.toNat,t.b.toNat,t.d.toNat,t.z.toNat)
def bY(b:Ft):C4.Mt:=(b.a.toNat,b.b.toNat,b.d.toNat,b.z.toNat)
def aq(φ:C4.Tt->Int)(fs:PB):Int:=Gb.ln φ (fs.map λt=>(t.c,ah t))
theorem fl(φ:C4.Tt->Int):aq φ []=0:=rfl
theorem cV(φ:C4.Tt->Int)(t:Ft)(fs:PB):aq φ (t::fs)=t.c*φ (ah t)+aq φ fs:=rfl
theorem ku(φ:C4.Tt->Int)(f g:PB):aq φ (f++g)=aq φ f+aq φ g:=by
 induction f with
 |nil=>rw[List.nil_append,fl];omega
 |cons t f ih=>rw[List.cons_append,cV,cV,ih];omega
def fp(φ:C4.Tt->Int):Option Ft->Int
 |none=>0
 |some t=>t.c*φ (ah t)
theorem vy(φ:C4.Tt->Int)(ψ:Int->Int):∀f:PB,(∀t∈f,ψ t.k=φ (ah t))->aq φ f=sK ψ f
 |[],_=>rfl
 |t::f,h=>by rw[cV];simp only[sK];rw[vy φ ψ f λu hu=>h u (by simp[hu]),h t (by simp)]
variable{f:PB}{p:Int}
open Classical in
theorem kt{g:PB}(hi:∀t u,t∈f++g->u∈f++g->t.k=u.k->ah t=ah u)(h:∀k,p∣ao k f-ao k g)(φ:C4.Tt->Int):p∣aq φ f-aq φ g:=by
 let ψ:Int->Int:=λk=>if h:∃t,t∈f++g/\t.k=k then φ (ah (Classical.choose h)) else 0
 have hψ:∀t∈f++g,ψ t.k=φ (ah t):=λt ht=>by have he:∃u,u∈f++g/\u.k=t.k:=⟨t,ht,rfl⟩;show (if h:∃u,u∈f++g/\u.k=t.k then φ (ah (Classical.choose h)) else 0)=_;rw[dif_pos he];have hs:=Classical.choose_spec he;rw[hi _ _ hs.1 ht hs.2]
 rw[vy φ ψ f λt ht=>hψ t (by simp[ht]),vy φ ψ g λt ht=>hψ t (by simp[ht])];exact Hu ψ h
def dN(dg:Nat->Int)(i:Nat):Nat:=(dg i).toNat
def iM(w:Nat)(pl:Int):Int:=if pl<w then 255-pl else 255-(pl-w)-288230376151711744
def gq(w:Nat)(pl:Int)(xs:PI):Int:=iM w pl+bC 1 xs
structure bB(p:Int)(dg:Nat->Int)(N w n:Nat):Prop where
 pr:bA p=0
 n0:0<N
 n3:N<=3
 hw:w<=3
 hn:n<=4
 d0:∀i,i<w->dg i=0
 dg:∀i,i<w+n->0<=dg i/\dg i<=3
structure aS(dg:Nat->Int)(N w n:Nat)(D:Int)(t:Ft):Prop where
 k:t.k=gq w t.pl (aD N t)
 a:0<=t.a
 b:0<=t.b
 d:0<=t.d
 z:0<=t.z
 deg:t.a+t.b+t.d+t.z+dg t.pl.toNat=D
 pl0:0<=t.pl
 pl:t.pl<w+n
 n1:N<=1->t.b=0
 n2:N<=2->t.d=0
variable{D:Int}{N w n:Nat}{dg:Nat->Int}
theorem aS.alk(x t:Ft)(h:eC x t)(g:aS dg N w n D t):aS dg N w n D x:=by
 obtain⟨h1,h2,h3,h4,h5,h6⟩:=h;have e:aD N x=aD N t:=by unfold aD;rw[h2,h3,h4]
 exact⟨by rw[h1,e,h6];exact g.k,by rw[h2];exact g.a,by rw[h3];exact g.b,by rw[h4];exact g.d,by rw[h5];exact g.z,by rw[h2,h3,h4,h5,h6];exact g.deg,by rw[h6];exact g.pl0,by rw[h6];exact g.pl,λh=>by rw[h3];exact g.n1 h,λh=>by rw[h4];exact g.n2 h⟩
variable{t:Ft}
theorem vz(h0:0<N)(h3:N<=3)(n1:N<=1->t.b=0)(n2:N<=2->t.d=0):bC 1 (aD N t)=(t.a+t.b+t.d)*68719476736-t.d*4194304-t.b*256:=by
 have hN:N=1\/N=2\/N=3:=by omega
 rcases hN with rfl|rfl|rfl
 .have:=n1 (by omega);have:=n2 (by omega);simp[aD,bC,W0];omega
 .have:=n2 (by omega);simp[aD,bC,W0,W1];omega
 .simp[aD,bC,W0,W1,W2];omega
theorem aS.lin(h0:0<N)(h3:N<=3)(g:aS dg N w n D t):t.k=(t.a+t.b+t.d)*68719476736-t.d*4194304-t.b*256+iM w t.pl:=by rw[g.k];unfold gq;rw[vz h0 h3 g.n1 g.n2];omega
theorem aS.bd(hx:bB p dg N w n)(g:aS dg N w n D t):t.a+t.b+t.d+t.z<=D/\0<=D/\t.pl<7:=by have h1:=hx.dg t.pl.toNat (by have:=g.pl;have:=g.pl0;omega);have h2:=g.deg;have h3:=g.a;have h4:=g.b;have h5:=g.d;have h6:=g.pl;have:=hx.hw;have:=hx.hn;have:=g.z;omega
variable{E b d b2 d2 pl pl2 k k2:Int}
theorem A5(e1:k=D*68719476736-d*4194304-b*256+255-pl)(e2:k2=E*68719476736-d2*4194304-b2*256+255-pl2)(hb:0<=b/\b<=16000)(hd:0<=d/\d<=16000)(hp:0<=pl/\pl<200)(hb2:0<=b2/\b2<=16000)(hd2:0<=d2/\d2<=16000)(hp2:0<=pl2/\pl2<200)(h:k<=k2):D<E\/(D=E/\(d2<d\/(d2=d/\(b2<b\/(b2=b/\pl2<=pl))))):=by
 obtain⟨x,hx⟩:∃x,x=b*256-255+pl:=⟨_,rfl⟩;obtain⟨y,hy⟩:∃y,y=b2*256-255+pl2:=⟨_,rfl⟩;have bx:-255<=x/\x<=4100000:=by omega
 have by_:-255<=y/\y<=4100000:=by omega
 have e1:k=D*68719476736-d*4194304-x:=by omega
 have e2:k2=E*68719476736-d2*4194304-y:=by omega
 have hDE:D<=E:=by omega
 rcases Int.lt_or_eq_of_le hDE with h1|h1
 .exact Pf h1
 .subst h1;have hd3:d2<=d:=by omega
  rcases Int.lt_or_eq_of_le hd3 with h2|h2
  .exact Pg ⟨rfl,Pf h2⟩
  .subst h2;have hxy:y<=x:=by omega
   refine Pg ⟨rfl,Pg ⟨rfl,?_⟩⟩;omega
theorem nW{e e2:Int}(h1:k=e*68719476736-d*4194304-b*256+iM w pl)(h2:k2=e2*68719476736-d2*4194304-b2*256+iM w pl2)(he:0<=e/\e<=16000)(he2:0<=e2/\e2<=16000)(hb:0<=b/\b<=16000)(hd:0<=d/\d<=16000)(hp:0<=pl/\pl<200)(hb2:0<=b2/\b2<=16000)(hd2:0<=d2/\d2<=16000)(hp2:0<=pl2/\pl2<200)(h:k<=k2):(¬pl<w/\pl2<w)\/((pl<w↔pl2<w)/\(e<e2\/(e=e2/\(d2<d\/(d2=d/\(b2<b\/(b2=b/\pl2<=pl))))))):=by
 unfold iM at h1 h2;by_cases c1:pl<w
 .rw[OW c1] at h1;by_cases c2:pl2<w
  .rw[OW c2] at h2;refine Pg ⟨by simp[c1,c2],?_⟩;exact A5 (D:=e) (E:=e2) (pl:=pl) (pl2:=pl2) (k:=k) (k2:=k2) (by omega) (by omega) hb hd hp hb2 hd2 hp2 h
  .rw[OV c2] at h2;omega
 .rw[OV c1] at h1;by_cases c2:pl2<w
  .exact Pf ⟨c1,c2⟩
  .rw[OV c2] at h2;refine Pg ⟨by simp[c1,c2],?_⟩;have:=A5 (D:=e) (E:=e2) (pl:=pl-w) (pl2:=pl2-w) (k:=k+288230376151711744) (k2:=k2+288230376151711744) (b:=b) (d:=d) (b2:=b2) (d2:=d2) (by omega) (by omega) hb hd (by omega) hb2 hd2 (by omega) (by omega);omega
variable{u:Ft}
theorem qX(hx:bB p dg N w n)(hD:D<=9700)(gt:aS dg N w n D t)(gu:aS dg N w n D u)(h:t.k<u.k):(C4.aN w (dN dg)).lt (ah t) (ah u):=by
 have b1:=gt.bd hx;have b2:=gu.bd hx;have a1:=gt.a;have a2:=gt.b;have a3:=gt.d;have a4:=gt.pl0;have a5:=gt.pl;have a6:=gt.deg;have a7:=gt.z;have c1:=gu.a;have c2:=gu.b;have c3:=gu.d;have c4:=gu.pl0;have c5:=gu.pl;have c6:=gu.deg;have c7:=gu.z;have l1:=gt.lin hx.n0 hx.n3;have l2:=gu.lin hx.n0 hx.n3;have hk:=nW l1 l2 (by omega) (by omega) (by omega) (by omega) (by omega) (by omega) (by omega) (by omega) (by omega);have g1:=hx.dg t.pl.toNat (by omega);have g2:=hx.dg u.pl.toNat (by omega);have hne:¬(t.pl=u.pl/\t.b=u.b/\t.d=u.d/\t.a+t.b+t.d=u.a+u.b+u.d):=fun⟨e1,e2,e3,e4⟩=>by rw[e1,e2,e3] at l1;rw[e2,e3] at e4;rw[e4] at l1;omega
 clear l1 l2 h b1 b2;show C4.L6 _ _;unfold C4.L6 C4.fS C4.aC ah dN;simp only;generalize dg t.pl.toNat=x at*;generalize dg u.pl.toNat=y at*;obtain⟨k,a,b,d,z,pl,c⟩:=t;obtain⟨k',a',b',d',z',pl',c'⟩:=u;simp only at*;clear gt gu;obtain⟨a,rfl⟩:=Int.eq_ofNat_of_zero_le a1;obtain⟨b,rfl⟩:=Int.eq_ofNat_of_zero_le a2;obtain⟨d,rfl⟩:=Int.eq_ofNat_of_zero_le a3;obtain⟨pl,rfl⟩:=Int.eq_ofNat_of_zero_le a4;obtain⟨z,rfl⟩:=Int.eq_ofNat_of_zero_le a7;obtain⟨a',rfl⟩:=Int.eq_ofNat_of_zero_le c1;obtain⟨b',rfl⟩:=Int.eq_ofNat_of_zero_le c2;obtain⟨d',rfl⟩:=Int.eq_ofNat_of_zero_le c3;obtain⟨pl',rfl⟩:=Int.eq_ofNat_of_zero_le c4;obtain⟨z',rfl⟩:=Int.eq_ofNat_of_zero_le c7;simp only[Int.toNat_natCast];have hpl:pl<7/\pl'<7:=by have:=hx.hw;have:=hx.hn;omega
 have p1:C4.iA pl=255-pl:=OW (by omega);have p2:C4.iA pl'=255-pl':=OW (by omega);rw[p1,p2];have hdeg:x.toNat+(a+b+d+z)=y.toNat+(a'+b'+d'+z'):=by clear hk hne;omega
 clear a1 a2 a3 a4 a5 a6 a7 c1 c2 c3 c4 c5 c6 c7 g1 g2 hx hD p1 p2;rcases hk with ⟨k1,k2⟩|⟨k1,hk⟩
 .rw[OV (show¬pl<w by omega),OW (show pl'<w by omega)];exact Pg ⟨hdeg,Pf (by omega)⟩
 .have e:(if pl<w then 1 else 0:Nat)=if pl'<w then 1 else 0:=by
   by_cases c:pl<w
   .have:=k1.1 (by omega);rw[OW c,OW (by omega)]
   .have:¬(pl':Int)<w:=λh=>c (by have:=k1.2 h;omega);rw[OV c,OV (by omega)]
  rw[e];refine Pg ⟨hdeg,Pg ⟨rfl,?_⟩⟩;clear hdeg e k1;rcases hk with hk|⟨h0,hk|⟨h1,hk|⟨h2,h3⟩⟩⟩
  .exact Pf (by omega)
  .exact Pg ⟨by omega,Pf (by omega)⟩
  .exact Pg ⟨by omega,Pg ⟨by omega,Pf (by omega)⟩⟩
  .refine Pg ⟨by omega,Pg ⟨by omega,Pg ⟨by omega,?_⟩⟩⟩;have:pl≠pl':=λe=>hne ⟨by omega,by omega,by omega,by omega⟩;omega
theorem Hv(hx:bB p dg N w n)(hD:D<=9700)(gt:aS dg N w n D t)(gu:aS dg N w n D u)(h:t.k=u.k):ah t=ah u:=by
 have b1:=gt.bd hx;have b2:=gu.bd hx;have a1:=gt.a;have a2:=gt.b;have a3:=gt.d;have a4:=gt.pl0;have a6:=gt.deg;have a7:=gt.z;have c1:=gu.a;have c2:=gu.b;have c3:=gu.d;have c4:=gu.pl0;have c6:=gu.deg;have c7:=gu.z;have l1:=gt.lin hx.n0 hx.n3;have l2:=gu.lin hx.n0 hx.n3;have h1:=nW l1 l2 (by omega) (by omega) (by omega) (by omega) (by omega) (by omega) (by omega) (by omega) (by omega);have h2:=nW l2 l1 (by omega) (by omega) (by omega) (by omega) (by omega) (by omega) (by omega) (by omega) (by omega);clear l1 l2 h;have hpl:t.pl=u.pl/\t.b=u.b/\t.d=u.d/\t.a+t.b+t.d=u.a+u.b+u.d:=by omega
 obtain⟨e1,e2,e3,e4⟩:=hpl;rw[e1] at a6;have ea:t.a=u.a:=by omega
 have ez:t.z=u.z:=by omega
 unfold ah;rw[e1,e2,e3,ea,ez]
theorem vA{α:Type}[DecidableEq α]:∀{l k:List α},l.Nodup->(∀x∈l,x∈k)->l.length<=k.length
 |[],_,_,_=>OB _
 |x::l,k,hn,hs=>by have hnd:=List.nodup_cons.1 hn;have h:=vA (l:=l) (k:=k.erase x) hnd.2 λy hy=>(List.mem_erase_of_ne (λe:y=x=>hnd.1 (e ▸ hy))).2 (hs y (by simp[hy]));have hl:=List.length_erase_of_mem (hs x (by simp));have hp:=List.length_pos_of_mem (hs x (by simp));simp only[OZ];omega
theorem C4.nm_mono:∀j s,C4.nm (j+1) s<=C4.nm (j+1) (s+1):=λj s=>by rw[C4.iD];omega
theorem C4.nm_le(j:Nat):∀{s t:Nat},s<=t->C4.nm (j+1) s<=C4.nm (j+1) t:=fun {s t} h=>by
 induction t with
 |zero=>rw[show s=0 by omega];exact Ou _
 |succ t ih=>
  by_cases e:s=t+1
  .rw[e];exact Ou _
  .exact OA (ih (by omega)) (C4.nm_mono j t)
theorem C4.Ts_len(R:Nat)(d:Nat->Nat)(t:Nat):(C4.Ts R d t).length<=R*C4.nm 4 t:=by
 have hy:∀s,(C4.Ys s).length=C4.nm 4 s:=λs=>Cn.bw.uniq (A:=λy=>C4.aC y=s) ⟨C4.Ys s,C4.mW s,λy=>C4.jm,rfl⟩ (C4.oV s);unfold C4.Ts;induction R with
 |zero=>simp
 |succ R ih=>
  rw[List.range_succ,List.flatMap_append,OM,Nat.succ_mul];have:(List.flatMap (λi=>if d i<=t then (C4.Ys (t-d i)).map λy=>(i,y) else []) [R]).length<=C4.nm 4 t:=by
   simp only[List.flatMap_cons,List.flatMap_nil,List.append_nil];split
   .rw[OS,hy];exact C4.nm_le 3 (by omega)
   .simp
  omega
def aZ(dg:Nat->Int)(s:C4.Tt):Nat:=dN dg s.1+C4.aC s.2
theorem aS.ts(hx:bB p dg N w n)(g:aS dg N w n D t):aZ dg (ah t)=D.toNat/\(ah t).1<w+n:=by have a1:=g.a;have a2:=g.b;have a3:=g.d;have a4:=g.pl0;have a5:=g.pl;have a6:=g.deg;have a7:=g.z;have g1:=hx.dg t.pl.toNat (by omega);unfold aZ C4.aC ah dN;simp only;omega
theorem vC(dg:Nat->Int)(m:C4.Mt)(s:C4.Tt):aZ dg (C4.aw m s)=aZ dg s+C4.aC m:=by unfold aZ C4.aw;simp only;rw[C4.l7];omega
theorem aS.kb(hx:bB p dg N w n)(hD:D<=9700)(g:aS dg N w n D t):-300000000000000000<=t.k/\t.k<=300000000000000000:=by
 have b1:=g.bd hx;have a1:=g.a;have a2:=g.b;have a3:=g.d;have a4:=g.pl0;have a5:=g.z;have l1:=g.lin hx.n0 hx.n3;unfold iM at l1;by_cases c:t.pl<w
 .rw[OW c] at l1;omega
 .rw[OV c] at l1;omega
theorem aS.fok(hx:bB p dg N w n)(hD:D<=9700)(g:aS dg N w n D t)(hc:0<=t.c/\t.c<p):im p t:=by have hk:=g.kb hx hD;have b1:=g.bd hx;have h4:=g.pl0;have h5:=g.pl;have h7:=g.a;have h8:=g.b;have h9:=g.d;have h10:=g.z;exact⟨by omega,by omega,by omega,by omega,by omega,by omega,hc⟩
structure js(N:Nat)(t L bt:Ft):Prop where
 pl:L.pl=t.pl
 a:bt.a+L.a=t.a
 b:bt.b+L.b=t.b
 d:bt.d+L.d=t.d
 z:bt.z+L.z=t.z
 a0:0<=bt.a
 b0:0<=bt.b
 d0:0<=bt.d
 z0:0<=bt.z
 n1:N<=1->bt.b=0
 n2:N<=2->bt.d=0
variable{L bt:Ft}
theorem qT(gt:aS dg N w n D t)(gL:aS dg N w n E L)(hin:cA L t=true)(ha:bt.a=t.a-L.a)(hb:bt.b=t.b-L.b)(hd:bt.d=t.d-L.d)(hz:bt.z=t.z-L.z):js N t L bt:=by unfold cA eN at hin;simp only[Bool.and_eq_true,decide_eq_true_eq] at hin;obtain⟨h1,⟨⟨h2,h3⟩,h4⟩,h5⟩:=hin;exact⟨h1,by omega,by omega,by omega,by omega,by omega,by omega,by omega,by omega,λh=>by have:=gt.n1 h;have:=gL.n1 h;omega,λh=>by have:=gt.n2 h;have:=gL.n2 h;omega⟩
theorem js.key(h:js N t L bt)(h0:0<N)(h3:N<=3)(gt:aS dg N w n D t)(gL:aS dg N w n E L):L.k+bC 1 (aD N bt)=t.k:=by rw[gt.k,gL.k,pd (p:=0) h0 h3 h.a h.b h.d,<-h.pl];unfold gq;rw[pe h3 (jP h3 _) (jP h3 _)];omega
theorem js.te(h:js N t L bt)(gL:aS dg N w n E L):C4.aw (bY bt) (ah L)=ah t:=by have h1:=h.a;have h2:=h.b;have h3:=h.d;have h4:=h.a0;have h5:=h.b0;have h6:=h.d0;have h7:=h.z;have h8:=h.z0;have g1:=gL.a;have g2:=gL.b;have g3:=gL.d;have g4:=gL.z;unfold C4.aw C4.bH bY ah;rw[h.pl];simp only[Prod.mk.injEq,true_and];omega
structure iE(p:Int)(dg:Nat->Int)(N w n:Nat)(D:Int)(L:Ft)(r:PB):Prop where
 c1:L.c=1
 dn:Dn (L::r)
 co:∀t∈L::r,0<t.c/\t.c<p
 gd:∀t∈L::r,aS dg N w n D t
variable{c:Int}{r:PB}
theorem nA(hx:bB p dg N w n){more:Int}(gt:aS dg N w n D t)(hm:iE p dg N w n E L r)(h:js N t L bt)(bc:0<c/\c<p)(hmo:more=bC 1 (aD N bt)):aG p (λu=>aS dg N w n D u/\u.k<t.k) [r.map (aJ p more {bt with c:=c})]:=by
 have gL:=hm.gd L (by simp);have hk:=h.key hx.n0 hx.n3 gt gL;have e1:=h.a;have e2:=h.b;have e3:=h.d;have e4:=h.a0;have e5:=h.b0;have e6:=h.d0;have e7:=h.z;have e8:=h.z0;refine⟨λf hf=>?_,λf hf x ht=>?_,λf hf x ht=>?_⟩<;>(rw[OL] at hf;subst hf)
 .unfold Dn;rw[List.pairwise_map];exact hm.dn.tail.imp fun {a b} h=>by simp only[aJ];omega
 .obtain⟨x,hx2,rfl⟩:=OR.1 ht;have h1:=hm.co x (by simp[hx2]);have:=mi hx.pr (show 1<=x.c by omega) h1.2 (show 1<=c by omega) bc.2;simp only[aJ];omega
 .obtain⟨x,hx2,rfl⟩:=OR.1 ht;have gx:=hm.gd x (by simp[hx2]);have hlt:=hm.dn.head x hx2;obtain⟨k1,a1,b1',c1,z1,s1,p1,q1,n1,n2⟩:=gx;have hex:aD N (aJ p more {bt with c:=c} x)=aP (·+·) (aD N bt) (aD N x):=pd (p:=p) hx.n0 hx.n3 (by simp only[aJ];omega) (by simp only[aJ];omega) (by simp only[aJ];omega)
  have gdeg:=gt.deg;have gLd:=gL.deg;have hpl:=h.pl;refine⟨⟨?_,by simp only[aJ];omega,by simp only[aJ];omega,by simp only[aJ];omega,by simp only[aJ];omega,?_,by simp only[aJ];exact p1,by simp only[aJ];exact q1,λh9=>by simp only[aJ];have:=n1 h9;have:=h.n1 h9;omega,λh9=>by simp only[aJ];have:=n2 h9;have:=h.n2 h9;omega⟩,by simp only[aJ];omega⟩
  .rw[hex];show x.k+more=gq w x.pl _;unfold gq;rw[pe hx.n3 (jP hx.n3 _) (jP hx.n3 _),k1,hmo];unfold gq;omega
  .simp only[aJ];rw[hpl] at gLd;omega
theorem pD(hx:bB p dg N w n)(hD:D<=9700)(h:∀t∈f,aS dg N w n D t):∀t u,t∈f->u∈f->t.k=u.k->ah t=ah u:=λt u ht hu e=>Hv hx hD (h t ht) (h u hu) e
theorem mn(hx:bB p dg N w n)(hD:D<=9700):∀r,Dn r->(∀t∈r,aS dg N w n D t)->r.length<=1100000000000:=λr h1 h2=>by
 have hnd:(r.map ah).Nodup:=by
  unfold List.Nodup;rw[List.pairwise_map];refine(List.Pairwise.and_mem.1 h1).imp fun {a b} ⟨ha,hb,hlt⟩ e=>?_;have ga:=h2 a ha;have gb:=h2 b hb;have l1:=ga.lin hx.n0 hx.n3;have l2:=gb.lin hx.n0 hx.n3;have a1:=ga.a;have a2:=ga.b;have a3:=ga.d;have a4:=ga.pl0;have c1:=gb.a;have c2:=gb.b;have c3:=gb.d;have c4:=gb.pl0;unfold ah at e;simp only[Prod.mk.injEq] at e;obtain⟨e0,e1,e2,e3,_⟩:=e;have f0:a.pl=b.pl:=by omega
  have f1:a.a=b.a:=by omega
  have f2:a.b=b.b:=by omega
  have f3:a.d=b.d:=by omega
  rw[f0,f1,f2,f3] at l1;omega
 have hsub:∀s∈r.map ah,s∈C4.Ts (w+n) (dN dg) D.toNat:=λs hs=>by obtain⟨t,ht,rfl⟩:=OR.1 hs;obtain⟨h3,h4⟩:=(h2 t ht).ts hx;exact C4.de.2 ⟨h4,h3⟩
 have hle:=vA hnd hsub;rw[OS] at hle;have hT:=C4.Ts_len (w+n) (dN dg) D.toNat;have hn4:=C4.ko D.toNat;have hw:=hx.hw;have hn:=hx.hn;have hm:C4.nm 4 D.toNat<=152300000000:=by have e1:(D.toNat+1)*(D.toNat+2)<=9701*9702:=Nat.mul_le_mul (by omega) (by omega);have e2:(D.toNat+1)*(D.toNat+2)*(D.toNat+3)<=9701*9702*9703:=Nat.mul_le_mul e1 (by omega);omega
 have e3:(w+n)*C4.nm 4 D.toNat<=7*152300000000:=Nat.mul_le_mul (by omega) hm;omega
def aK(fs:PB):List (Int×C4.Tt):=fs.map λt=>(t.c,ah t)
def ii:PB->C4.Tt
 |[]=>(0,0,0,0,0)
 |t::_=>ah t
def nX:PB->Int
 |[]=>0
 |t::_=>t.c
variable{i:Nat}
theorem fk{α:Type}{l:List (List α)}{x:List α}(h:l[i]?=some x):l.getD i []=x:=by rw[OH,h];rfl
def aE(p:Int)(dg:Nat->Int)(w:Nat)(fss:PC):Gb.bu (C4.aN w (dN dg)) p where
 live i:=∃t r,fss[i]?=some (t::r)/\(∀u∈r,(C4.aN w (dN dg)).lt (ah u) (ah t))/\p∣t.c*aV p t.c-1
 g i:=aK (fss.getD i [])
 ld i:=ii (fss.getD i [])
 lc i:=nX (fss.getD i [])
 iv i:=aV p (nX (fss.getD i []))
 shape i hi:=by obtain⟨t,r,h1,h2,h3⟩:=hi;rw[fk h1];exact⟨aK r,λφ=>rfl,λx hx=>by obtain⟨u,hu,rfl⟩:=OR.1 hx;exact h2 u hu⟩
 inv i hi:=by obtain⟨t,r,h1,h2,h3⟩:=hi;rw[fk h1];exact h3
structure dR(p:Int)(dg:Nat->Int)(N w n:Nat)(D:Int)(fs:PB):Prop where
 dn:Dn fs
 co:∀t∈fs,0<t.c/\t.c<p
 gd:∀t∈fs,aS dg N w n D t
theorem iE.vch(h:iE p dg N w n D L r):dR p dg N w n D (L::r):=⟨h.dn,h.co,h.gd⟩
theorem qV(hp:bA p=0)(hc:0<c/\c<p):p∣c*aV p c-1:=by obtain⟨_,_,i3⟩:=nY hp hc;have h4:=jU p (c*aV p c);rw[i3] at h4;obtain⟨z,hz⟩:=h4;exact⟨-z,by rw[Int.mul_neg];omega⟩
variable{fss:PC}
theorem qW(hx:bB p dg N w n)(hD:D<=9700)(h:fss[i]?=some (t::r))(hv:dR p dg N w n D (t::r)):(aE p dg w fss).live i:=
 ⟨t,r,h,λu hu=>qX hx hD (hv.gd u (by simp[hu])) (hv.gd t (by simp)) (hv.dn.head u hu),qV hx.pr (hv.co t (by simp))⟩
structure rF{τ M:Type}{S:Gb.cH τ M}{p:Int}(G G':Gb.bu S p):Prop where
 live:∀i,G.live i->G'.live i
 g:∀i,G.live i->G'.g i=G.g i
 ld:∀i,G.live i->G'.ld i=G.ld i
 iv:∀i,G.live i->G'.iv i=G.iv i
theorem A6{τ M:Type}{S:Gb.cH τ M}{p:Int}{G G':Gb.bu S p}(h:rF G G')(φ:τ->Int):∀rp:Gb.Rp M,(∀r∈rp,G.live r.2.2)->Gb.ev G' φ rp=Gb.ev G φ rp
 |[],_=>rfl
 |r::rp,hl=>by simp only[Gb.ev];rw[A6 h φ rp λx hx=>hl x (by simp[hx]),h.g _ (hl r (by simp))]
theorem mf{τ M:Type}{S:Gb.cH τ M}{G G':Gb.bu S p}(h:rF G G'){A:τ->Prop}{X:Gb.Fn τ}(hv:Gb.Vb G A X):Gb.Vb G' A X:=by obtain⟨rp,h1,h2⟩:=hv;refine⟨rp,λr hr=>⟨h.live _ (h1 r hr).1,by rw[h.ld _ (h1 r hr).1];exact(h1 r hr).2⟩,λφ=>?_⟩;rw[A6 h φ rp λr hr=>(h1 r hr).1];exact h2 φ
variable{j:Nat}
theorem FI{τ M:Type}{S:Gb.cH τ M}{G G':Gb.bu S p}(h:rF G G'){a b:M}(hi:G.live i)(hj:G.live j)(hv:Gb.Rl G i a j b):Gb.Rl G' i a j b:=by unfold Gb.Rl at hv⊢;rw[h.ld i hi];refine(mf h hv).congr λφ=>⟨0,?_⟩;unfold Gb.Hm;rw[h.g i hi,h.g j hj,h.iv i hi,h.iv j hj];omega
theorem mc(p:Int)(dg:Nat->Int)(w:Nat)(fss gss:PC):rF (aE p dg w fss) (aE p dg w (fss++gss)):=by
 have key:∀i t r,fss[i]?=some (t::r)->(fss++gss)[i]?=some (t::r):=λi t r h=>by obtain⟨hi,_⟩:=List.getElem?_eq_some_iff.1 h;rw[O4 hi];exact h
 have key2:∀i,(aE p dg w fss).live i->(fss++gss).getD i []=fss.getD i []:=λi ⟨t,r,h,_⟩=>by rw[fk (key i t r h),fk h]
 exact⟨λi ⟨t,r,h,h2⟩=>⟨t,r,key i t r h,h2⟩,λi hi=>by show aK _=aK _;rw[key2 i hi],λi hi=>by show ii _=ii _;rw[key2 i hi],λi hi=>by show aV p (nX _)=aV p (nX _);rw[key2 i hi]⟩
theorem nl{p:Int}{more c:Int}{bt:Ft}(a0:0<=bt.a)(b0:0<=bt.b)(d0:0<=bt.d)(z0:0<=bt.z)(φ:C4.Tt->Int):∀fs:PB,(∀t∈fs,0<=t.a/\0<=t.b/\0<=t.d/\0<=t.z)->p∣aq φ (fs.map (aJ p more {bt with c:=c}))-c*aq (λs=>φ (C4.aw (bY bt) s)) fs
 |[],_=>⟨0,by simp[fl]⟩
 |t::fs,h=>by
  obtain⟨x,hx⟩:=nl (p:=p) (more:=more) (c:=c) a0 b0 d0 z0 φ fs λu hu=>h u (by simp[hu]);rw[List.map_cons,cV,cV];have e:ah (aJ p more {bt with c:=c} t)=C4.aw (bY bt) (ah t):=by have:=h t (by simp);unfold ah C4.aw C4.bH bY aJ;simp only[Prod.mk.injEq,true_and];omega
  rw[e];obtain⟨y,hy⟩:=jU p (t.c*c);show p∣(t.c*c%p)*φ (C4.aw (bY bt) (ah t))+_-_;generalize φ (C4.aw (bY bt) (ah t))=z at*;generalize t.c*c%p=q at*;have e2:q=t.c*c+p*y:=by omega
  exact⟨y*z+x,by rw[e2];grind⟩
structure nZ{p:Int}{dg:Nat->Int}{w:Nat}(G:Gb.bu (C4.aN w (dN dg)) p)(N n j:Nat)(D:Int)(L:Ft)(r:PB):Prop where
 live:G.live j
 ld:G.ld j=ah L
 made:∀φ,p∣aq φ (L::r)-G.iv j*Gb.ln φ (G.g j)
 hm:iE p dg N w n D L r
theorem uO(hx:bB p dg N w n)(hD:D<=9700)(h:fss[i]?=some (L::r))(hm:iE p dg N w n D L r):nZ (aE p dg w fss) N n i D L r:=by
 refine⟨qW hx hD h hm.vch,?_,λφ=>?_,hm⟩
 .show ii _=_;rw[fk h];rfl
 .show p∣aq φ (L::r)-aV p (nX (fss.getD i []))*Gb.ln φ (aK (fss.getD i []));rw[fk h];have e:Gb.ln φ (aK (L::r))=aq φ (L::r):=rfl;rw[e];obtain⟨z,hz⟩:=qV hx.pr (hm.co L (by simp));have e2:nX (L::r)=L.c:=rfl;rw[e2];rw[hm.c1,Int.one_mul] at hz;rw[hm.c1];generalize aq φ (L::r)=y;have e3:aV p 1=1+p*z:=by omega
  exact⟨-(z*y),by rw[e3];grind⟩
theorem vD{G:Gb.bu (C4.aN w (dN dg)) p}(hm:nZ G N n j D L r)(a:C4.Mt)(φ:C4.Tt->Int):p∣φ (C4.aw a (ah L))+aq (λs=>φ (C4.aw a s)) r-G.iv j*Gb.ln (λs=>φ (C4.aw a s)) (G.g j):=by have h:=hm.made λs=>φ (C4.aw a s);rw[cV,hm.hm.c1,Int.one_mul] at h;exact h
structure LS{p:Int}{dg:Nat->Int}{w:Nat}(G:Gb.bu (C4.aN w (dN dg)) p)(N n:Nat)(D:Int)(A:C4.Tt->Prop)(X:Gb.Fn C4.Tt)(K:Int)(acc:PB)(r:Option Ft)(rows:PC):Prop where
 ok:aG p (λu=>aS dg N w n D u/\u.k<K) rows
 made:Gb.Vb G (λs=>A s/\aZ dg s=D.toNat) λφ=>X φ-(aq φ acc+fp φ r+aq φ rows.flatten)
 tr:∀t,r=some t->aS dg N w n D t/\0<t.c/\t.c<p/\t.k<K/\∀f∈rows,∀u∈f,u.k<t.k
 av:dR p dg N w n D acc
 ak:∀t∈acc,(∀f∈rows,∀u∈f,u.k<t.k)/\(∀u,r=some u->u.k<t.k)/\t.k<K
variable{rows:PC}{acc:PB}{K:Int}{X:Gb.Fn C4.Tt}{A:C4.Tt->Prop}
theorem uQ(hx:bB p dg N w n){G:Gb.bu (C4.aN w (dN dg)) p}(hD:D<=9700){rows2:PC}{r:Option Ft}(h:LS G N n D A X K acc none rows)(hn:Nx p rows r rows2):LS G N n D A X K acc r rows2/\(r=none->Gb.Vb G (λs=>A s/\aZ dg s=D.toNat) λφ=>X φ-aq φ acc):=by
 obtain⟨hp1,hp2⟩:=dY hx.pr;have hok:aG p (λu=>aS dg N w n D u/\u.k<K/\∀a∈acc,u.k<a.k) rows:=⟨h.ok.dn,h.ok.co,λf hf t ht=>⟨(h.ok.gd f hf t ht).1,(h.ok.gd f hf t ht).2,λa ha=>(h.ak a ha).1 f hf t ht⟩⟩;have hsp:=Nx.spec hp1 (G:=λu=>aS dg N w n D u/\u.k<K/\∀a∈acc,u.k<a.k) (λx t ha hg=>⟨aS.alk x t ha hg.1,by rw[ha.1];exact hg.2⟩) hn hok;obtain⟨s1,s2,s3⟩:=hsp;have ok2:aG p (λu=>aS dg N w n D u/\u.k<K) rows2:=⟨s1.dn,s1.co,λf hf t ht=>⟨(s1.gd f hf t ht).1,(s1.gd f hf t ht).2.1⟩⟩;cases r with
 |none=>
  have hz:∀φ,p∣aq φ rows.flatten:=λφ=>by have h9:=kt (p:=p) (f:=rows.flatten) (g:=[]) (by rw[List.append_nil];exact pD hx hD λt ht=>(iF h.ok t ht).1) (λk=>by simpa [ao] using s3 k) φ;simpa [fl] using h9
  have hz2:Gb.Vb G (λs=>A s/\aZ dg s=D.toNat) λφ=>X φ-aq φ acc:=h.made.congr λφ=>by obtain⟨z,e⟩:=hz φ;refine⟨z,?_⟩;simp only[fp];omega
  have e2:rows2.flatten=[]:=by rw[List.flatten_eq_nil_iff];exact zN hn h.ok.dn rfl
  refine⟨⟨ok2,?_,λt ht=>by simp at ht,h.av,λt ht=>⟨λf hf u hu=>(s1.gd f hf u hu).2.2 t ht,λu hu=>by simp at hu,(h.ak t ht).2.2⟩⟩,λ_=>hz2⟩;rw[e2];exact hz2.congr λφ=>⟨0,by simp[fp,fl]⟩
 |some t=>
  obtain⟨g,c0,c1,hlt,hc⟩:=s3;refine⟨⟨ok2,h.made.congr λφ=>?_,λu hu=>?_,h.av,λa ha=>⟨λf hf u hu=>(s1.gd f hf u hu).2.2 a ha,λu hu=>?_,(h.ak a ha).2.2⟩⟩,λh=>by simp at h⟩
  .have h9:=kt (p:=p) (f:=rows.flatten) (g:=t::rows2.flatten) (pD hx hD λu hu=>by
    rcases OK.1 hu with h1|h1
    .exact(iF h.ok u h1).1
    .rcases OY.1 h1 with rfl|h1
     .exact g.1
     .exact(iF ok2 u h1).1) (λk=>by
    obtain⟨z,hz⟩:=hc k;refine⟨z,?_⟩;simp only[ao];by_cases hk:k=t.k
    .rw[OW hk] at hz;rw[OW hk.symm];omega
    .rw[OV hk] at hz;rw[OV (λe=>hk e.symm)];omega) φ
   rw[cV] at h9;obtain⟨z,hz⟩:=h9;refine⟨z,?_⟩;simp only[fp];omega
  .cases hu;exact⟨g.1,c0,c1,g.2.1,hlt⟩
  .cases hu;exact g.2.2 a ha
theorem Hw{G:Gb.bu (C4.aN w (dN dg)) p}(h:LS G N n D A X K acc (some t) rows):LS G N n D A X K (acc++[t]) none rows:=by
 obtain⟨g,c0,c1,hk,hlt⟩:=h.tr t rfl;refine⟨h.ok,h.made.congr λφ=>⟨0,?_⟩,λu hu=>by simp at hu,⟨?_,λu hu=>?_,λu hu=>?_⟩,λu hu=>?_⟩
 .rw[ku,cV,fl];simp only[fp];omega
 .unfold Dn;rw[List.pairwise_append];refine⟨h.av.dn,by simp,λa ha b hb=>?_⟩;rw[OL] at hb;subst hb;exact(h.ak a ha).2.1 b rfl
 .rcases OK.1 hu with hu|hu
  .exact h.av.co u hu
  .rw[OL] at hu;subst hu;exact⟨c0,c1⟩
 .rcases OK.1 hu with hu|hu
  .exact h.av.gd u hu
  .rw[OL] at hu;subst hu;exact g
 .rcases OK.1 hu with hu|hu
  .exact⟨(h.ak u hu).1,λv hv=>by simp at hv,(h.ak u hu).2.2⟩
  .rw[OL] at hu;subst hu;exact⟨hlt,λv hv=>by simp at hv,hk⟩
theorem Hx(hx:bB p dg N w n){G:Gb.bu (C4.aN w (dN dg)) p}(hD:D<=9700)(hA:∀t,aS dg N w n D t->t.k<K->A (ah t)){rows':PC}(h:LS G N n D A X K acc (some t) rows)(hm:nZ G N n j E L r)(hb:js N t L bt)(hc:p∣c+t.c)(hok:aG p (λu=>aS dg N w n D u/\u.k<t.k) rows')(hs:aG p (λu=>aS dg N w n D u/\u.k<t.k) [r.map (aJ p (bC 1 (aD N bt)) {bt with c:=c})])(hcnt:∀k,p∣ao k rows'.flatten-(ao k rows.flatten+ao k (r.map (aJ p (bC 1 (aD N bt)) {bt with c:=c})))):LS G N n D A X K acc none rows':=by
 obtain⟨gt,_,_,hlt,_⟩:=h.tr t rfl;have gL:=hm.hm.gd L (by simp);have hte:=hb.te gL;refine⟨⟨hok.dn,hok.co,λf hf u hu=>⟨(hok.gd f hf u hu).1,by have:=(hok.gd f hf u hu).2;omega⟩⟩,?_,λu hu=>by simp at hu,h.av,λa ha=>⟨λf hf u hu=>?_,λu hu=>by simp at hu,(h.ak a ha).2.2⟩⟩
 .have hone:Gb.Vb G (λs=>A s/\aZ dg s=D.toNat) λφ=>t.c*(G.iv j*Gb.ln (λs=>φ (C4.aw (bY bt) s)) (G.g j)):=by
   refine⟨[(t.c*G.iv j,bY bt,j)],λx hx2=>?_,λφ=>⟨0,?_⟩⟩
   .rw[OL] at hx2;rw[hx2];refine⟨hm.live,?_⟩;show A (C4.aw (bY bt) (G.ld j))/\aZ dg (C4.aw (bY bt) (G.ld j))=_;rw[hm.ld,hte];exact⟨hA t gt hlt,(gt.ts hx).1⟩
   .have e:Gb.ln (λs=>φ ((C4.aN w (dN dg)).act (bY bt) s)) (G.g j)=Gb.ln (λs=>φ (C4.aw (bY bt) s)) (G.g j):=rfl;simp only[Gb.ev];rw[e,Int.mul_assoc];omega
  refine(Gb.Vb.add h.made hone).congr λφ=>?_;obtain⟨z1,e1⟩:=vD hm (bY bt) φ;rw[hte] at e1;have h2:=kt (p:=p) (f:=rows'.flatten) (g:=rows.flatten++r.map (aJ p (bC 1 (aD N bt)) {bt with c:=c})) (pD hx hD λu hu=>by
   rcases OK.1 hu with h1|h1
   .exact(iF hok u h1).1
   .rcases OK.1 h1 with h1|h1
    .exact(iF h.ok u h1).1
    .exact(hs.gd _ (List.mem_singleton_self _) u h1).1) (λk=>by rw[iY];exact hcnt k) φ
  rw[ku] at h2;obtain⟨z2,e2⟩:=h2;obtain⟨z3,e3⟩:=nl (p:=p) (more:=bC 1 (aD N bt)) (c:=c) hb.a0 hb.b0 hb.d0 hb.z0 φ r λu hu=>⟨(hm.hm.gd u (by simp[hu])).a,(hm.hm.gd u (by simp[hu])).b,(hm.hm.gd u (by simp[hu])).d,(hm.hm.gd u (by simp[hu])).z⟩;obtain⟨z4,e4⟩:=hc;simp only[fp];generalize aq φ rows'.flatten=A at*;generalize aq φ rows.flatten=B at*;generalize aq φ acc=Z at*;generalize aq φ (r.map (aJ p (bC 1 (aD N bt)) {bt with c:=c}))=C at*;generalize aq (λs=>φ (C4.aw (bY bt) s)) r=D at*;generalize G.iv j*Gb.ln (λs=>φ (C4.aw (bY bt) s)) (G.g j)=E at*;generalize φ (ah t)=F at*;have e5:c=p*z4-t.c:=by omega
  have e6:E=F+D-p*z1:=by omega
  refine⟨-z2-z3-z4*D+t.c*z1,?_⟩;rw[e6];have e7:C=(p*z4-t.c)*D+p*z3:=by rw[<-e5];omega
  have e8:A=B+C+p*z2:=by omega
  rw[e8,e7];grind
 .have h1:=(hok.gd f hf u hu).2;have h2:=(h.ak a ha).2.1 t rfl;omega
def vE{p:Int}{dg:Nat->Int}{w:Nat}(G:Gb.bu (C4.aN w (dN dg)) p)(N n:Nat)(ms:PD):Prop:=∀x∈ms,∃j D,D<=9700/\nZ G N n j D x.L x.r
variable{ms:PD}
theorem uN(hx:bB p dg N w n){G:Gb.bu (C4.aN w (dN dg)) p}(hms:vE G N n ms)(hl:ms.length<=2100000)(hD:D<=9700):nr p (am 1 N N 0) (am 1 N N 1) (am 1 N N 2) (w+n) (aS dg N w n D) ms where
 pr:=hx.pr
 b0:=dZ 1 N 0
 b1:=dZ 1 N 1
 b2:=dZ 1 N 2
 alk:=aS.alk
 len:=mn hx hD
 bd:=λt g=>by have hk:=g.kb hx hD;have h3:=g.bd hx;have h4:=g.pl0;have h5:=g.pl;have h7:=g.a;have h8:=g.b;have h9:=g.d;have h10:=g.z;exact⟨by omega,by omega,by omega,by omega,by omega,h4,h5⟩
 fok:=λx hx2 u hu=>by obtain⟨j,E,hE,hm⟩:=hms x hx2;have h2:=hm.hm.co u (by simp[hu]);exact(hm.hm.gd u (by simp[hu])).fok hx hE (by omega)
 lds:=λx hx2=>by obtain⟨j,E,hE,hm⟩:=hms x hx2;have g:=hm.hm.gd x.L (by simp);have c:=hm.hm.co x.L (by simp);exact⟨g.a,g.b,g.d,g.z,c.1,c.2⟩
 rln:=λx hx2=>by obtain⟨j,E,hE,hm⟩:=hms x hx2;exact mn hx hE x.r hm.hm.dn.tail λt ht=>hm.hm.gd t (by simp[ht])
 mul:=λx hx2 t g hin bt ha hb hd hz c0 c1=>by obtain⟨j,E,hE,hm⟩:=hms x hx2;have hby:=qT g (hm.hm.gd x.L (by simp)) hin ha hb hd hz;have:=nA hx (more:=bt.a*am 1 N N 0+bt.b*am 1 N N 1+bt.d*am 1 N N 2) (c:=bt.c) g hm.hm hby ⟨c0,c1⟩ (kX hx.n0 hx.n3);exact this
 ml:=hl
theorem Aj(hx:bB p dg N w n){G:Gb.bu (C4.aN w (dN dg)) p}(hms:vE G N n ms)(hD:D<=9700)(hA:∀t,aS dg N w n D t->t.k<K->A (ah t)):mj p (am 1 N N 0) (am 1 N N 1) (am 1 N N 2) (aS dg N w n D) ms (λrows acc=>LS G N n D A X K acc none rows/\∀t∈acc,eP ms t=none) (λt rows acc=>LS G N n D A X K acc (some t) rows/\∀t∈acc,eP ms t=none) (λ_ _=>true) where
 next:=λrows acc t rows2 _ hJ hn=>⟨(uQ hx hD hJ.1 hn).1,hJ.2⟩
 left:=λt rows acc _ _ _ _ _ hI hf _=>⟨Hw hI.1,λu hu=>by
  rcases OK.1 hu with hu|hu
  .exact hI.2 u hu
  .rw[OL] at hu;rw[hu];exact hf⟩
 take:=λt rows acc x bt rows' g c0 c1 hlt hr hI hf hby hr2 hcnt=>by
  have hxm:x∈ms:=(O5.1 (List.mem_of_find?_eq_some hf)).1;have hgo:=List.find?_some hf;unfold eQ at hgo;simp only[Bool.and_eq_true] at hgo;obtain⟨j,E,hE,hm⟩:=hms x hxm;have hb:=qT g (hm.hm.gd x.L (by simp)) hgo.2 hby.a hby.b hby.d hby.z;have hcc:p∣bt.c+t.c:=by have:=hby.cc;rw[hm.hm.c1,Int.mul_one] at this;exact this
  have hs:=nA hx (more:=bC 1 (aD N bt)) (c:=bt.c) g hm.hm hb ⟨hby.c0,hby.c1⟩ rfl;refine⟨Hx hx hD hA (c:=bt.c) hI.1 hm hb hcc hr2 hs λk=>?_,hI.2⟩;have:=hcnt k;rw[kX hx.n0 hx.n3] at this;exact this
theorem Ak(hx:bB p dg N w n){G:Gb.bu (C4.aN w (dN dg)) p}(hD:D<=9700){r:Option Ft}(h:LS G N n D A X K acc r rows):acc.length<=1200000000000:=by have:=mn hx hD acc h.av.dn h.av.gd;omega
theorem Gs(hx:bB p dg N w n){G:Gb.bu (C4.aN w (dN dg)) p}(hD:D<=9700){P L1 L2 b1 b2:Ft}{r1 r2:PB}{j1 j2:Nat}{E1 E2:Int}(gP:aS dg N w n D P)(m1:nZ G N n j1 E1 L1 r1)(m2:nZ G N n j2 E2 L2 r2)(h1:js N P L1 b1)(h2:js N P L2 b2)(hc:p∣c+1)(hok:aG p (λu=>aS dg N w n D u/\u.k<P.k) rows)(hs1:aG p (λu=>aS dg N w n D u/\u.k<P.k) [r1.map (aJ p (bC 1 (aD N b1)) {b1 with c:=1})])(hs2:aG p (λu=>aS dg N w n D u/\u.k<P.k) [r2.map (aJ p (bC 1 (aD N b2)) {b2 with c:=c})])(hcnt:∀k,p∣ao k rows.flatten-(ao k (r1.map (aJ p (bC 1 (aD N b1)) {b1 with c:=1}))+ao k (r2.map (aJ p (bC 1 (aD N b2)) {b2 with c:=c})))):LS G N n D (λs=>(C4.aN w (dN dg)).lt s (ah P)) (λφ=>Gb.Hm G j1 (bY b1) φ-Gb.Hm G j2 (bY b2) φ) P.k [] none rows:=by
 refine⟨hok,Gb.Vb.zero λφ=>?_,λu hu=>by simp at hu,⟨List.Pairwise.nil,λt ht=>by simp at ht,λt ht=>by simp at ht⟩,λt ht=>by simp at ht⟩;obtain⟨z1,e1⟩:=vD m1 (bY b1) φ;obtain⟨z2,e2⟩:=vD m2 (bY b2) φ;rw[h1.te (m1.hm.gd L1 (by simp))] at e1;rw[h2.te (m2.hm.gd L2 (by simp))] at e2;have h3:=kt (p:=p) (f:=rows.flatten) (g:=r1.map (aJ p (bC 1 (aD N b1)) {b1 with c:=1})++r2.map (aJ p (bC 1 (aD N b2)) {b2 with c:=c})) (pD hx hD λu hu=>by
  rcases OK.1 hu with h1|h1
  .exact(iF hok u h1).1
  .rcases OK.1 h1 with h1|h1
   .exact(hs1.gd _ (List.mem_singleton_self _) u h1).1
   .exact(hs2.gd _ (List.mem_singleton_self _) u h1).1) (λk=>by rw[iY];exact hcnt k) φ
 rw[ku] at h3;obtain⟨z3,e3⟩:=h3;obtain⟨z4,e4⟩:=nl (p:=p) (more:=bC 1 (aD N b1)) (c:=1) h1.a0 h1.b0 h1.d0 h1.z0 φ r1 λu hu=>⟨(m1.hm.gd u (by simp[hu])).a,(m1.hm.gd u (by simp[hu])).b,(m1.hm.gd u (by simp[hu])).d,(m1.hm.gd u (by simp[hu])).z⟩;obtain⟨z5,e5⟩:=nl (p:=p) (more:=bC 1 (aD N b2)) (c:=c) h2.a0 h2.b0 h2.d0 h2.z0 φ r2 λu hu=>⟨(m2.hm.gd u (by simp[hu])).a,(m2.hm.gd u (by simp[hu])).b,(m2.hm.gd u (by simp[hu])).d,(m2.hm.gd u (by simp[hu])).z⟩;obtain⟨z6,e6⟩:=hc;have q1:Gb.Hm G j1 (bY b1) φ=G.iv j1*Gb.ln (λs=>φ (C4.aw (bY b1) s)) (G.g j1):=rfl;have q2:Gb.Hm G j2 (bY b2) φ=G.iv j2*Gb.ln (λs=>φ (C4.aw (bY b2) s)) (G.g j2):=rfl;show p∣Gb.Hm G j1 (bY b1) φ-Gb.Hm G j2 (bY b2) φ-(0+0+_);rw[q1,q2];generalize G.iv j1*Gb.ln (λs=>φ (C4.aw (bY b1) s)) (G.g j1)=A at*;generalize G.iv j2*Gb.ln (λs=>φ (C4.aw (bY b2) s)) (G.g j2)=B at*;generalize aq φ rows.flatten=C at*;generalize aq φ (r1.map (aJ p (bC 1 (aD N b1)) {b1 with c:=1}))=D at*;generalize aq φ (r2.map (aJ p (bC 1 (aD N b2)) {b2 with c:=c}))=E at*;generalize aq (λs=>φ (C4.aw (bY b1) s)) r1=F1 at*;generalize aq (λs=>φ (C4.aw (bY b2) s)) r2=F2 at*;have e7:c=p*z6-1:=by omega
 have e8:E=(p*z6-1)*F2+p*z5:=by rw[<-e7];omega
 refine⟨-z1+z2-z3-z4-z5-z6*F2,?_⟩;have e9:C=D+E+p*z3:=by omega
 have e10:D=F1+p*z4:=by omega
 have e11:A=φ (ah P)+F1-p*z1:=by omega
 have e12:B=φ (ah P)+F2-p*z2:=by omega
 rw[e9,e10,e11,e12,e8];grind
theorem Gz(hx:bB p dg N w n){G:Gb.bu (C4.aN w (dN dg)) p}(hD:D<=9700){fs:PB}(hv:dR p dg N w n D fs)(hok:aG p (λu=>aS dg N w n D u/\u.k<K) rows)(hcnt:∀k,p∣ao k rows.flatten-ao k fs):LS G N n D (λ_=>True) (λφ=>aq φ fs) K [] none rows:=by
 refine⟨hok,Gb.Vb.zero λφ=>?_,λu hu=>by simp at hu,⟨List.Pairwise.nil,λt ht=>by simp at ht,λt ht=>by simp at ht⟩,λt ht=>by simp at ht⟩;obtain⟨z,hz⟩:=kt (p:=p) (f:=rows.flatten) (g:=fs) (pD hx hD λu hu=>by
  rcases OK.1 hu with h1|h1
  .exact(iF hok u h1).1
  .exact hv.gd u h1) hcnt φ
 refine⟨-z,?_⟩;simp only[fl,fp];rw[Int.mul_neg];omega
end Go.Proofs.YtjkalahhpobefaaGreat
