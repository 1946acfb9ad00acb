/- Keys of the terms of. -/
import Derived.Test.YtjkalahhpobefaaGreatZL
import Derived.Test.YtjkalahhpobefaaGreatWG
set_option maxHeartbeats 4000000
set_option maxRecDepth 100000
namespace Go.Proofs.YtjkalahhpobefaaGreat
set_option linter.all false
open Go.Proofs.Tryz Go.RowKit
variable{xs:PI}{N:Nat}{o:Int}
theorem IQ(ho:o=1\/o=2)(h0:0<N)(h3:N<=3)(hx:vl N xs):0<=bC o xs/\bC o xs<1125899906842624:=by
 obtain⟨lx,nx,dx⟩:=hx;unfold bC W0 W1 W2;rcases AG (xs:=xs) (by omega) (by omega) with ⟨a,rfl⟩|⟨a,b,rfl⟩|⟨a,b,c,rfl⟩
 .have:=nx a (by simp);simp only[au] at dx;rcases ho with rfl|rfl<;>simp<;>omega
 .have:=nx a (by simp);have:=nx b (by simp);simp only[au] at dx;rcases ho with rfl|rfl<;>simp<;>omega
 .have:=nx a (by simp);have:=nx b (by simp);have:=nx c (by simp);simp only[au] at dx;rcases ho with rfl|rfl<;>simp<;>omega
structure kf(p o:Int)(N:Nat)(D:Nat->Int)(fss:Lt):Prop where
 canon:∀i,ck p o N (fss.getD i [])
 nn:∀i,∀t∈fss.getD i [],∀x∈t.2,0<=x
 deg:∀i,∀t∈fss.getD i [],au t.2<=D i
variable{t:Tm}{i:Nat}{p:Int}
theorem kf.exq{D:Nat->Int}{fss:Lt}(h:kf p o N D fss)(hD:∀i,i<fss.length->D i<=16000)(ht:t∈fss.getD i []):vl N t.2:=by
 have hi:i<fss.length:=by apply OU;intro hle;rw[OH,OJ hle] at ht;simp at ht
 exact⟨(h.canon i).len t ht,h.nn i t ht,Int.le_trans (h.deg i t ht) (hD i hi)⟩
def kd(o ov:Int)(i:Nat)(k:Int):PI->Int:=λxs=>if jv o ov i xs=k then 1 else 0
def cv(o ov k:Int)(fss:Lt):Nat->Int
 |0=>0
 |i+1=>cv o ov k fss i+az (kd o ov i k) (fss.getD i [])
theorem pe{ys:PI}(h3:N<=3)(hx:xs.length=N)(hy:ys.length=N):bC o (aP (·+·) xs ys)=bC o xs+bC o ys:=by
 unfold bC
 match xs,ys,hx,hy with
 |[],[],_,_=>simp[aP]
 |[a],[x],_,_=>simp[aP];grind
 |[a,b],[x,y],_,_=>simp[aP];grind
 |[a,b,c],[x,y,z],_,_=>simp[aP];grind
 |_::_::_::_::_,_,h,_=>simp at h;omega
 |[],_::_,h,g=>simp at h g;omega
 |[_],[],h,g=>simp at h g;omega
 |[_],_::_::_,h,g=>simp at h g;omega
 |[_,_],[],h,g=>simp at h g;omega
 |[_,_],[_],h,g=>simp at h g;omega
 |[_,_],_::_::_::_,h,g=>simp at h g;omega
 |[_,_,_],[],h,g=>simp at h g;omega
 |[_,_,_],[_],h,g=>simp at h g;omega
 |[_,_,_],[_,_],h,g=>simp at h g;omega
 |[_,_,_],_::_::_::_::_,h,g=>simp at h g;omega
def N8(n j:Nat)(f:LT):Lt:=(List.replicate n []).set j f
structure DS where
 v:Lt
 q:Lt
 l:Lt
def N9(o ov:Int)(j:Nat)(e:PI)(g:Lt):Bool:=
 match pR o ov g g.length with
 |none=>false
 |some (k,u)=>decide (k=j)&& !GN e u.2
def Oa(o ov:Int)(lss:PA)(j:Nat)(e:PI):Option Nat:=lss.findIdx? (N9 o ov j e)
def xO(p:Int)(t u:Tm):Tm:=(t.1*aV p u.1%p,aP (· - ·) t.2 u.2)
def xP(o ov:Int)(g:Lt):Tm:=((pR o ov g g.length).getD (0,bV)).2
def tF(p o ov:Int)(lss:PA)(s:DS):Option DS:=
 match pR o ov s.v s.v.length with
 |none=>none
 |some (j,t)=>
  match Oa o ov lss j t.2 with
  |none=>some ⟨eh p o s.v (N8 s.v.length j [(p-t.1,t.2)]),s.q,s.l.set j (s.l.getD j []++[t])⟩
  |some i=>some ⟨eh p o s.v (jB p o [(p-(xO p t (xP o ov (lss.getD i []))).1,(xO p t (xP o ov (lss.getD i []))).2)] (lss.getD i [])),s.q.set i (s.q.getD i []++[xO p t (xP o ov (lss.getD i []))]),s.l⟩
def Dv(p o ov:Int)(lss:PA)(a b:DS):Prop:=∀P:DS->Prop,P a->(∀b c,P b->tF p o ov lss b=some c->P c)->P b
variable{lss:PA}{ov:Int}
theorem Dv.refl(s:DS):Dv p o ov lss s s:=λ_ h _=>h
theorem Dv.step{a b c:DS}(h:Dv p o ov lss a b)(k:tF p o ov lss b=some c):Dv p o ov lss a c:=λP h1 h2=>h2 b c (h P h1 h2) k
theorem Dv.ind{p o ov:Int}{lss:PA}{a:DS}{motive:∀b,Dv p o ov lss a b->Prop}(refl:motive a (Dv.refl a))(step:∀{b c}(h1:Dv p o ov lss a b)(h2:tF p o ov lss b=some c),motive b h1->motive c (h1.step h2)){b:DS}(h:Dv p o ov lss a b):motive b h:=by have:=h (λb=>∃h,motive b h) ⟨_,refl⟩ (λb c ⟨h1,h2⟩ h3=>⟨_,step h1 h3 h2⟩);exact this.2
theorem Dv.trans{a b c:DS}(h:Dv p o ov lss a b)(k:Dv p o ov lss b c):Dv p o ov lss a c:=by
 induction k using Dv.ind with
 |refl=>exact h
 |step _ h2 ih=>exact Dv.step ih h2
theorem Dv.first{a c:DS}(h:Dv p o ov lss a c):a=c\/∃b,tF p o ov lss a=some b/\Dv p o ov lss b c:=by
 induction h using Dv.ind with
 |refl=>exact Pf rfl
 |step h1 h2 ih=>
  rcases ih with rfl|⟨b,hb,hd⟩
  .exact Pg ⟨_,h2,Dv.refl _⟩
  .exact Pg ⟨b,hb,Dv.step hd h2⟩
theorem xQ{α:Type}(l:List (List α))(i:Nat):l.getD i []=[]\/l.getD i []∈l:=by
 by_cases h:i<l.length
 .right;rw[OH,OI h];exact OE h
 .left;rw[OH,OJ (by omega)];rfl
theorem I5{a:Int}(h:p∣a)(h1:1<=a)(h2:a<p):False:=by
 obtain⟨k,hk⟩:=h;have hp:0<p:=by omega
 have:0<k:=by apply Int.lt_of_not_ge;intro hle;have:=Int.mul_le_mul_of_nonneg_left hle (Int.le_of_lt hp);rw[Int.mul_zero] at this;omega
 have h3:=Int.mul_le_mul_of_nonneg_left (show 1<=k by omega) (Int.le_of_lt hp);rw[Int.mul_one] at h3;omega
theorem vY:∀{xs:PI},(∀x∈xs,0<=x)->0<=au xs
 |[],_=>by simp[au]
 |x::xs,h=>by simp only[au];have:=h x (by simp);have:=vY (xs:=xs) λy hy=>h y (by simp[hy]);omega
def aD(N:Nat)(t:Ft):PI:=[t.a,t.b,t.d].take N
structure Gd(o ov:Int)(N R:Nat)(Q:Int)(t:Ft):Prop where
 k:t.k=jv o ov t.pl (aD N t)
 a:0<=t.a
 b:0<=t.b
 d:0<=t.d
 deg:t.a+t.b+t.d<=Q
 z:t.z=0
 pl0:0<=t.pl
 pl:t.pl<R
 n1:N<=1->t.b=0
 n2:N<=2->t.d=0
variable{R:Nat}
theorem Gd.alk{Q:Int}(x t:Ft)(h:eC x t)(g:Gd o ov N R Q t):Gd o ov N R Q x:=by
 obtain⟨h1,h2,h3,h4,h5,h6⟩:=h;have e:aD N x=aD N t:=by unfold aD;rw[h2,h3,h4]
 exact⟨by rw[h1,e,h6];exact g.k,by rw[h2];exact g.a,by rw[h3];exact g.b,by rw[h4];exact g.d,by rw[h2,h3,h4];exact g.deg,by rw[h5];exact g.z,by rw[h6];exact g.pl0,by rw[h6];exact g.pl,λh=>by rw[h3];exact g.n1 h,λh=>by rw[h4];exact g.n2 h⟩
theorem Gd.exq{Q:Int}{t:Ft}(h0:0<N)(h3:N<=3)(hQ:Q<=16000)(g:Gd o ov N R Q t):vl N (aD N t)/\au (aD N t)=t.a+t.b+t.d:=by
 have h1:=g.a;have h2:=g.b;have h4:=g.d;have h5:=g.deg;have hN:N=1\/N=2\/N=3:=by omega
 rcases hN with rfl|rfl|rfl
 .have:=g.n1 (by omega);have:=g.n2 (by omega);refine⟨⟨by simp[aD],λx hx=>?_,?_⟩,?_⟩
  .simp[aD] at hx;omega
  .simp[aD,au];omega
  .simp[aD,au];omega
 .have:=g.n2 (by omega);refine⟨⟨by simp[aD],λx hx=>?_,?_⟩,?_⟩
  .simp[aD] at hx;omega
  .simp[aD,au];omega
  .simp[aD,au];omega
 .refine⟨⟨by simp[aD],λx hx=>?_,?_⟩,?_⟩
  .simp[aD] at hx;omega
  .simp[aD,au];omega
  .simp[aD,au];omega
def Ob(ov:Int)(R:Nat):PI:=(List.range R).map λi:Nat=>bS ov (i:Int)
def dW(o ov:Int)(N:Nat)(i:Nat)(t:Tm):Ft:=fe (bS ov i) (am o N N 0) (am o N N 1) (am o N N 2) i t
theorem Mj{Q:Int}(h0:0<N)(h3:N<=3)(hl:t.2.length=N)(hn:∀x∈t.2,0<=x)(hd:au t.2<=Q)(hi:i<R):Gd o ov N R Q (dW o ov N i t)/\aD N (dW o ov N i t)=t.2/\(dW o ov N i t).c=t.1/\(dW o ov N i t).pl=i/\(dW o ov N i t).k=jv o ov i t.2:=by
 have hN:N=1\/N=2\/N=3:=by omega
 obtain⟨c,e⟩:=t;simp only at hl hn hd;have key:aD N (dW o ov N i (c,e))=e/\(dW o ov N i (c,e)).k=jv o ov i e:=by
  rcases hN with rfl|rfl|rfl
  .obtain⟨a,rfl⟩:∃a,e=[a]:=by
    match e,hl with
    |[a],_=>exact⟨a,rfl⟩
   refine⟨by simp[aD,dW,fe],?_⟩;simp[dW,fe,jv,bC,am,kN]
  .obtain⟨a,b,rfl⟩:∃a b,e=[a,b]:=by
    match e,hl with
    |[a,b],_=>exact⟨a,b,rfl⟩
   refine⟨by simp[aD,dW,fe],?_⟩;simp[dW,fe,jv,bC,am,kN]
  .obtain⟨a,b,d,rfl⟩:∃a b d,e=[a,b,d]:=by
    match e,hl with
    |[a,b,d],_=>exact⟨a,b,d,rfl⟩
   refine⟨by simp[aD,dW,fe],?_⟩;simp[dW,fe,jv,bC,am,kN]
 have hpl:(dW o ov N i (c,e)).pl=i:=rfl;refine⟨?_,key.1,rfl,hpl,key.2⟩;have hg:∀m,0<=e.getD m 0:=λm=>by
  by_cases hm:m<e.length
  .have:e.getD m 0=e[m]:=by simp[OH,hm]
   rw[this];exact hn _ (OE hm)
  .rw[OH,OJ (by omega)];simp
 refine⟨by rw[key.1,key.2,hpl],hg 0,hg 1,hg 2,?_,rfl,by rw[hpl];omega,by rw[hpl];omega,λh=>?_,λh=>?_⟩
 .show e.getD 0 0+e.getD 1 0+e.getD 2 0<=Q;have:e.getD 0 0+e.getD 1 0+e.getD 2 0=au e:=by
   rcases hN with rfl|rfl|rfl
   .match e,hl with
    |[a],_=>simp[au]
   .match e,hl with
    |[a,b],_=>simp[au]
   .match e,hl with
    |[a,b,d],_=>simp[au];omega
  omega
 .show e.getD 1 0=0;rw[OH,OJ (by omega)];rfl
 .show e.getD 2 0=0;rw[OH,OJ (by omega)];rfl
def dG(o ov:Int)(N:Nat)(fss:Lt):Nat->PB
 |0=>[]
 |i+1=>dG o ov N fss i++(fss.getD i []).map (dW o ov N i)
theorem xp{o ov:Int}{N:Nat}{fss:Lt}:∀{n:Nat}{x:Ft},x∈dG o ov N fss n->∃i t,i<n/\t∈fss.getD i []/\x=dW o ov N i t
 |0,x,h=>by simp[dG] at h
 |n+1,x,h=>by
  simp only[dG,OK,OR] at h;rcases h with h|⟨t,ht,rfl⟩
  .obtain⟨i,t,h1,h2,h3⟩:=xp h;exact⟨i,t,by omega,h2,h3⟩
  .exact⟨n,t,by omega,ht,rfl⟩
structure oO(p o ov:Int)(N R:Nat)(Q:Int)(g:Lt)(fs:PB):Prop where
 dn:Dn fs
 co:∀t∈fs,0<t.c/\t.c<p
 gd:∀t∈fs,Gd o ov N R Q t
 cn:∀k,ao k fs=cv o ov k g R
 ld:pR o ov g g.length=(fs.head?).map λL=>(L.pl.toNat,(L.c,aD N L))
abbrev Ef:=Nat×Ft×PB
def jK:Nat->PC->List Ef
 |_,[]=>[]
 |i,[]::fss=>jK (i+1) fss
 |i,(L::r)::fss=>(i,L,r)::jK (i+1) fss
theorem tG:∀(fss:PC) (i:Nat) (f:PB),jK i (fss++[f])=jK i fss++jK (i+fss.length) [f]
 |[],i,f=>by simp[jK]
 |[]::fss,i,f=>by have:=tG fss (i+1) f;simp only[List.cons_append,jK,OZ] at this⊢;rw[this,show i+1+fss.length=i+(fss.length+1) by omega]
 |(L::r)::fss,i,f=>by have:=tG fss (i+1) f;simp only[List.cons_append,jK,OZ] at this⊢;rw[this,show i+1+fss.length=i+(fss.length+1) by omega]
variable{sv:PK}{k0 k1 k2:Int}{ob:Nat}{w w':PJ}{S:Nat->Prop}
theorem aQ.frm(h:aQ w ob p k0 k1 k2 sv)(hf:aj S w w')(hn:¬S ob):aQ w' ob p k0 k1 k2 sv:=
 ⟨Oz h.lt hf.size,hf.cell h.c0 hn,hf.cell h.c1 hn,hf.cell h.c2 hn,hf.cell h.c3 hn,hf.cell h.c4 hn⟩
variable{rows:PC}{us:PH}{rv:PK}{sb B:Nat}
theorem aT.ob_apart(h:aT B w sb ob rv us rows)(ho:aQ w ob p k0 k1 k2 sv):rv.ownBlock≠some ob:=by intro e;obtain⟨_,_,_,h2⟩:=h.rws.kind ob e 0 _ ho.c0;cases h2
theorem xR(key:Int){p:Int}(hp:2<=p/\p<=101):∀(rows:PC),(∀r∈rows,∀t∈r,0<=t.c/\t.c<p)->0<=dA key rows/\dA key rows<=101*rows.length
 |[],_=>by simp[dA]
 |r::rows,h=>by
  have ih:=xR key hp rows λr hr=>h r (by simp[hr]);have h1:0<=ji key r/\ji key r<=101:=by
   cases r with
   |nil=>simp[ji]
   |cons t ts=>have:=h (t::ts) (by simp) t (by simp);simp only[ji];split<;>omega
  simp only[dA,List.map_cons,List.sum_cons,OZ] at ih⊢;omega
def gi(key:Int)(rows:PC)(m:Nat):PC:=tk key (rows.take m)++rows.drop m
theorem xS(key:Int)(rows:PC)(m:Nat):(gi key rows m).length=rows.length:=by simp[gi,tk];omega
theorem xT(key:Int)(rows:PC)(m:Nat)(h:m<rows.length):(gi key rows m).getD m []=rows.getD m []:=by
 have hl:(tk key (rows.take m)).length=m:=by simp[tk];omega
 unfold gi;rw[OH,O9 (by omega),hl,Nat.sub_self,List.getElem?_drop,Nat.add_zero,OH]
theorem Eg(key:Int)(rows:PC)(m:Nat)(h:m<rows.length):(gi key rows m).set m (eM key (rows.getD m []))=gi key rows (m+1):=by
 have hl:(tk key (rows.take m)).length=m:=by simp[tk];omega
 have e:rows.getD m []=rows[m]:=by simp[OH,h]
 unfold gi;rw[List.set_append_right _ _ (by omega),hl,Nat.sub_self,Pd h,List.set_cons_zero,OX h,e];unfold tk;rw[O0,List.append_assoc];rfl
theorem Oc(key:Int)(rows:PC)(m:Nat)(h:m<rows.length):dA key (rows.take (m+1))=dA key (rows.take m)+ji key (rows.getD m []):=by
 have e:rows.getD m []=rows[m]:=by simp[OH,h]
 rw[OX h,e];unfold dA;rw[O0,List.sum_append];simp only[List.map_cons,List.map_nil,List.sum_cons,List.sum_nil];omega
theorem Oe(key:Int)(rows:PC)(m:Nat)(h:m<rows.length)(he:eM key (rows.getD m [])=rows.getD m []):gi key rows (m+1)=gi key rows m:=by
 rw[<-Eg key rows m h,he];have:=xT key rows m h;apply List.ext_getElem?;intro i;rw[List.getElem?_set];split
 .rename_i e;subst e;rw[xS,OW h];have hl:m<(gi key rows m).length:=by rw[xS];exact h
  rw[<-this,OH,OI hl];rfl
 .rfl
def qt(L:Nat)(u:PK):Prop:=∀g,u.ownBlock=some g->g<L
def jy(L:Nat)(us:PH)(rows:PC):Prop:=∀i,i<rows.length->rows.getD i []≠[]->qt L (us.getD i aL)
variable{fs:PB}{v:PK}
theorem Fv.vlt(h:Fv w v fs)(hn:fs≠[]):qt w.heap.size v:=by obtain⟨a,cap,rfl,_,h1⟩:=h;obtain⟨b,off,rfl,hlt,_⟩:=h1 (List.length_pos_iff.2 hn);intro g hg;simp only[Value.ownBlock,OP] at hg;omega
theorem aT.loc(h:aT B w sb ob rv us rows):jy w.heap.size us rows:=λi hi hn=>(h.rws.fvs i hi).vlt hn
variable{g L:Nat}
theorem Of(h:Fv w v fs)(hg:w.grownBy w' (some g))(hv:fs≠[]->qt L v)(hL:L<=g):Fv w' v fs:=by obtain⟨a,cap,rfl,hc,h1⟩:=h;refine⟨a,cap,rfl,hc,λhp=>?_⟩;obtain⟨b,off,rfl,hlt,hcs⟩:=h1 hp;have hb:=hv (List.length_pos_iff.1 hp) b rfl;exact⟨b,off,rfl,Oz hlt hg.size,λj u hj=>by rw[j7 hg hlt (by omega)];exact hcs j u hj⟩
theorem aT.far(h:aT B w sb ob rv us rows)(hg:w.grownBy w' (some g))(hl:jy L us rows)(hL:L<=g)(hs:sb≠g)(hr:rv.ownBlock≠some g):aT B w' sb ob rv us rows:=
 ⟨World.ownsRow.kept h.box hg (Pg (by simpa [Value.ownBlock] using hs)),h.kind.below (hg.block sb h.lt.2 (by simpa using hs)),h.rws.len,World.ownsRow.kept h.rws.own hg (Pg hr),λk hk=>bU.below (h.rws.kind k hk) (hg.block k (Ot h.rws.own k hk).2 (λe=>hr (by rw[hk,e]))),λi hi=>Of (h.rws.fvs i hi) hg (hl i hi) hL⟩
structure dw(B L:Nat)(w wr:PJ)(sb ob:Nat)(rv:PK)(rows:PC):Prop where
 sum:∃us,aT B wr sb ob rv us rows/\jy L us rows
 frm:aj (λk=>rv.ownBlock=some k) w wr
variable{wr:PJ}
theorem dw.next(h:dw B L w wr sb ob rv rows)(hb:Io wr w'):dw B L w w' sb ob rv rows:=by obtain⟨us,hs,hl⟩:=h.sum;exact⟨⟨us,hs.next hb,hl⟩,h.frm.trans (aj.of_below (S:=λ_=>False) hb) λ_ _ h=>h.elim⟩
variable{n:Nat}
theorem dw.put{c:Nat}(h:dw B L w wr sb ob (PM g n c) rows)(i:Nat)(hi:i<rows.length)(u:PK)(f:PB)(hu:Fv wr u f)(hv:qt L u):dw B L w (wr.setCell (PN g i) u) sb ob (PM g n c) (rows.set i f):=by
 obtain⟨us,hs,hl⟩:=h.sum;have s:=hs.put i hi u f hu;refine⟨⟨_,s.1,λj hj hne=>?_⟩,h.frm.trans (aj.of_grown (S:=λk=>k=g) s.2 λx e=>by simpa using e.symm) λx _ e=>by subst e;rfl⟩;rw[List.length_set] at hj;rw[oc] at hne⊢;rw[hs.rws.len];by_cases e:i=j/\j<rows.length
 .rw[OW e];exact hv
 .rw[OV e] at hne⊢;exact hl j hj hne
theorem dw.far(h:dw B L w wr sb ob rv rows)(hg:wr.grownBy w' (some g))(hL:L<=g)(hw:w.heap.size<=g)(hs:sb<w.heap.size)(hr:∀k,rv.ownBlock=some k->k<w.heap.size):dw B L w w' sb ob rv rows:=by obtain⟨us,hs1,hl⟩:=h.sum;exact⟨⟨us,hs1.far hg hl hL (by omega) (λe=>by have:=hr g e;omega),hl⟩,h.frm.trans (aj.of_grown (S:=λk=>k=g) hg λx e=>by simpa using e.symm) λx hx e=>by omega⟩
theorem Og(B L sb ob:Nat)(p k0 k1 k2 key:Int)(sv rv:PK)(us:PH)(rows:PC)(w:PJ)(hs:aT B w sb ob rv us rows)(hL:jy L us rows)(hob:aQ w ob p k0 k1 k2 sv)(hp:2<=p/\p<=101)(hn:rows.length<=1000)(hc:∀r∈rows,∀t∈r,0<=t.c/\t.c<p):Calls prog 157 #[PL sb,PO key] w λe w'=>e=.returned (PQ (dA key rows%p))/\dw B L w w' sb ob rv (tk key rows):=by
 have HS:=ae hs;have HOB:=ae hob;have HC:=ae hc;have HAP:=ae (hs.ob_apart hob);have hq:=xR key hp rows hc;have HBD:=ae hq;obtain⟨hp0,hp1⟩:=hp;have H0:Po (dw B L w w sb ob rv (gi key rows 0)):=by
  show dw _ _ _ _ _ _ _ _;have e:gi key rows 0=rows:=by simp[gi,tk]
  rw[e];exact⟨⟨us,hs,hL⟩,aj.refl _ _⟩
 obtain⟨q0,q1,q2⟩:=hs.cells;obtain⟨ra,rc,rfl⟩:=cl hs.rws.own;clear hs hL hob hc hq;go_enter func157,ntmps157;go_wp2;clear q0 q1 q2;go_loopw [5,13] (λs i wr=>∃m:Nat,m<=rows.length/\i=PO m/\s=.int .u32 (dA key (rows.take m))/\dw B L w wr sb ob (.slice ra rows.length rc) (gi key rows m)) (λ_ i _=>rows.length-(intOf i).toNat);case atStart=>exact⟨0,OB _,rfl,by simp[dA],H0.o⟩
 case round=>
  clear H0;obtain⟨m,hm,rfl,rfl,ht⟩:=hrel;have HT:=ae ht;obtain⟨us1,hs1,hl1⟩:=ht.sum;have HL1:=ae hl1;have HS1:=ae hs1;obtain⟨x0,x1,x2⟩:=hs1.cells;clear ht hs1 hl1;by_cases hm2:m<rows.length
  .have hml:m<(gi key rows m).length:=by rw[xS];exact hm2
   obtain⟨g,c,e,_,hlt,z1,z2⟩:=HS1.o.rws.at m hml;simp only[OQ] at e;obtain⟨rfl,_,rfl⟩:=e;have hfv:=HS1.o.rws.fvs m hml;rw[xT key rows m hm2] at hfv;have HSET:=ae (Eg key rows m hm2);have HSAME:=ae (Oe key rows m hm2);have HSUC:=ae (Oc key rows m hm2);have hb0:=xR key ⟨hp0,hp1⟩ (rows.take m) λr hr=>HC.o r (Pj hr);have hlm:((rows.take m).length:Int)<=1000:=by rw[O7];omega
   have hrow:∀t∈rows.getD m [],0<=t.c/\t.c<p:=λt ht=>by
    rcases xQ rows m with h|h
    .rw[h] at ht;simp at ht
    .exact HC.o _ h t ht
   have hvl:=HL1.o m hml;rw[xT key rows m hm2] at hvl;generalize us1.getD m aL=u at hfv z1 hvl;generalize rows.getD m []=row at hfv HSET HSAME HSUC hrow hvl;generalize dA key (rows.take m)=acc at HSUC hb0;cases row with
   |nil=>
    obtain⟨a,cap,rfl,_,_⟩:=hfv;go_wp2;go_roundw;case rel=>exact⟨m+1,by omega,by go_num,by rw[HSUC.o];simp[ji],by rw[HSAME.o rfl];exact HT.o⟩
    case measure=>simp[intOf];omega
   |cons t ts=>
    obtain⟨b,of2,cap,rfl,hcap,hlt2,hft,h1,h2⟩:=hfv.head;obtain⟨f0,f1,f2,f3,f4,f5,f6⟩:=hft;have htc:=hrow t (by simp);have hle:(1:Int)<=(ts.length:Int)+1:=by omega
    obtain⟨A,hA,hplA⟩:=Fv.tail ⟨h1,h2⟩;have HPA:=ae hplA;have HVA:Po (qt L (.slice (some A) ts.length (cap-1))):=λg hg=>by
     have hb2:=hvl (by simp) b rfl;simp only[Value.ownBlock,OP] at hg;have:A.block=b:=by
      by_cases hc1:cap=1
      .rw[OW hc1] at hA;simp only[OP] at hA;rw[<-hA]
      .rw[OV hc1] at hA;simp only[OP] at hA;rw[<-hA]
     omega
    clear hfv hrow h1 h2 hplA hvl;by_cases hk:t.k=key
    .have w32:IntKind.u32.wrap (acc+t.c)=acc+t.c:=by rw[IntKind.wrap_u32];omega
     have w32c:IntKind.u32.wrap t.c=t.c:=by rw[IntKind.wrap_u32];omega
     go_wp2;go_region;all_goals
      have HTD:=ae (HT.o.next (Ov wr.heap.size wr).drew);have HP:=ae (HTD.o.put m hml _ ts (HPA.o.below (Ov wr.heap.size wr).drew) HVA.o);go_wp2;go_roundw;case rel=>exact⟨m+1,by omega,by go_num,by rw[HSUC.o];simp[ji,hk],by rw[<-HSET.o];simp only[eM,OW hk];exact HP.o⟩
      case measure=>simp[intOf];omega
    .have HK:=ae hk;go_wp2;go_roundw;case rel=>exact⟨m+1,by omega,by go_num,by rw[HSUC.o];simp[ji,HK.o],by rw[HSAME.o (by simp[eM,HK.o])];exact HT.o⟩
     case measure=>simp[intOf];omega
  .have e:m=rows.length:=by omega
   subst e;have HO2:=ae (HOB.o.frm HT.o.frm HAP.o);have c0:=HO2.o.c0;rw[OO (Ou _)];have HB2:=HBD.o;have hm0:=Int.emod_nonneg (dA key rows) (show p≠0 by omega);have hm1:=Int.emod_lt_of_pos (dA key rows) (show 0<p by omega);have w8:IntKind.u8.wrap (dA key rows%p)=dA key rows%p:=by rw[IntKind.wrap_u8];omega
   have hfin:gi key rows rows.length=tk key rows:=by simp[gi]
   rw[hfin] at HT;go_wp2;go_ret;exact⟨rfl,HT.o⟩
def tH:Option PK->Nat
 |some (.slice _ k _)=>k
 |_=>0
def oP(w:PJ):PK->Nat
 | .slice (some ⟨b,off,_⟩) n _=>((List.range n).map λi=>tH (w.cell? (PN b (off+i)))).sum
 |_=>0
theorem Oh(rows:PC):((List.range rows.length).map λi=>(rows.getD i []).length).sum=gh rows:=by
 unfold gh;congr 1;apply List.ext_getElem
 .simp
 .intro i h1 h2;simp at h1;simp[OH,h1]
theorem aM.total(h:aM B w v us rows):oP w v=gh rows:=by
 rcases h.own.2 with ⟨rfl,h0⟩|⟨g,cap,ag,rfl,_⟩
 .rw[O8] at h0;subst h0;rfl
 .simp only[oP];rw[<-Oh rows];congr 1;refine List.map_congr_left λi hi=>?_;rw[List.mem_range] at hi;obtain⟨g2,c2,e,_,_,hc,_⟩:=h.at i hi;simp only[OQ,OP,Addr.mk.injEq,true_and,and_true] at e;obtain⟨rfl,_⟩:=e;rw[ON,hc];obtain⟨a,c,e2,_⟩:=h.fvs i hi;rw[e2];rfl
structure xU(p:Int)(B:Nat)(w wr:PJ)(sb ob:Nat)(rv:PK)(rows ag:PC):Prop where
 tk:dw B w.heap.size w wr sb ob rv ag
 res:Bx w.heap.size wr w.heap.size ⟨0,0,0,0,0,0,0⟩
 go:∀r rows2,Nx p ag r rows2->Nx p rows r rows2
 co:∀r∈ag,∀t∈r,0<t.c/\t.c<p
 dn:∀r∈ag,Dn r
 len:ag.length=rows.length
theorem xU.next{ag:PC}(h:xU p B w wr sb ob rv rows ag)(hb:Io wr w'):xU p B w w' sb ob rv rows ag:=
 ⟨h.tk.next hb,h.res.below hb,h.go,h.co,h.dn,h.len⟩
variable{w2:PJ}
theorem dw.trans{L2:Nat}{w1:PJ}{rows2:PC}(h:dw B L2 w w1 sb ob rv rows)(k:dw B L w1 w2 sb ob rv rows2):dw B L w w2 sb ob rv rows2:=⟨k.sum,h.frm.trans k.frm λ_ _ h=>h⟩
theorem pz{t:Ft}(h:Bx B w g t)(hf:aj S w w')(hn:¬S g):Bx B w' g t:=hf.own h λk e=>by simp only[Value.ownBlock,OP] at e;subst e;exact hn
theorem dw.rv_lt(h:dw B L w wr sb ob rv rows):∀g,rv.ownBlock=some g->B<=g/\g<wr.heap.size:=by obtain⟨us,hs,_⟩:=h.sum;exact Ot hs.rws.own
theorem Oi(f:Nat):∀x,Lib.bitLenAux f x<=f:=by
 induction f with
 |zero=>intro x;simp[Lib.bitLenAux]
 |succ f ih=>
  intro x;simp only[Lib.bitLenAux];split
  .omega
  .have:=ih (x/2);omega
theorem Eh(x:Nat):Lib.bitLen x<=64:=Oi 64 x
theorem tI(k:Int)(f:PB):∀(rows:PC) (a:Nat),a<rows.length->ao k (rows.set a f).flatten=ao k rows.flatten-ao k (rows.getD a [])+ao k f
 |[],a,h=>by simp at h
 |r::rows,0,h=>by simp only[List.set_cons_zero,List.flatten_cons,iY,List.getD_cons_zero];omega
 |r::rows,a+1,h=>by have:=tI k f rows a (by simpa using h);simp only[List.set_cons_succ,List.flatten_cons,iY,List.getD_cons_succ];omega
theorem Ei(f:PB):∀(rows:PC) (a:Nat),a<rows.length->gh (rows.set a f)+(rows.getD a []).length=gh rows+f.length
 |[],a,h=>by simp at h
 |r::rows,0,h=>by simp only[gh,List.set_cons_zero,List.map_cons,List.sum_cons,List.getD_cons_zero];omega
 |r::rows,a+1,h=>by have:=Ei f rows a (by simpa using h);simp only[gh,List.set_cons_succ,List.map_cons,List.sum_cons,List.getD_cons_succ] at this⊢;omega
variable{f:PB}{G:Ft->Prop}
theorem aG.set(h:aG p G rows)(hf:aG p G [f])(a:Nat):aG p G (rows.set a f):=by
 refine⟨λr hr=>?_,λr hr=>?_,λr hr=>?_⟩<;>rcases List.mem_or_eq_of_mem_set hr with hr|rfl
 .exact h.dn r hr
 .exact hf.dn r (by simp)
 .exact h.co r hr
 .exact hf.co r (by simp)
 .exact h.gd r hr
 .exact hf.gd r (by simp)
theorem aG.nil(p:Int)(G:Ft->Prop):aG p G [[]]:=⟨λr hr=>by simp at hr;subst hr;exact List.Pairwise.nil,λr hr t ht=>by simp at hr;subst hr;simp at ht,λr hr t ht=>by simp at hr;subst hr;simp at ht⟩
theorem aG.append{a b:PC}(h:aG p G a)(k:aG p G b):aG p G (a++b):=by
 refine⟨λr hr=>?_,λr hr=>?_,λr hr=>?_⟩<;>rcases OK.1 hr with hr|hr
 .exact h.dn r hr
 .exact k.dn r hr
 .exact h.co r hr
 .exact k.co r hr
 .exact h.gd r hr
 .exact k.gd r hr
theorem aG.getD(h:aG p G rows)(a:Nat):aG p G [rows.getD a []]:=by
 rcases xQ rows a with e|hm
 .rw[e];exact aG.nil p G
 .exact⟨λr hr=>by simp at hr;subst hr;exact h.dn _ (by simpa using hm),λr hr=>by simp at hr;subst hr;exact h.co _ (by simpa using hm),λr hr=>by simp at hr;subst hr;exact h.gd _ (by simpa using hm)⟩
theorem aG.merge(hp:2<=p)(hG:∀x t,eC x t->G t->G x){g:PB}(h:aG p G [f])(k:aG p G [g]):aG p G [cT p f g]:=by
 have hm:=N2 p hp f g (h.co f (by simp)) (k.co g (by simp));refine⟨λr hr=>?_,λr hr t ht=>?_,λr hr t ht=>?_⟩<;>(rw[OL] at hr;subst hr)
 .exact N3 p f g (h.dn f (by simp)) (k.dn g (by simp))
 .exact(hm t ht).2
 .obtain⟨⟨u,hu,ha⟩,_⟩:=hm t ht;rcases hu with hu|hu
  .exact hG t u ha (h.gd f (by simp) u hu)
  .exact hG t u ha (k.gd g (by simp) u hu)
theorem Tryz.infoFv:(prog.info? 79).map (λi=>(i.zero,i.size,i.bytes))=some (some (.slice none 0 0),1,24):=by kernel_rfl
structure gF(p:Int)(G:Ft->Prop)(B:Nat)(w wr:PJ)(sb ob:Nat)(rv0 rv:PK)(rows0:PC)(f0:PB)(rows:PC)(v:PK)(f:PB):Prop where
 sum:∃us,aT B wr sb ob rv us rows
 frm:aj (fM sb rv0) w wr
 loc:∀k,rv.ownBlock=some k->k<w.heap.size->rv0.ownBlock=some k
 fv:Fv wr v f
 ok:aG p G rows
 okf:aG p G [f]
 cn:∀k,p∣ao k rows.flatten+ao k f-(ao k rows0.flatten+ao k f0)
variable{f0:PB}{rows0:PC}{rv0:PK}
theorem gF.next(h:gF p G B w wr sb ob rv0 rv rows0 f0 rows v f)(hb:Io wr w'):gF p G B w w' sb ob rv0 rv rows0 f0 rows v f:=by obtain⟨us,hs⟩:=h.sum;exact⟨⟨us,hs.next hb⟩,h.frm.trans (aj.of_below (S:=λ_=>False) hb) (λ_ _ h=>h.elim),h.loc,h.fv.below hb,h.ok,h.okf,h.cn⟩
variable{v2:PK}
theorem gF.merge{c:Nat}(hp:2<=p)(hG:∀x t,eC x t->G t->G x)(h:gF p G B w wr sb ob rv0 (PM g n c) rows0 f0 rows v f)(a:Nat)(ha:a<rows.length)(hv:Fv wr v2 (cT p f (rows.getD a []))):gF p G B w (wr.setCell (PN g a) (.slice none 0 0)) sb ob rv0 (PM g n c) rows0 f0 (rows.set a []) v2 (cT p f (rows.getD a [])):=by
 obtain⟨us,hs⟩:=h.sum;have s:=hs.put a ha (.slice none 0 0) [] (mo none 0);have hf:aj (λk=>k=g) wr (wr.setCell (PN g a) (.slice none 0 0)):=aj.of_grown s.2 λx e=>by simpa using e.symm
 refine⟨⟨_,s.1⟩,h.frm.trans hf λx hx e=>?_,h.loc,fN hf (λk e=>by subst e;exact kJ (hs.rws.kind _ rfl)) hv,h.ok.set (aG.nil p G) a,h.okf.merge hp hG (h.ok.getD a),λk=>?_⟩
 .subst e;exact Pg (h.loc _ rfl hx)
 .rw[tI k [] rows a ha];obtain⟨m,hm⟩:=N1 p k f (rows.getD a []);obtain⟨q,hq⟩:=h.cn k;exact⟨m+q,by simp only[ao];rw[Int.mul_add];omega⟩
theorem gF.grow(h:gF p G B w wr sb ob rv0 rv rows0 f0 rows v f)(hs:aT B wr sb ob rv us rows)(h2:w2.ownsRow B 79 1 v2 (rows.length+1) (us++[.slice none 0 0]))(g2:wr.grownBy w2 rv.ownBlock)(k2:∀g,v2.ownBlock=some g->cG w2 g)(l2:v2.ownBlock=rv.ownBlock\/v2.ownBlock=some wr.heap.size):gF p G B w (w2.setCell (PN sb 1) v2) sb ob rv0 v2 rows0 f0 (rows++[[]]) v f:=by
 have hg:=hs.grow (mo none 0) h2 g2 k2;have hf:aj (fM sb rv) wr (w2.setCell (PN sb 1) v2):=by have hb2:=World.ownsRow.kept hs.box g2 (Pg (by simpa [Value.ownBlock] using λe=>hs.apart e.symm));have s:=OF hb2 1 v2;exact(aj.of_grown (S:=fM sb rv) g2 λx e=>Pg e).trans (aj.of_grown (S:=λk=>k=sb) s.2 λx e=>by simpa using e.symm) λx _ e=>Pf e
 refine⟨⟨_,hg⟩,h.frm.trans hf λx hx e=>?_,λk hk hlt=>?_,fN hf (λk e=>?_) h.fv,h.ok.append (aG.nil p G),h.okf,λk=>?_⟩
 .rcases e with e|e
  .exact Pf e
  .exact Pg (h.loc x e hx)
 .rcases l2 with l2|l2
  .exact h.loc k (by rw[<-l2];exact hk) hlt
  .rw[l2] at hk;simp only[OP] at hk;have:=h.frm.size;omega
 .rcases e with e|e
  .subst e;exact hs.kind
  .exact kJ (hs.rws.kind k e)
 .have:=h.cn k;rw[List.flatten_append,iY];simpa [ao] using this
theorem Ej{ops:Array Oper}{rest:List Oper}{o:Oper}{a:Act}{Q:Exit->Act->PJ->Prop}(hgd:o.guard=none)(s x:Operand)(t:TypeId)(ho:o.op=.call {callee:=.builtin .append,args:=#[s,x],argTypes:=#[t,t]})(ht:prog.underlying t=some (.slice 79))(B:Nat)(v:PK)(us:PH)(rows:PC)(hs:a.eval s=v)(h:aM B w v us rows)(ad:Addr)(c:Nat)(hx:a.eval x=.slice (some ad) 1 c)(hnew:∀j y,[Value.slice none 0 0][j]?=some y->w.cell? (ad.add j)=some y)(hn:rows.length<=1000)(hB:B<=w.heap.size)(hK:∀v' w',w'.ownsRow B 79 1 v' (rows.length+1) (us++[.slice none 0 0])->w.grownBy w' v.ownBlock->(∀g,v'.ownBlock=some g->cG w' g)->(v'.ownBlock=v.ownBlock\/v'.ownBlock=some w.heap.size)->wpList prog ops Q rest (a.put o.dst v') w'):wpList prog ops Q (o::rest) a w:=by refine wpList_plain hgd λK hK'=>?_;obtain⟨i0,hi,hz0,hz1,hz2⟩:=info_parts Tryz.infoFv;obtain⟨v',w',hr,h2,h3,h4,h5⟩:=vL (P:=prog) w (λu=>∃a n c,u=.slice a n c) B t o.type 79 i0 _ 1 24 ht hi hz0 hz1 hz2 rfl (by decide) (λu hu=>by simp[Value.cells] at hu;exact⟨_,_,_,hu⟩) v rows.length us h.own h.kind ad 1 c [.slice none 0 0] (by decide) rfl hnew (λu hu=>by rw[OL] at hu;subst hu;rfl) (λu hu=>by rw[OL] at hu;exact⟨_,_,_,hu⟩) (by unfold maxLen;omega) (by omega) hB;unfold Oper.wp execOp;simp only[ho,resolve,invoke,builtin,Sem.run_bind,Sem.run_pure,Result.andThen_ok,List.map_toArray,List.map_cons,List.map_nil,hs,hx,hr];exact hK' _ _ (hK v' w' h2 h3 h4 h5)
theorem Tryz.infoIntB:(prog.info? 3).map (λi=>(i.zero,i.size,i.bytes))=some (some (PO 0),1,8):=by kernel_rfl
theorem L0:(madeCells #[PO 0] 2)=#[PO 0,PO 0]:=by kernel_rfl
theorem L3(W:PJ)(a b:Int)(T:TypeId):Sl (W.alloc (.cells #[PO a,PO b] T)) (PM W.heap.size 2 2) [a,b]:=by
 refine⟨_,2,rfl,λ_=>⟨_,0,rfl,by simp,λi hi=>?_⟩⟩;rw[cell_of_row _ W.heap.size _ _ T (0,0) (heap_alloc_new W _)];have:i=0\/i=1:=by simp at hi;omega
 rcases this with rfl|rfl<;>rfl
theorem GU(t:Ft)(w:PJ)(ha:0<=t.a/\t.a<=30000)(hb:0<=t.b/\t.b<=30000)(hc:0<=t.c/\t.c<=255):Calls prog 163 #[aX t,PO 2] w λe w'=>∃g,e=.returned (.agg #[PO t.c,PM g 2 2])/\w.heap.size<=g/\Sl w' (PM g 2 2) [t.a,t.b]/\Io w w':=by
 have hmk:=fun(W:PJ)=>run_make_row' (P:=prog) 45 3 (PO 0) 8 underlying45 Tryz.infoIntB rfl .i64 .i64 2 (by omega) (by omega) W;have hmk2:∀W:PJ,(Instr.makeSlice 45 (PO 2) (PO 2)).run prog W=.ok (PM W.heap.size 2 2) (W.alloc (.cells #[PO 0,PO 0] 3)):=λW=>by have h:=hmk W;rw[L0] at h;exact h
 clear hmk;obtain⟨ha0,ha1⟩:=ha;obtain⟨hb0,hb1⟩:=hb;obtain⟨hc0,hc1⟩:=hc;have hw1:IntKind.i64.wrap t.a=t.a:=by rw[IntKind.wrap_i64];omega
 have hw2:IntKind.i64.wrap t.b=t.b:=by rw[IntKind.wrap_i64];omega
 have hw3:IntKind.i64.wrap t.c=t.c:=by rw[IntKind.wrap_i64];omega
 unfold aX;go_enter func163,ntmps163;go_wp2;refine wp_loop_rounds 3 ?_;rw[rounds_succ];go_wp2;rw[rounds_succ];go_wp2;rw[rounds_succ];go_wp2;refine OC (v:=.agg #[PO t.c,PM (w.heap.size+1+1) 2 2]) (by simp[results,Tryz.results163,go_sem]) rfl ⟨_,rfl,by omega,?_,n7⟩;have h:=L3 ((w.alloc (.cells #[PO t.k,PP t.a,PP t.b,PP t.d,PP t.z,PQ t.pl,PQ t.c] 88)).alloc (.cells #[PO t.c,PM (w.heap.size+1+1) 2 2] 47)) t.a t.b 3;simpa using h
theorem Tryz.infoPlB:(prog.info? 40).map (λi=>(i.zero,i.size,i.bytes))=some (some (.slice none 0 0),1,24):=by kernel_rfl
theorem Tryz.infoTmB:(prog.info? 47).map (λi=>(i.zero,i.size,i.bytes))=some (some (.agg #[PO 0,.slice none 0 0]),2,32):=by kernel_rfl
theorem AH:(madeCells #[.slice none 0 0] 1)=#[.slice none 0 0]:=by kernel_rfl
variable{e:PI}{c:Int}{s:PK}{W:PJ}
theorem GO(h:W.ownsRow B 47 2 v 1 [PO c,s])(hs:Sl W s e):Pl W v [(c,e)]:=by
 rcases h.2 with ⟨rfl,h0⟩|⟨g,cap,ag,rfl,hb,hg,hnc,_⟩
 .simp at h0
 .refine⟨_,cap,rfl,hnc,λ_=>⟨g,0,rfl,(Ot h g rfl).2,λi hi=>?_⟩⟩;have e0:i=0:=by simp at hi;omega
  subst e0;exact⟨Oq h 0 (by omega),s,Oq h 1 (by omega),hs⟩
theorem GP{b:Nat}{x:PK}(hs:Sl W v e){a:Option Addr}{c:Nat}(hc:W.cell? (PN b 0)=some (.slice a n c)):Sl (W.setCell (PN b 0) x) v e:=by
 obtain⟨va,vc,rfl,h⟩:=hs;refine⟨va,vc,rfl,λhp=>?_⟩;obtain⟨b2,off,rfl,hlt,hat⟩:=h hp;refine⟨b2,off,rfl,by simpa [World.setCell] using hlt,λi hi=>?_⟩;have hci:=hat i hi;rw[World.cell?_setCell_other]
 .exact hci
 .intro e2;rw[<-e2,hc] at hci;simp at hci
theorem GQ{v5:PK}(hw:Io w W)(ho:W.ownsRow w.heap.size 40 1 (PM w.heap.size 1 1) 1 [.slice none 0 0])(h5:W.ownsRow B 47 2 v5 1 [PO c,s])(hs:Sl W s e):Vl (W.setCell (PN w.heap.size 0) v5) (PM w.heap.size 1 1) [[(c,e)]]/\Io w (W.setCell (PN w.heap.size 0) v5):=by
 have st:=ho.stored 0 v5;have hc:=Oq ho 0 (by omega);have h6:(W.setCell (PN w.heap.size 0) v5).ownsRow B 47 2 v5 1 [PO c,s]:=h5.kept st.2 (by
  rcases i5 (by decide) h5 ho with h|h
  .exact Pf h
  .exact Pg h)
 refine⟨⟨_,1,rfl,λ_=>⟨w.heap.size,0,rfl,(Ot st.1 _ rfl).2,λi hi=>?_⟩⟩,hw.setCell (Ou _) _⟩;have e0:i=0:=by simp at hi;omega
 subst e0;exact⟨v5,Oq st.1 0 (by omega),GO h6 (GP hs hc)⟩
theorem GR(W:PJ)(c:Int)(s:PK)(T:TypeId):∀j u,[Value.int .i64 c,s][j]?=some u->(W.alloc (.cells #[PO c,s] T)).cell? (((PN W.heap.size 0):Addr).add j)=some u:=by
 intro j u hj;have hl:j<2:=by apply OU;intro h;rw[OJ (by simpa using h)] at hj;simp at hj
 have:j=0\/j=1:=by omega
 rcases this with rfl|rfl<;>simp at hj<;>subst hj<;>simp[Addr.add,go_sem]
theorem GS(t:Ft)(r:PB)(v:PK)(w:PJ)(hf:Fv w v (t::r))(ha:0<=t.a/\t.a<=30000)(hb:0<=t.b/\t.b<=30000)(hc:0<=t.c/\t.c<=255)(hp:t.pl=0)(hr:∀u∈r,1<=u.pl/\u.pl<=255)(hl:r.length<=1000):Calls prog 135 #[v,PO 2,PO 0,PO 1] w λe w'=>∃g,e=.returned (PM g 1 1)/\w.heap.size<=g/\Vl w' (PM g 1 1) [[(t.c,[t.a,t.b])]]/\Io w w':=by
 have hmk2:∀W:PJ,(Instr.makeSlice 32 (PO 1) (PO 1)).run prog W=.ok (PM W.heap.size 1 1) (W.alloc (.cells #[.slice none 0 0] 40)):=λW=>by have h:=run_make_row' (P:=prog) 32 40 (.slice none 0 0) 24 underlying32 Tryz.infoPlB rfl .i64 .i64 1 (by omega) (by omega) W;rw[AH] at h;exact h
 have HF:=ae hf;have HR:=ae hr;obtain⟨va,vc,rfl,_,_⟩:=hf;obtain⟨i0,hi,hz0,hz1,hz2⟩:=info_parts Tryz.infoTmB;have HI:=ae (Ow hi (Ow hz0 (Ow hz1 hz2)));clear hi hz0 hz1 hz2 hr;have HBA:=ae (fun(W:PJ)=>GU t W ha hb hc);unfold aX at HBA;clear ha hb hc;obtain⟨w1,hw1⟩:∃w1,w1=w.alloc (.cells #[.slice none 0 0] 40):=⟨_,rfl⟩;have HB1:Po (Io w w1):=by rw[hw1];exact ai
 have HO1:Po (w1.ownsRow w.heap.size 40 1 (PM w.heap.size 1 1) 1 [.slice none 0 0]):=by rw[hw1];exact⟨by simp,.inr ⟨w.heap.size,1,_,rfl,Ou _,heap_alloc_new w _,Ou _,by decide,by simp,by simp⟩⟩
 go_enter func135,ntmps135;go_wp2_with fail;rw[<-hw1];clear hw1;go_loopw [17] (λi wr=>(i=PO 0/\wr=w1)\/∃m:Nat,1<=m/\m<=(t::r).length/\i=PO m/\Vl wr (PM w.heap.size 1 1) [[(t.c,[t.a,t.b])]]/\Io w wr) (λi _=>(t::r).length-(intOf i).toNat);case atStart=>exact Pf ⟨rfl,rfl⟩
 case round=>
  rcases hrel with ⟨rfl,rfl⟩|⟨m,hm1,hm,rfl,hvl,hbr⟩
  .obtain⟨b,off,rfl,hlt,_,hft⟩:=(HF.o.below HB1.o).at 0 (by simp);have e0:(t::r).getD 0 dT=t:=rfl;rw[e0] at hft;obtain⟨f0,f1,f2,f3,f4,f5,f6⟩:=hft;rw[hp] at f5;simp only[Nat.zero_mul,Nat.add_zero] at f0 f1 f2 f3 f4 f5 f6;go_upto_region 7 with fail;have hwl:=(Ot HO1.o w.heap.size rfl).2;have z0:wr.cell? (PN w.heap.size 0)=some (.slice none 0 0):=Oq HO1.o 0 (by omega);rw[hp] at HBA;obtain⟨w2,hw2⟩:∃w2,w2=wr.alloc (.cells #[PO t.k,PP t.a,PP t.b,PP t.d,PP t.z,PQ 0,PQ t.c] 88):=⟨_,rfl⟩;have HB2:Po (Io wr w2):=by rw[hw2];exact ai
   have HO2:Po (∀W,Io w2 W->W.ownsRow w.heap.size 40 1 (PM w.heap.size 1 1) 1 [.slice none 0 0]/\Io w W):=λW hb=>⟨aF (aF HO1.o HB2.o) hb,(In HB1.o HB2.o).trans (hb.mono (OA HB1.o.size HB2.o.size))⟩;have FX:Po (cu w2 wr.heap.size 0 {t with pl:=0}):=by rw[hw2];exact(show Bx wr.heap.size _ wr.heap.size {t with pl:=0} from dr (Ou _) {t with pl:=0}).at
   obtain⟨x0,x1,x2,x3,x4,x5,x6⟩:=FX.o;simp only[ON] at x0 x1 x2 x3 x4 x5 x6;have y0:=af z0 HB2.o;rw[<-hw2];clear hw2 f0 f1 f2 f3 f4 f5 f6 z0;go_region_law (first|(refine nO rfl (.tmp 38) (.tmp 42) 40 rfl w8.heap.size 47 i0 _ 2 32 underlying40 HI.o.1 HI.o.2.1 HI.o.2.2.1 HI.o.2.2.2 rfl (by decide) (.slice none 0 0) 0 [] (by simp[Act.eval,Act.put]) (World.ownsRow_nil _ _ _ _) (PN w8.heap.size 0) 1 1 [PO t.c,PM g8 2 2] (by simp[Act.eval,Act.put]) rfl (GR w8 _ _ _) (by simp[Value.oneCell']) (by unfold maxLen;omega) (by omega) (by simp) ?_;intro v5 w5 r1 r2 r3;simp only[ON,List.nil_append] at r1;obtain⟨va5,vc5,hv5⟩:=cE r1;subst hv5;have HB5:=ae ((Ov _ _).grown r2 (Ou _) λk hk=>by simp[Value.ownBlock] at hk);have HR1:=ae r1;have HS5:=ae ((HS8.o.below ai).below HB5.o);have HO5:=ae (HO2.o w5 ((In HB8.o ai).trans (HB5.o.mono (by have:=HB8.o.size;simp;omega))));have y5:=Oq HO5.o.1 0 (by omega);have y6:=Oo HO5.o.1 0;simp only[List.getElem?_cons_zero] at y5;clear r1 r2 r3)|(go_simp;refine(HBA.o _).mono ?_;rintro e w8 ⟨g8,rfl,q1,q2,q3⟩;have HB8:=ae ((Ov w2.heap.size w2).drew.trans q3);have HS8:=ae q2;have y8:=af y0 HB8.o;have hl8:w.heap.size<w8.heap.size:=(by have:=HB8.o.size;have:=HB2.o.size;omega);clear q1 q2 q3;dsimp only));all_goals
    have HEND:=ae (GQ HO5.o.2 HO5.o.1 HR1.o HS5.o);go_wp2;go_roundw;case rel=>exact Pg ⟨1,Ou _,by simp,by go_num,HEND.o.1,HEND.o.2⟩
    case measure=>simp[intOf]
  .have HVL:=ae hvl;have HBR:=ae hbr;clear hvl hbr;by_cases hm2:m<(t::r).length
   .obtain⟨b,off,rfl,hlt,_,hft⟩:=(HF.o.below HBR.o).at m hm2;have HTP:Po (1<=((t::r).getD m dT).pl/\((t::r).getD m dT).pl<=255):=by
     have hm3:m-1<r.length:=by simp at hm2;omega
     have:(t::r).getD m dT∈r:=by obtain⟨k,rfl⟩:∃k,m=k+1:=⟨m-1,by omega⟩;rw[List.getD_cons_succ,OH,OI (by simpa using hm2)];exact OE _
     exact HR.o _ this
    generalize (t::r).getD m dT=u at hft HTP;obtain⟨f0,f1,f2,f3,f4,f5,f6⟩:=hft;obtain⟨h1,h2⟩:=HTP.o;have hw1:IntKind.i64.wrap u.pl=u.pl:=by rw[IntKind.wrap_i64];omega
    have hn1:¬u.pl<1:=by omega
    have hn2:decide (u.pl<1)=false:=by simpa using hn1
    have hn0:decide (0<=u.pl)=true:=by simp;omega
    have hmI:(m:Int)<(r.length:Int)+1:=by simp at hm2;omega
    have HVL2:=ae (HVL.o.below (ai (A:=.cells #[PO u.k,PP u.a,PP u.b,PP u.d,PP u.z,PQ u.pl,PQ u.c] 88)));go_wp2;go_roundw;case rel=>exact Pg ⟨m+1,by omega,by simp at hm2⊢;omega,by go_num,HVL2.o,HBR.o.alloc HBR.o.size _⟩
    case measure=>simp[intOf] at hm2⊢;omega
   .have e:m=(t::r).length:=by omega
    subst e;go_wp2;go_ret;exact⟨_,rfl,Ou _,HVL.o,HBR.o⟩
theorem GV(B bx mg:Nat)(ev:PK)(w:PJ)(hB:B<=w.heap.size)(hc:w.cell? (PN bx 0)=some (PM mg 1 1))(hm:w.ownsRow B 40 1 (PM mg 1 1) 1 [.slice none 0 0])(hne:bx≠mg)(hs:Sl w ev [0,1]):Calls prog 39 #[PO 0,.agg #[PO 3,ev],PL bx] w λe w'=>e=.returned (.tuple #[])/\∃pg cap,w'.cell? (PN bx 0)=some (PM mg 1 1)/\w'.cell? (PN mg 0)=some (PM pg 1 cap)/\w'.cell? (PN pg 0)=some (PO 3)/\Below B w w':=by
 obtain⟨ea,ec,rfl,_⟩:=hs;obtain⟨w1,hw1⟩:∃w1,w1=w.alloc (.cells #[PO 3,.slice ea 2 ec] 47):=⟨_,rfl⟩;have HB1:Po (Io w w1):=by rw[hw1];exact ai
 have a0:w1.cell? (PN w.heap.size 0)=some (PO 3):=by rw[hw1];simp[go_sem]
 have a1:w1.cell? (PN w.heap.size 1)=some (.slice ea 2 ec):=by rw[hw1];simp[go_sem]
 have HM1:=ae (aF hm HB1.o);have b0:=af hc HB1.o;have m0:w1.cell? (PN mg 0)=some (.slice none 0 0):=Oq HM1.o 0 (by omega);have HLT:Po (B<=mg/\mg<w.heap.size/\bx<w.heap.size):=⟨(Ot hm mg rfl).1,(Ot hm mg rfl).2,OG w _ hc⟩;have HBB:Po (B<=w.heap.size/\bx≠mg):=⟨hB,hne⟩;clear hc hm hne hB;go_enter func39,ntmps39;go_upto_region 1 with fail;rw[<-hw1];clear hw1;have m1:=Oo HM1.o 0;have HMA:Po (∀W,Io w1 W->W.ownsRow B 40 1 (PM mg 1 1) 1 [.slice none 0 0]/\Io w W):=λW hb=>⟨aF HM1.o hb,In HB1.o hb⟩;have hcap:¬(281474976710656<Builtin.nextslicecap 1 0*Tryz.t47.bytes):=by decide+kernel
 have e1:∀A,(w1.alloc A).cell? (PN bx 0)=some (PM mg 1 1):=λA=>af b0 ai;have e2:∀A,(w1.alloc A).cell? (PN mg 0)=some (.slice none 0 0):=λA=>af m0 ai;have e3:∀A,(w1.alloc A).cell? (PN w.heap.size 0)=some (PO 3):=λA=>af a0 ai;have e4:∀A,(w1.alloc A).cell? (PN w.heap.size 1)=some (.slice ea 2 ec):=λA=>af a1 ai;have e5:∀A B,((w1.alloc A).alloc B).cell? (PN mg 0)=some (.slice none 0 0):=λA B=>af (e2 A) ai;have e6:∀A B,((w1.alloc A).alloc B).frozen? (PN mg 0)=false:=λA B=>Oo (HMA.o _ (((Ov _ _).alloc (Ou _) _).alloc (by simp) _)).1 0;have e7:∀A B,((w1.alloc A).alloc B).cell? (PN bx 0)=some (PM mg 1 1):=λA B=>af (e1 A) ai;have HFIN:Po (∀(A:Obj)(C:Array PK)(T:TypeId)(c:Nat),(((w1.alloc A).alloc (.cells (#[PO 3,.slice ea 2 ec]++C) T)).setCell (PN mg 0) (PM (w1.heap.size+1) 1 c)).cell? (PN bx 0)=some (PM mg 1 1)/\(((w1.alloc A).alloc (.cells (#[PO 3,.slice ea 2 ec]++C) T)).setCell (PN mg 0) (PM (w1.heap.size+1) 1 c)).cell? (PN mg 0)=some (PM (w1.heap.size+1) 1 c)/\(((w1.alloc A).alloc (.cells (#[PO 3,.slice ea 2 ec]++C) T)).setCell (PN mg 0) (PM (w1.heap.size+1) 1 c)).cell? (PN (w1.heap.size+1) 0)=some (PO 3)/\Below B w (((w1.alloc A).alloc (.cells (#[PO 3,.slice ea 2 ec]++C) T)).setCell (PN mg 0) (PM (w1.heap.size+1) 1 c))):=λA C T c=>by
  have hbw:Io w1 ((w1.alloc A).alloc (.cells (#[PO 3,.slice ea 2 ec]++C) T)):=((Ov _ _).alloc (Ou _) _).alloc (by simp) _;obtain⟨hm,hb⟩:=HMA.o _ hbw;have hsz:=HB1.o.size;have hlt:=HLT.o;have hne:w1.heap.size+1≠mg:=by omega
  refine⟨?_,Oq (hm.stored 0 _).1 0 (by omega),?_,(hb.mono HBB.o.1).setCell hlt.1 _⟩
  .rw[World.cell?_of_block (w:=(w1.alloc A).alloc _) (Below.heap_setCell _ _ _ _ HBB.o.2)];exact af b0 hbw
  .rw[World.cell?_of_block (w:=(w1.alloc A).alloc _) (Below.heap_setCell _ _ _ _ hne)];have hh:=heap_alloc_new (w1.alloc A) (.cells (#[PO 3,.slice ea 2 ec]++C) T);have e:(w1.alloc A).heap.size=w1.heap.size+1:=by simp
   rw[e] at hh;rw[cell_of_row _ _ 0 _ T (0,0) hh,Array.getElem?_append_left (by simp)];rfl
 go_region;all_goals
  go_end0;have h:=HFIN.o;exact⟨rfl,_,_,(h _ _ _ _).1,(h _ _ _ _).2.1,(h _ _ _ _).2.2.1,(h _ _ _ _).2.2.2.drew.drew⟩
end Go.Proofs.YtjkalahhpobefaaGreat
