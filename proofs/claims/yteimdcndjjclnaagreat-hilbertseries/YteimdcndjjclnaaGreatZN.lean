/- Keys of the terms of vectors, and what a vector has of a key: plain mathematics. -/
import Derived.Test.YteimdcndjjclnaaGreatZH
import Derived.Test.YteimdcndjjclnaaGreatTM
set_option maxHeartbeats 2000000
set_option maxRecDepth 100000
namespace Go.Proofs.YteimdcndjjclnaaGreat
set_option linter.all false
open Go.Proofs.Tryz Go.RowKit
theorem tS{o:Int}{N:Nat}{xs:List Int}(ho:o=1\/o=2)(h0:0<N)(h3:N<=3)(hx:jc N xs):0<=bA o xs/\bA o xs<1125899906842624:=by
 obtain⟨lx,nx,dx⟩:=hx;unfold bA W0 W1 W2;rcases tA (xs:=xs) (by omega) (by omega) with ⟨a,rfl⟩|⟨a,b,rfl⟩|⟨a,b,c,rfl⟩
 .have:=nx a (by simp);simp only[ah] at dx;rcases ho with rfl|rfl<;>simp<;>omega
 .have:=nx a (by simp);have:=nx b (by simp);simp only[ah] at dx;rcases ho with rfl|rfl<;>simp<;>omega
 .have:=nx a (by simp);have:=nx b (by simp);have:=nx c (by simp);simp only[ah] at dx;rcases ho with rfl|rfl<;>simp<;>omega
structure mI(p o:Int)(N:Nat)(D:Nat->Int)(fss:List (List Tm)):Prop where
 canon:∀i,dQ p o N (fss.getD i [])
 nn:∀i,∀t∈fss.getD i [],∀x∈t.2,0<=x
 deg:∀i,∀t∈fss.getD i [],ah t.2<=D i
theorem mI.exq{p o:Int}{N:Nat}{D:Nat->Int}{fss:List (List Tm)}(h:mI p o N D fss)(hD:∀i,i<fss.length->D i<=16000){i:Nat}{t:Tm}(ht:t∈fss.getD i []):jc N t.2:=by
 have hi:i<fss.length:=by apply LF;intro hle;rw[Lr,Lu hle] at ht;simp at ht
 exact⟨(h.canon i).len t ht,h.nn i t ht,Int.le_trans (h.deg i t ht) (hD i hi)⟩
def kd(o ov:Int)(i:Nat)(k:Int):List Int->Int:=λxs=>if eF o ov i xs=k then 1 else 0
def cv(o ov k:Int)(fss:List (List Tm)):Nat->Int
 |0=>0
 |i+1=>cv o ov k fss i+am (kd o ov i k) (fss.getD i [])
theorem zn{o:Int}{N:Nat}{xs ys:List Int}(h3:N<=3)(hx:xs.length=N)(hy:ys.length=N):bA o (bL (·+·) xs ys)=bA o xs+bA o ys:=by
 unfold bA
 match xs,ys,hx,hy with
 |[],[],_,_=>simp[bL]
 |[a],[x],_,_=>simp[bL];grind
 |[a,b],[x,y],_,_=>simp[bL];grind
 |[a,b,c],[x,y,z],_,_=>simp[bL];grind
 |_::_::_::_::_,_,h,_=>simp at h;omega
 |[],_::_,h,g=>simp at h g;omega
 |[_],[],h,g=>simp at h g;omega
 |[_],_::_::_,h,g=>simp at h g;omega
 |[_,_],[],h,g=>simp at h g;omega
 |[_,_],[_],h,g=>simp at h g;omega
 |[_,_],_::_::_::_,h,g=>simp at h g;omega
 |[_,_,_],[],h,g=>simp at h g;omega
 |[_,_,_],[_],h,g=>simp at h g;omega
 |[_,_,_],[_,_],h,g=>simp at h g;omega
 |[_,_,_],_::_::_::_::_,h,g=>simp at h g;omega
def KU(n j:Nat)(f:List Tm):List (List Tm):=(List.replicate n []).set j f
structure DS where
 v:List (List Tm)
 q:List (List Tm)
 l:List (List Tm)
def KV(o ov:Int)(j:Nat)(e:List Int)(g:List (List Tm)):Bool:=
 match oX o ov g g.length with
 |none=>false
 |some (k,u)=>decide (k=j)&& !Fb e u.2
def KW(o ov:Int)(lss:List (List (List Tm)))(j:Nat)(e:List Int):Option Nat:=lss.findIdx? (KV o ov j e)
def vl(p:Int)(t u:Tm):Tm:=(t.1*aN p u.1%p,bL (· - ·) t.2 u.2)
def vm(o ov:Int)(g:List (List Tm)):Tm:=((oX o ov g g.length).getD (0,bT)).2
def rk(p o ov:Int)(lss:List (List (List Tm)))(s:DS):Option DS:=
 match oX o ov s.v s.v.length with
 |none=>none
 |some (j,t)=>
  match KW o ov lss j t.2 with
  |none=>some ⟨BB p o s.v (KU s.v.length j [(p-t.1,t.2)]),s.q,s.l.set j (s.l.getD j []++[t])⟩
  |some i=>some ⟨BB p o s.v (jh p o [(p-(vl p t (vm o ov (lss.getD i []))).1,(vl p t (vm o ov (lss.getD i []))).2)] (lss.getD i [])),s.q.set i (s.q.getD i []++[vl p t (vm o ov (lss.getD i []))]),s.l⟩
def Dv(p o ov:Int)(lss:List (List (List Tm)))(a b:DS):Prop:=∀P:DS->Prop,P a->(∀b c,P b->rk p o ov lss b=some c->P c)->P b
theorem Dv.refl{p o ov:Int}{lss:List (List (List Tm))}(s:DS):Dv p o ov lss s s:=λ_ h _=>h
theorem Dv.step{p o ov:Int}{lss:List (List (List Tm))}{a b c:DS}(h:Dv p o ov lss a b)(k:rk p o ov lss b=some c):Dv p o ov lss a c:=λP h1 h2=>h2 b c (h P h1 h2) k
theorem Dv.ind{p o ov:Int}{lss:List (List (List Tm))}{a:DS}{motive:∀b,Dv p o ov lss a b->Prop}(refl:motive a (Dv.refl a))(step:∀{b c}(h1:Dv p o ov lss a b)(h2:rk p o ov lss b=some c),motive b h1->motive c (h1.step h2)){b:DS}(h:Dv p o ov lss a b):motive b h:=by have:=h (λb=>∃h,motive b h) ⟨_,refl⟩ (λb c ⟨h1,h2⟩ h3=>⟨_,step h1 h3 h2⟩);exact this.2
theorem Dv.trans{p o ov:Int}{lss:List (List (List Tm))}{a b c:DS}(h:Dv p o ov lss a b)(k:Dv p o ov lss b c):Dv p o ov lss a c:=by
 induction k using Dv.ind with
 |refl=>exact h
 |step _ h2 ih=>exact Dv.step ih h2
theorem Dv.first{p o ov:Int}{lss:List (List (List Tm))}{a c:DS}(h:Dv p o ov lss a c):a=c\/∃b,rk p o ov lss a=some b/\Dv p o ov lss b c:=by
 induction h using Dv.ind with
 |refl=>exact L0 rfl
 |step h1 h2 ih=>
  rcases ih with rfl|⟨b,hb,hd⟩
  .exact L3 ⟨_,h2,Dv.refl _⟩
  .exact L3 ⟨b,hb,Dv.step hd h2⟩
theorem vp{α:Type}(l:List (List α))(i:Nat):l.getD i []=[]\/l.getD i []∈l:=by
 by_cases h:i<l.length
 .right;rw[Lr,Ls h];exact Lo h
 .left;rw[Lr,Lu (by omega)];rfl
theorem Ds{p a:Int}(h:p∣a)(h1:1<=a)(h2:a<p):False:=by
 obtain⟨k,hk⟩:=h;have hp:0<p:=by omega
 have:0<k:=by apply Int.lt_of_not_ge;intro hle;have:=Int.mul_le_mul_of_nonneg_left hle (Int.le_of_lt hp);rw[Int.mul_zero] at this;omega
 have h3:=Int.mul_le_mul_of_nonneg_left (show 1<=k by omega) (Int.le_of_lt hp);rw[Int.mul_one] at h3;omega
theorem p9:∀{xs:List Int},(∀x∈xs,0<=x)->0<=ah xs
 |[],_=>by simp[ah]
 |x::xs,h=>by simp only[ah];have:=h x (by simp);have:=p9 (xs:=xs) λy hy=>h y (by simp[hy]);omega
def aE(N:Nat)(t:Ft):List Int:=[t.a,t.b,t.d].take N
structure Gd(o ov:Int)(N R:Nat)(Q:Int)(t:Ft):Prop where
 k:t.k=eF o ov t.pl (aE N t)
 a:0<=t.a
 b:0<=t.b
 d:0<=t.d
 deg:t.a+t.b+t.d<=Q
 z:t.z=0
 pl0:0<=t.pl
 pl:t.pl<R
 n1:N<=1->t.b=0
 n2:N<=2->t.d=0
theorem Gd.alk{o ov:Int}{N R:Nat}{Q:Int}(x t:Ft)(h:f9 x t)(g:Gd o ov N R Q t):Gd o ov N R Q x:=by
 obtain⟨h1,h2,h3,h4,h5,h6⟩:=h;have e:aE N x=aE N t:=by unfold aE;rw[h2,h3,h4]
 exact⟨by rw[h1,e,h6];exact g.k,by rw[h2];exact g.a,by rw[h3];exact g.b,by rw[h4];exact g.d,by rw[h2,h3,h4];exact g.deg,by rw[h5];exact g.z,by rw[h6];exact g.pl0,by rw[h6];exact g.pl,λh=>by rw[h3];exact g.n1 h,λh=>by rw[h4];exact g.n2 h⟩
theorem Gd.exq{o ov:Int}{N R:Nat}{Q:Int}{t:Ft}(h0:0<N)(h3:N<=3)(hQ:Q<=16000)(g:Gd o ov N R Q t):jc N (aE N t)/\ah (aE N t)=t.a+t.b+t.d:=by
 have h1:=g.a;have h2:=g.b;have h4:=g.d;have h5:=g.deg;have hN:N=1\/N=2\/N=3:=by omega
 rcases hN with rfl|rfl|rfl
 .have:=g.n1 (by omega);have:=g.n2 (by omega);refine⟨⟨by simp[aE],λx hx=>?_,?_⟩,?_⟩
  .simp[aE] at hx;omega
  .simp[aE,ah];omega
  .simp[aE,ah];omega
 .have:=g.n2 (by omega);refine⟨⟨by simp[aE],λx hx=>?_,?_⟩,?_⟩
  .simp[aE] at hx;omega
  .simp[aE,ah];omega
  .simp[aE,ah];omega
 .refine⟨⟨by simp[aE],λx hx=>?_,?_⟩,?_⟩
  .simp[aE] at hx;omega
  .simp[aE,ah];omega
  .simp[aE,ah];omega
def KX(ov:Int)(R:Nat):List Int:=(List.range R).map λi:Nat=>ef ov (i:Int)
def fJ(o ov:Int)(N:Nat)(i:Nat)(t:Tm):Ft:=eE (ef ov i) (az o N N 0) (az o N N 1) (az o N N 2) i t
theorem yj{o ov:Int}{N R i:Nat}{t:Tm}{Q:Int}(h0:0<N)(h3:N<=3)(hl:t.2.length=N)(hn:∀x∈t.2,0<=x)(hd:ah t.2<=Q)(hi:i<R):Gd o ov N R Q (fJ o ov N i t)/\aE N (fJ o ov N i t)=t.2/\(fJ o ov N i t).c=t.1/\(fJ o ov N i t).pl=i/\(fJ o ov N i t).k=eF o ov i t.2:=by
 have hN:N=1\/N=2\/N=3:=by omega
 obtain⟨c,e⟩:=t;simp only at hl hn hd;have key:aE N (fJ o ov N i (c,e))=e/\(fJ o ov N i (c,e)).k=eF o ov i e:=by
  rcases hN with rfl|rfl|rfl
  .obtain⟨a,rfl⟩:∃a,e=[a]:=by
    match e,hl with
    |[a],_=>exact⟨a,rfl⟩
   refine⟨by simp[aE,fJ,eE],?_⟩;simp[fJ,eE,eF,bA,az,j6]
  .obtain⟨a,b,rfl⟩:∃a b,e=[a,b]:=by
    match e,hl with
    |[a,b],_=>exact⟨a,b,rfl⟩
   refine⟨by simp[aE,fJ,eE],?_⟩;simp[fJ,eE,eF,bA,az,j6]
  .obtain⟨a,b,d,rfl⟩:∃a b d,e=[a,b,d]:=by
    match e,hl with
    |[a,b,d],_=>exact⟨a,b,d,rfl⟩
   refine⟨by simp[aE,fJ,eE],?_⟩;simp[fJ,eE,eF,bA,az,j6]
 have hpl:(fJ o ov N i (c,e)).pl=i:=rfl;refine⟨?_,key.1,rfl,hpl,key.2⟩;have hg:∀m,0<=e.getD m 0:=λm=>by
  by_cases hm:m<e.length
  .have:e.getD m 0=e[m]:=by simp[Lr,hm]
   rw[this];exact hn _ (Lo hm)
  .rw[Lr,Lu (by omega)];simp
 refine⟨by rw[key.1,key.2,hpl],hg 0,hg 1,hg 2,?_,rfl,by rw[hpl];omega,by rw[hpl];omega,λh=>?_,λh=>?_⟩
 .show e.getD 0 0+e.getD 1 0+e.getD 2 0<=Q;have:e.getD 0 0+e.getD 1 0+e.getD 2 0=ah e:=by
   rcases hN with rfl|rfl|rfl
   .match e,hl with
    |[a],_=>simp[ah]
   .match e,hl with
    |[a,b],_=>simp[ah]
   .match e,hl with
    |[a,b,d],_=>simp[ah];omega
  omega
 .show e.getD 1 0=0;rw[Lr,Lu (by omega)];rfl
 .show e.getD 2 0=0;rw[Lr,Lu (by omega)];rfl
structure nH(p o ov:Int)(N R:Nat)(Q:Int)(g:List (List Tm))(fs:List Ft):Prop where
 dn:Dn fs
 co:∀t∈fs,0<t.c/\t.c<p
 gd:∀t∈fs,Gd o ov N R Q t
 cn:∀k,ao k fs=cv o ov k g R
 ld:oX o ov g g.length=(fs.head?).map λL=>(L.pl.toNat,(L.c,aE N L))
abbrev BS:=Nat×Ft×List Ft
def jm:Nat->List (List Ft)->List BS
 |_,[]=>[]
 |i,[]::fss=>jm (i+1) fss
 |i,(L::r)::fss=>(i,L,r)::jm (i+1) fss
theorem rl:∀(fss:List (List Ft)) (i:Nat) (f:List Ft),jm i (fss++[f])=jm i fss++jm (i+fss.length) [f]
 |[],i,f=>by simp[jm]
 |[]::fss,i,f=>by have:=rl fss (i+1) f;simp only[List.cons_append,jm,LN] at this⊢;rw[this,show i+1+fss.length=i+(fss.length+1) by omega]
 |(L::r)::fss,i,f=>by have:=rl fss (i+1) f;simp only[List.cons_append,jm,LN] at this⊢;rw[this,show i+1+fss.length=i+(fss.length+1) by omega]
theorem bk.frm{S:Nat->Prop}{w w':World}{ob:Nat}{p k0 k1 k2:Int}{sv:Value}(h:bk w ob p k0 k1 k2 sv)(hf:ai S w w')(hn:¬S ob):bk w' ob p k0 k1 k2 sv:=
 ⟨Lj h.lt hf.size,hf.cell h.c0 hn,hf.cell h.c1 hn,hf.cell h.c2 hn,hf.cell h.c3 hn,hf.cell h.c4 hn⟩
theorem bB.ob_apart{B:Nat}{w:World}{sb ob:Nat}{rv:Value}{us:List Value}{rows:List (List Ft)}{p k0 k1 k2:Int}{sv:Value}(h:bB B w sb ob rv us rows)(ho:bk w ob p k0 k1 k2 sv):rv.ownBlock≠some ob:=by intro e;obtain⟨_,_,_,h2⟩:=h.rws.kind ob e 0 _ ho.c0;cases h2
theorem vq(key:Int){p:Int}(hp:2<=p/\p<=101):∀(rows:List (List Ft)),(∀r∈rows,∀t∈r,0<=t.c/\t.c<p)->0<=cY key rows/\cY key rows<=101*rows.length
 |[],_=>by simp[cY]
 |r::rows,h=>by
  have ih:=vq key hp rows λr hr=>h r (by simp[hr]);have h1:0<=iV key r/\iV key r<=101:=by
   cases r with
   |nil=>simp[iV]
   |cons t ts=>have:=h (t::ts) (by simp) t (by simp);simp only[iV];split<;>omega
  simp only[cY,List.map_cons,List.sum_cons,LN] at ih⊢;omega
def fR(key:Int)(rows:List (List Ft))(m:Nat):List (List Ft):=tk key (rows.take m)++rows.drop m
theorem vt(key:Int)(rows:List (List Ft))(m:Nat):(fR key rows m).length=rows.length:=by simp[fR,tk];omega
theorem vu(key:Int)(rows:List (List Ft))(m:Nat)(h:m<rows.length):(fR key rows m).getD m []=rows.getD m []:=by
 have hl:(tk key (rows.take m)).length=m:=by simp[tk];omega
 unfold fR;rw[Lr,LW (by omega),hl,Nat.sub_self,List.getElem?_drop,Nat.add_zero,Lr]
theorem BT(key:Int)(rows:List (List Ft))(m:Nat)(h:m<rows.length):(fR key rows m).set m (eA key (rows.getD m []))=fR key rows (m+1):=by
 have hl:(tk key (rows.take m)).length=m:=by simp[tk];omega
 have e:rows.getD m []=rows[m]:=by simp[Lr,h]
 unfold fR;rw[List.set_append_right _ _ (by omega),hl,Nat.sub_self,LY h,List.set_cons_zero,LK h,e];unfold tk;rw[LO,List.append_assoc];rfl
theorem KY(key:Int)(rows:List (List Ft))(m:Nat)(h:m<rows.length):cY key (rows.take (m+1))=cY key (rows.take m)+iV key (rows.getD m []):=by
 have e:rows.getD m []=rows[m]:=by simp[Lr,h]
 rw[LK h,e];unfold cY;rw[LO,List.sum_append];simp only[List.map_cons,List.map_nil,List.sum_cons,List.sum_nil];omega
theorem KZ(key:Int)(rows:List (List Ft))(m:Nat)(h:m<rows.length)(he:eA key (rows.getD m [])=rows.getD m []):fR key rows (m+1)=fR key rows m:=by
 rw[<-BT key rows m h,he];have:=vu key rows m h;apply List.ext_getElem?;intro i;rw[List.getElem?_set];split
 .rename_i e;subst e;rw[vt,LI h];have hl:m<(fR key rows m).length:=by rw[vt];exact h
  rw[<-this,Lr,Ls hl];rfl
 .rfl
def pj(L:Nat)(u:Value):Prop:=∀g,u.ownBlock=some g->g<L
def kP(L:Nat)(us:List Value)(rows:List (List Ft)):Prop:=∀i,i<rows.length->rows.getD i []≠[]->pj L (us.getD i aB)
theorem Fv.vlt{w:World}{v:Value}{fs:List Ft}(h:Fv w v fs)(hn:fs≠[]):pj w.heap.size v:=by obtain⟨a,cap,rfl,_,h1⟩:=h;obtain⟨b,off,rfl,hlt,_⟩:=h1 (List.length_pos_iff.2 hn);intro g hg;simp only[Value.ownBlock,LA] at hg;omega
theorem bB.loc{B:Nat}{w:World}{sb ob:Nat}{rv:Value}{us:List Value}{rows:List (List Ft)}(h:bB B w sb ob rv us rows):kP w.heap.size us rows:=λi hi hn=>(h.rws.fvs i hi).vlt hn
theorem K1{w w':World}{g L:Nat}{v:Value}{fs:List Ft}(h:Fv w v fs)(hg:w.grownBy w' (some g))(hv:fs≠[]->pj L v)(hL:L<=g):Fv w' v fs:=by obtain⟨a,cap,rfl,hc,h1⟩:=h;refine⟨a,cap,rfl,hc,λhp=>?_⟩;obtain⟨b,off,rfl,hlt,hcs⟩:=h1 hp;have hb:=hv (List.length_pos_iff.1 hp) b rfl;exact⟨b,off,rfl,Lj hlt hg.size,λj u hj=>by rw[jM hg hlt (by omega)];exact hcs j u hj⟩
theorem bB.far{B:Nat}{w w':World}{sb ob g L:Nat}{rv:Value}{us:List Value}{rows:List (List Ft)}(h:bB B w sb ob rv us rows)(hg:w.grownBy w' (some g))(hl:kP L us rows)(hL:L<=g)(hs:sb≠g)(hr:rv.ownBlock≠some g):bB B w' sb ob rv us rows:=
 ⟨World.ownsRow.kept h.box hg (L3 (by simpa [Value.ownBlock] using hs)),h.kind.below (hg.block sb h.lt.2 (by simpa using hs)),h.rws.len,World.ownsRow.kept h.rws.own hg (L3 hr),λk hk=>bU.below (h.rws.kind k hk) (hg.block k (Lb h.rws.own k hk).2 (λe=>hr (by rw[hk,e]))),λi hi=>K1 (h.rws.fvs i hi) hg (hl i hi) hL⟩
structure dU(B L:Nat)(w wr:World)(sb ob:Nat)(rv:Value)(rows:List (List Ft)):Prop where
 sum:∃us,bB B wr sb ob rv us rows/\kP L us rows
 frm:ai (λk=>rv.ownBlock=some k) w wr
theorem dU.next{B L:Nat}{w wr w':World}{sb ob:Nat}{rv:Value}{rows:List (List Ft)}(h:dU B L w wr sb ob rv rows)(hb:Below wr.heap.size wr w'):dU B L w w' sb ob rv rows:=by obtain⟨us,hs,hl⟩:=h.sum;exact⟨⟨us,hs.next hb,hl⟩,h.frm.trans (ai.of_below (S:=λ_=>False) hb) λ_ _ h=>h.elim⟩
theorem dU.put{B L:Nat}{w wr:World}{sb ob g n c:Nat}{rows:List (List Ft)}(h:dU B L w wr sb ob (.slice (some ⟨g,0,none⟩) n c) rows)(i:Nat)(hi:i<rows.length)(u:Value)(f:List Ft)(hu:Fv wr u f)(hv:pj L u):dU B L w (wr.setCell ⟨g,i,none⟩ u) sb ob (.slice (some ⟨g,0,none⟩) n c) (rows.set i f):=by
 obtain⟨us,hs,hl⟩:=h.sum;have s:=hs.put i hi u f hu;refine⟨⟨_,s.1,λj hj hne=>?_⟩,h.frm.trans (ai.of_grown (S:=λk=>k=g) s.2 λx e=>by simpa using e.symm) λx _ e=>by subst e;rfl⟩;rw[List.length_set] at hj;rw[lK] at hne⊢;rw[hs.rws.len];by_cases e:i=j/\j<rows.length
 .rw[LI e];exact hv
 .rw[LH e] at hne⊢;exact hl j hj hne
theorem dU.far{B L:Nat}{w wr w':World}{sb ob g:Nat}{rv:Value}{rows:List (List Ft)}(h:dU B L w wr sb ob rv rows)(hg:wr.grownBy w' (some g))(hL:L<=g)(hw:w.heap.size<=g)(hs:sb<w.heap.size)(hr:∀k,rv.ownBlock=some k->k<w.heap.size):dU B L w w' sb ob rv rows:=by obtain⟨us,hs1,hl⟩:=h.sum;exact⟨⟨us,hs1.far hg hl hL (by omega) (λe=>by have:=hr g e;omega),hl⟩,h.frm.trans (ai.of_grown (S:=λk=>k=g) hg λx e=>by simpa using e.symm) λx hx e=>by omega⟩
theorem K2(B L sb ob:Nat)(p k0 k1 k2 key:Int)(sv rv:Value)(us:List Value)(rows:List (List Ft))(w:World)(hs:bB B w sb ob rv us rows)(hL:kP L us rows)(hob:bk w ob p k0 k1 k2 sv)(hp:2<=p/\p<=101)(hn:rows.length<=1000)(hc:∀r∈rows,∀t∈r,0<=t.c/\t.c<p):Calls prog 154 #[.pointer (some ⟨sb,0,none⟩),.int .i64 key] w λe w'=>e=.returned (.int .u8 (cY key rows%p))/\dU B L w w' sb ob rv (tk key rows):=by
 have HS:=ac hs;have HOB:=ac hob;have HC:=ac hc;have HAP:=ac (hs.ob_apart hob);have hq:=vq key hp rows hc;have HBD:=ac hq;obtain⟨hp0,hp1⟩:=hp;have H0:Ma (dU B L w w sb ob rv (fR key rows 0)):=by
  show dU _ _ _ _ _ _ _ _;have e:fR key rows 0=rows:=by simp[fR,tk]
  rw[e];exact⟨⟨us,hs,hL⟩,ai.refl _ _⟩
 obtain⟨q0,q1,q2⟩:=hs.cells;obtain⟨ra,rc,rfl⟩:=cw hs.rws.own;clear hs hL hob hc hq;go_enter func154,ntmps154;go_wp2;clear q0 q1 q2;go_loopw [5,13] (λs i wr=>∃m:Nat,m<=rows.length/\i=.int .i64 m/\s=.int .u32 (cY key (rows.take m))/\dU B L w wr sb ob (.slice ra rows.length rc) (fR key rows m)) (λ_ i _=>rows.length-(intOf i).toNat);case atStart=>exact⟨0,Ll _,rfl,by simp[cY],H0.o⟩
 case round=>
  clear H0;obtain⟨m,hm,rfl,rfl,ht⟩:=hrel;have HT:=ac ht;obtain⟨us1,hs1,hl1⟩:=ht.sum;have HL1:=ac hl1;have HS1:=ac hs1;obtain⟨x0,x1,x2⟩:=hs1.cells;clear ht hs1 hl1;by_cases hm2:m<rows.length
  .have hml:m<(fR key rows m).length:=by rw[vt];exact hm2
   obtain⟨g,c,e,_,hlt,z1,z2⟩:=HS1.o.rws.at m hml;simp only[LB] at e;obtain⟨rfl,_,rfl⟩:=e;have hfv:=HS1.o.rws.fvs m hml;rw[vu key rows m hm2] at hfv;have HSET:=ac (BT key rows m hm2);have HSAME:=ac (KZ key rows m hm2);have HSUC:=ac (KY key rows m hm2);have hb0:=vq key ⟨hp0,hp1⟩ (rows.take m) λr hr=>HC.o r (L6 hr);have hlm:((rows.take m).length:Int)<=1000:=by rw[LU];omega
   have hrow:∀t∈rows.getD m [],0<=t.c/\t.c<p:=λt ht=>by
    rcases vp rows m with h|h
    .rw[h] at ht;simp at ht
    .exact HC.o _ h t ht
   have hvl:=HL1.o m hml;rw[vu key rows m hm2] at hvl;generalize us1.getD m aB=u at hfv z1 hvl;generalize rows.getD m []=row at hfv HSET HSAME HSUC hrow hvl;generalize cY key (rows.take m)=acc at HSUC hb0;cases row with
   |nil=>
    obtain⟨a,cap,rfl,_,_⟩:=hfv;go_wp2;go_roundw;case rel=>exact⟨m+1,by omega,by go_num,by rw[HSUC.o];simp[iV],by rw[HSAME.o rfl];exact HT.o⟩
    case measure=>simp[intOf];omega
   |cons t ts=>
    obtain⟨b,of2,cap,rfl,hcap,hlt2,hft,h1,h2⟩:=hfv.head;obtain⟨f0,f1,f2,f3,f4,f5,f6⟩:=hft;have htc:=hrow t (by simp);have hle:(1:Int)<=(ts.length:Int)+1:=by omega
    obtain⟨A,hA,hplA⟩:=Fv.tail ⟨h1,h2⟩;have HPA:=ac hplA;have HVA:Ma (pj L (.slice (some A) ts.length (cap-1))):=λg hg=>by
     have hb2:=hvl (by simp) b rfl;simp only[Value.ownBlock,LA] at hg;have:A.block=b:=by
      by_cases hc1:cap=1
      .rw[LI hc1] at hA;simp only[LA] at hA;rw[<-hA]
      .rw[LH hc1] at hA;simp only[LA] at hA;rw[<-hA]
     omega
    clear hfv hrow h1 h2 hplA hvl;by_cases hk:t.k=key
    .have w32:IntKind.u32.wrap (acc+t.c)=acc+t.c:=by rw[IntKind.wrap_u32];omega
     have w32c:IntKind.u32.wrap t.c=t.c:=by rw[IntKind.wrap_u32];omega
     go_wp2;go_region;all_goals
      have HTD:=ac (HT.o.next (Lf wr.heap.size wr).drew);have HP:=ac (HTD.o.put m hml _ ts (HPA.o.below (Lf wr.heap.size wr).drew) HVA.o);go_wp2;go_roundw;case rel=>exact⟨m+1,by omega,by go_num,by rw[HSUC.o];simp[iV,hk],by rw[<-HSET.o];simp only[eA,LI hk];exact HP.o⟩
      case measure=>simp[intOf];omega
    .have HK:=ac hk;go_wp2;go_roundw;case rel=>exact⟨m+1,by omega,by go_num,by rw[HSUC.o];simp[iV,HK.o],by rw[HSAME.o (by simp[eA,HK.o])];exact HT.o⟩
     case measure=>simp[intOf];omega
  .have e:m=rows.length:=by omega
   subst e;have HO2:=ac (HOB.o.frm HT.o.frm HAP.o);have c0:=HO2.o.c0;rw[Lz (Lc _)];have HB2:=HBD.o;have hm0:=Int.emod_nonneg (cY key rows) (show p≠0 by omega);have hm1:=Int.emod_lt_of_pos (cY key rows) (show 0<p by omega);have w8:IntKind.u8.wrap (cY key rows%p)=cY key rows%p:=by rw[IntKind.wrap_u8];omega
   have hfin:fR key rows rows.length=tk key rows:=by simp[fR]
   rw[hfin] at HT;go_wp2;go_ret;exact⟨rfl,HT.o⟩
def rm:Option Value->Nat
 |some (.slice _ k _)=>k
 |_=>0
def nI(w:World):Value->Nat
 | .slice (some ⟨b,off,_⟩) n _=>((List.range n).map λi=>rm (w.cell? ⟨b,off+i,none⟩)).sum
 |_=>0
theorem K3(rows:List (List Ft)):((List.range rows.length).map λi=>(rows.getD i []).length).sum=fQ rows:=by
 unfold fQ;congr 1;apply List.ext_getElem
 .simp
 .intro i h1 h2;simp at h1;simp[Lr,h1]
theorem cF.total{B:Nat}{w:World}{v:Value}{us:List Value}{rows:List (List Ft)}(h:cF B w v us rows):nI w v=fQ rows:=by
 rcases h.own.2 with ⟨rfl,h0⟩|⟨g,cap,af,rfl,_⟩
 .rw[LV] at h0;subst h0;rfl
 .simp only[nI];rw[<-K3 rows];congr 1;refine List.map_congr_left λi hi=>?_;rw[List.mem_range] at hi;obtain⟨g2,c2,e,_,_,hc,_⟩:=h.at i hi;simp only[LB,LA,Addr.mk.injEq,true_and,and_true] at e;obtain⟨rfl,_⟩:=e;rw[Ly,hc];obtain⟨a,c,e2,_⟩:=h.fvs i hi;rw[e2];rfl
structure vw(p:Int)(B:Nat)(w wr:World)(sb ob:Nat)(rv:Value)(rows af:List (List Ft)):Prop where
 tk:dU B w.heap.size w wr sb ob rv af
 res:Bx w.heap.size wr w.heap.size ⟨0,0,0,0,0,0,0⟩
 go:∀r rows2,Nx p af r rows2->Nx p rows r rows2
 co:∀r∈af,∀t∈r,0<t.c/\t.c<p
 dn:∀r∈af,Dn r
 len:af.length=rows.length
theorem vw.next{p:Int}{B:Nat}{w wr w':World}{sb ob:Nat}{rv:Value}{rows af:List (List Ft)}(h:vw p B w wr sb ob rv rows af)(hb:Below wr.heap.size wr w'):vw p B w w' sb ob rv rows af:=
 ⟨h.tk.next hb,h.res.below hb,h.go,h.co,h.dn,h.len⟩
theorem dU.trans{B L L2:Nat}{w w1 w2:World}{sb ob:Nat}{rv:Value}{rows rows2:List (List Ft)}(h:dU B L2 w w1 sb ob rv rows)(k:dU B L w1 w2 sb ob rv rows2):dU B L w w2 sb ob rv rows2:=⟨k.sum,h.frm.trans k.frm λ_ _ h=>h⟩
theorem BU{B:Nat}{S:Nat->Prop}{w w':World}{g:Nat}{t:Ft}(h:Bx B w g t)(hf:ai S w w')(hn:¬S g):Bx B w' g t:=hf.own h λk e=>by simp only[Value.ownBlock,LA] at e;subst e;exact hn
theorem K4(f:Nat):∀x,Lib.bitLenAux f x<=f:=by
 induction f with
 |zero=>intro x;simp[Lib.bitLenAux]
 |succ f ih=>
  intro x;simp only[Lib.bitLenAux];split
  .omega
  .have:=ih (x/2);omega
theorem BV(x:Nat):Lib.bitLen x<=64:=K4 64 x
theorem rx(k:Int)(f:List Ft):∀(rows:List (List Ft)) (a:Nat),a<rows.length->ao k (rows.set a f).flatten=ao k rows.flatten-ao k (rows.getD a [])+ao k f
 |[],a,h=>by simp at h
 |r::rows,0,h=>by simp only[List.set_cons_zero,List.flatten_cons,kg,List.getD_cons_zero];omega
 |r::rows,a+1,h=>by have:=rx k f rows a (by simpa using h);simp only[List.set_cons_succ,List.flatten_cons,kg,List.getD_cons_succ];omega
theorem BW(f:List Ft):∀(rows:List (List Ft)) (a:Nat),a<rows.length->fQ (rows.set a f)+(rows.getD a []).length=fQ rows+f.length
 |[],a,h=>by simp at h
 |r::rows,0,h=>by simp only[fQ,List.set_cons_zero,List.map_cons,List.sum_cons,List.getD_cons_zero];omega
 |r::rows,a+1,h=>by have:=BW f rows a (by simpa using h);simp only[fQ,List.set_cons_succ,List.map_cons,List.sum_cons,List.getD_cons_succ] at this⊢;omega
theorem aO.set{p:Int}{G:Ft->Prop}{rows:List (List Ft)}{f:List Ft}(h:aO p G rows)(hf:aO p G [f])(a:Nat):aO p G (rows.set a f):=by
 refine⟨λr hr=>?_,λr hr=>?_,λr hr=>?_⟩<;>rcases List.mem_or_eq_of_mem_set hr with hr|rfl
 .exact h.dn r hr
 .exact hf.dn r (by simp)
 .exact h.co r hr
 .exact hf.co r (by simp)
 .exact h.gd r hr
 .exact hf.gd r (by simp)
theorem aO.nil(p:Int)(G:Ft->Prop):aO p G [[]]:=⟨λr hr=>by simp at hr;subst hr;exact List.Pairwise.nil,λr hr t ht=>by simp at hr;subst hr;simp at ht,λr hr t ht=>by simp at hr;subst hr;simp at ht⟩
theorem aO.append{p:Int}{G:Ft->Prop}{a b:List (List Ft)}(h:aO p G a)(k:aO p G b):aO p G (a++b):=by
 refine⟨λr hr=>?_,λr hr=>?_,λr hr=>?_⟩<;>rcases Lv.1 hr with hr|hr
 .exact h.dn r hr
 .exact k.dn r hr
 .exact h.co r hr
 .exact k.co r hr
 .exact h.gd r hr
 .exact k.gd r hr
theorem aO.getD{p:Int}{G:Ft->Prop}{rows:List (List Ft)}(h:aO p G rows)(a:Nat):aO p G [rows.getD a []]:=by
 rcases vp rows a with e|hm
 .rw[e];exact aO.nil p G
 .exact⟨λr hr=>by simp at hr;subst hr;exact h.dn _ (by simpa using hm),λr hr=>by simp at hr;subst hr;exact h.co _ (by simpa using hm),λr hr=>by simp at hr;subst hr;exact h.gd _ (by simpa using hm)⟩
theorem aO.merge{p:Int}{G:Ft->Prop}(hp:2<=p)(hG:∀x t,f9 x t->G t->G x){f g:List Ft}(h:aO p G [f])(k:aO p G [g]):aO p G [cD p f g]:=by
 have hm:=KO p hp f g (h.co f (by simp)) (k.co g (by simp));refine⟨λr hr=>?_,λr hr t ht=>?_,λr hr t ht=>?_⟩<;>(rw[Lw] at hr;subst hr)
 .exact KP p f g (h.dn f (by simp)) (k.dn g (by simp))
 .exact(hm t ht).2
 .obtain⟨⟨u,hu,ha⟩,_⟩:=hm t ht;rcases hu with hu|hu
  .exact hG t u ha (h.gd f (by simp) u hu)
  .exact hG t u ha (k.gd g (by simp) u hu)
theorem Tryz.infoFv:(prog.info? 92).map (λi=>(i.zero,i.size,i.bytes))=some (some (.slice none 0 0),1,24):=by kernel_rfl
structure gr(p:Int)(G:Ft->Prop)(B:Nat)(w wr:World)(sb ob:Nat)(rv0 rv:Value)(rows0:List (List Ft))(f0:List Ft)(rows:List (List Ft))(v:Value)(f:List Ft):Prop where
 sum:∃us,bB B wr sb ob rv us rows
 frm:ai (fK sb rv0) w wr
 loc:∀k,rv.ownBlock=some k->k<w.heap.size->rv0.ownBlock=some k
 fv:Fv wr v f
 ok:aO p G rows
 okf:aO p G [f]
 cn:∀k,p∣ao k rows.flatten+ao k f-(ao k rows0.flatten+ao k f0)
theorem gr.next{p:Int}{G:Ft->Prop}{B:Nat}{w wr w':World}{sb ob:Nat}{rv0 rv:Value}{rows0 rows:List (List Ft)}{f0 f:List Ft}{v:Value}(h:gr p G B w wr sb ob rv0 rv rows0 f0 rows v f)(hb:Below wr.heap.size wr w'):gr p G B w w' sb ob rv0 rv rows0 f0 rows v f:=by obtain⟨us,hs⟩:=h.sum;exact⟨⟨us,hs.next hb⟩,h.frm.trans (ai.of_below (S:=λ_=>False) hb) (λ_ _ h=>h.elim),h.loc,h.fv.below hb,h.ok,h.okf,h.cn⟩
theorem gr.merge{p:Int}{G:Ft->Prop}{B:Nat}{w wr:World}{sb ob g n c:Nat}{rv0:Value}{rows0 rows:List (List Ft)}{f0 f:List Ft}{v v2:Value}(hp:2<=p)(hG:∀x t,f9 x t->G t->G x)(h:gr p G B w wr sb ob rv0 (.slice (some ⟨g,0,none⟩) n c) rows0 f0 rows v f)(a:Nat)(ha:a<rows.length)(hv:Fv wr v2 (cD p f (rows.getD a []))):gr p G B w (wr.setCell ⟨g,a,none⟩ (.slice none 0 0)) sb ob rv0 (.slice (some ⟨g,0,none⟩) n c) rows0 f0 (rows.set a []) v2 (cD p f (rows.getD a [])):=by
 obtain⟨us,hs⟩:=h.sum;have s:=hs.put a ha (.slice none 0 0) [] (oo none 0);have hf:ai (λk=>k=g) wr (wr.setCell ⟨g,a,none⟩ (.slice none 0 0)):=ai.of_grown s.2 λx e=>by simpa using e.symm
 refine⟨⟨_,s.1⟩,h.frm.trans hf λx hx e=>?_,h.loc,iI hf (λk e=>by subst e;exact mJ (hs.rws.kind _ rfl)) hv,h.ok.set (aO.nil p G) a,h.okf.merge hp hG (h.ok.getD a),λk=>?_⟩
 .subst e;exact L3 (h.loc _ rfl hx)
 .rw[rx k [] rows a ha];obtain⟨m,hm⟩:=KN p k f (rows.getD a []);obtain⟨q,hq⟩:=h.cn k;exact⟨m+q,by simp only[ao];rw[Int.mul_add];omega⟩
theorem gr.grow{p:Int}{G:Ft->Prop}{B:Nat}{w wr w2:World}{sb ob:Nat}{rv0 rv v2:Value}{us:List Value}{rows0 rows:List (List Ft)}{f0 f:List Ft}{v:Value}(h:gr p G B w wr sb ob rv0 rv rows0 f0 rows v f)(hs:bB B wr sb ob rv us rows)(h2:w2.ownsRow B 92 1 v2 (rows.length+1) (us++[.slice none 0 0]))(g2:wr.grownBy w2 rv.ownBlock)(k2:∀g,v2.ownBlock=some g->cz w2 g)(l2:v2.ownBlock=rv.ownBlock\/v2.ownBlock=some wr.heap.size):gr p G B w (w2.setCell ⟨sb,1,none⟩ v2) sb ob rv0 v2 rows0 f0 (rows++[[]]) v f:=by
 have hg:=hs.grow (oo none 0) h2 g2 k2;have hf:ai (fK sb rv) wr (w2.setCell ⟨sb,1,none⟩ v2):=by have hb2:=World.ownsRow.kept hs.box g2 (L3 (by simpa [Value.ownBlock] using λe=>hs.apart e.symm));have s:=Lp hb2 1 v2;exact(ai.of_grown (S:=fK sb rv) g2 λx e=>L3 e).trans (ai.of_grown (S:=λk=>k=sb) s.2 λx e=>by simpa using e.symm) λx _ e=>L0 e
 refine⟨⟨_,hg⟩,h.frm.trans hf λx hx e=>?_,λk hk hlt=>?_,iI hf (λk e=>?_) h.fv,h.ok.append (aO.nil p G),h.okf,λk=>?_⟩
 .rcases e with e|e
  .exact L0 e
  .exact L3 (h.loc x e hx)
 .rcases l2 with l2|l2
  .exact h.loc k (by rw[<-l2];exact hk) hlt
  .rw[l2] at hk;simp only[LA] at hk;have:=h.frm.size;omega
 .rcases e with e|e
  .subst e;exact hs.kind
  .exact mJ (hs.rws.kind k e)
 .have:=h.cn k;rw[List.flatten_append,kg];simpa [ao] using this
theorem BX{ops:Array Oper}{rest:List Oper}{w:World}{o:Oper}{a:Act}{Q:Exit->Act->World->Prop}(hgd:o.guard=none)(s x:Operand)(t:TypeId)(ho:o.op=.call {callee:=.builtin .append,args:=#[s,x],argTypes:=#[t,t]})(ht:prog.underlying t=some (.slice 92))(B:Nat)(v:Value)(us:List Value)(rows:List (List Ft))(hs:a.eval s=v)(h:cF B w v us rows)(ad:Addr)(c:Nat)(hx:a.eval x=.slice (some ad) 1 c)(hnew:∀j y,[Value.slice none 0 0][j]?=some y->w.cell? (ad.add j)=some y)(hn:rows.length<=1000)(hB:B<=w.heap.size)(hK:∀v' w',w'.ownsRow B 92 1 v' (rows.length+1) (us++[.slice none 0 0])->w.grownBy w' v.ownBlock->(∀g,v'.ownBlock=some g->cz w' g)->(v'.ownBlock=v.ownBlock\/v'.ownBlock=some w.heap.size)->wpList prog ops Q rest (a.put o.dst v') w'):wpList prog ops Q (o::rest) a w:=by refine wpList_plain hgd λK hK'=>?_;obtain⟨i0,hi,hz0,hz1,hz2⟩:=info_parts Tryz.infoFv;obtain⟨v',w',hr,h2,h3,h4,h5⟩:=tQ (P:=prog) w (λu=>∃a n c,u=.slice a n c) B t o.type 92 i0 _ 1 24 ht hi hz0 hz1 hz2 rfl (by decide) (λu hu=>by simp[Value.cells] at hu;exact⟨_,_,_,hu⟩) v rows.length us h.own h.kind ad 1 c [.slice none 0 0] (by decide) rfl hnew (λu hu=>by rw[Lw] at hu;subst hu;rfl) (λu hu=>by rw[Lw] at hu;exact⟨_,_,_,hu⟩) (by unfold maxLen;omega) (by omega) hB;unfold Oper.wp execOp;simp only[ho,resolve,invoke,builtin,Sem.run_bind,Sem.run_pure,Result.andThen_ok,List.map_toArray,List.map_cons,List.map_nil,hs,hx,hr];exact hK' _ _ (hK v' w' h2 h3 h4 h5)
def iW(w:World)(sb:Nat):Nat:=rm (w.cell? ⟨sb,1,none⟩)
theorem qr(B sb ob:Nat)(p k0 k1 k2:Int)(G:Ft->Prop)(sv rv vv:Value)(us:List Value)(rows:List (List Ft))(fs:List Ft)(w:World)(hs:bB B w sb ob rv us rows)(hB:B<=w.heap.size)(hob:bk w ob p k0 k1 k2 sv)(hosb:ob≠sb)(hp:2<=p/\p<=101)(hn:rows.length<=65)(hf:Fv w vv fs)(hr:aO p G rows)(hrf:aO p G [fs])(hG:∀x t,f9 x t->G t->G x)(hM:∀r,Dn r->(∀t∈r,G t)->r.length<=100000000000):Calls prog 107 #[.pointer (some ⟨sb,0,none⟩),vv] w λe w'=>e=.returned (.tuple #[])/\∃rv' us' rows',bB B w' sb ob rv' us' rows'/\aO p G rows'/\rows'.length<=65/\(∀k,p∣ao k rows'.flatten-(ao k rows.flatten+ao k fs))/\ai (fK sb rv) w w'/\(∀k,rv'.ownBlock=some k->k<w.heap.size->rv.ownBlock=some k):=by
 have HOB:=ac hob;have HG:=ac hG;have HM:=ac hM;have HSBL:=ac hs.lt;have HAO:=ac (hs.ob_apart hob);have H0:Ma (gr p G B w w sb ob rv rv rows fs rows vv fs):=⟨⟨us,hs⟩,ai.refl _ _,λ_ h _=>h,hf,hr,hrf,λk=>⟨0,by omega⟩⟩;obtain⟨va,vc,rfl,_,_⟩:=hf;have hfl:=HM.o fs (hrf.dn fs (by simp)) (hrf.gd fs (by simp));have w64:IntKind.u64.wrap (fs.length:Int)=fs.length:=by rw[IntKind.wrap_u64];omega
 have HBL:=ac (Tryz.bits_Len (fs.length:Int) w (by omega) (by omega));have hb64:=BV ((fs.length:Int)).toNat;obtain⟨a0,ha0⟩:∃a0,Lib.bitLen ((fs.length:Int)).toNat=a0:=⟨_,rfl⟩;rw[ha0] at HBL hb64;clear hs hob hG hM hr hrf ha0;go_enter func107,ntmps107;go_wp2_with (go_at_call 131;refine HBL.o.mono ?_;rintro e w9 ⟨rfl,h9⟩;have h9b:=h9.symm;clear h9;subst h9b);go_loopw [1,4] (λv i wr=>∃(v1:Value)(a:Nat) (rows1:List (List Ft)) (f1:List Ft),v1=v/\a<=64/\i=.int .i64 a/\rows1.length=rows.length/\gr p G B w wr sb ob rv rv rows fs rows1 v1 f1) (λ_ _ wr=>nI wr rv);case atStart=>exact⟨_,a0,rows,fs,rfl,hb64,rfl,rfl,H0.o⟩
 case round=>
  clear H0 HBL;obtain⟨v1,a,rows1,f1,hv1,ha,rfl,hl1,hw⟩:=hrel;subst hv1;obtain⟨fa1,fc1,hfv1,_,_⟩:=hw.fv;subst hfv1;have HW:=ac hw;obtain⟨us1,hs1⟩:=hw.sum;have HS1:=ac hs1;obtain⟨x0,x1,x2⟩:=hs1.cells;obtain⟨ra,rc,hrv⟩:=cw hs1.rws.own;subst hrv;have HTOT:=ac hs1.rws.total;clear hw hs1;by_cases hal:a<rows1.length
  .obtain⟨g,c,e,_,hlt,z1,z2⟩:=HS1.o.rws.at a hal;simp only[LB] at e;obtain⟨rfl,_,rfl⟩:=e;have hfv:=HS1.o.rws.fvs a hal;generalize hu:us1.getD a aB=u at hfv z1;cases hrow:rows1.getD a [] with
   |nil=>
    rw[hrow] at hfv;obtain⟨ua,ucap,rfl,_,_⟩:=hfv;have HROW:=ac hrow;clear hrow hu;go_wp2_with fail;go_loopw [] (λwr2=>∃(rv2:Value) (rows2:List (List Ft)),rows2.length<=65/\(a<rows2.length->rows2.getD a []=[])/\gr p G B w wr2 sb ob (.slice (some ⟨g,0,none⟩) rows1.length rc) rv2 rows fs rows2 (.slice fa1 f1.length fc1) f1) (λwr2=>66-iW wr2 sb);case atStart=>exact⟨_,rows1,by omega,λ_=>HROW.o,HW.o⟩
    case round=>
     clear HW HS1 HTOT;obtain⟨rv2,rows2,hl2,hem,hw2⟩:=hrel;have HW2:=ac hw2;obtain⟨us2,hs2⟩:=hw2.sum;have HS2:=ac hs2;obtain⟨y0,y1,y2⟩:=hs2.cells;obtain⟨ra2,rc2,hrv2⟩:=cw hs2.rws.own;subst hrv2;have hlen1:iW wr sb=rows2.length:=by unfold iW;rw[y1];rfl
     clear hw2 hs2;by_cases h2:rows2.length<=a
     .have HWA:=ac (HW2.o.next (aj (A:=.cells #[.slice none 0 0] 92)));have HSA:=ac (HS2.o.next (aj (A:=.cells #[.slice none 0 0] 92)));have hBa:B<=(wr.alloc (.cells #[.slice none 0 0] 92)).heap.size:=by have:=HWA.o.frm.size;omega
      have STEP:Ma (∀v' w',w'.ownsRow B 92 1 v' (rows2.length+1) (us2++[.slice none 0 0])->(wr.alloc (.cells #[.slice none 0 0] 92)).grownBy w' (Value.slice ra2 rows2.length rc2).ownBlock->(∀g,v'.ownBlock=some g->cz w' g)->(v'.ownBlock=(Value.slice ra2 rows2.length rc2).ownBlock\/v'.ownBlock=some (wr.alloc (.cells #[.slice none 0 0] 92)).heap.size)->(∃x,w'.cell? ⟨sb,1,none⟩=some x)/\w'.frozen? ⟨sb,1,none⟩=false/\gr p G B w (w'.setCell ⟨sb,1,none⟩ v') sb ob (.slice (some ⟨g,0,none⟩) rows1.length rc) v' rows fs (rows2++[[]]) (.slice fa1 f1.length fc1) f1/\(w'.setCell ⟨sb,1,none⟩ v').cell? ⟨sb,1,none⟩=some v'/\rm (some v')=rows2.length+1):=λv' w' q2 q3 q4 q5=>by have hb2:=World.ownsRow.kept HSA.o.box q3 (L3 (by simpa [Value.ownBlock] using λe=>HSA.o.apart e.symm));have hc2:=La hb2 1 (by omega);obtain⟨a3,c3,e3⟩:=cw q2;exact⟨⟨_,hc2⟩,K8 hb2 1,HWA.o.grow HSA.o q2 q3 q4 q5,World.cell?_setCell_same _ _ _ hc2,by rw[e3];rfl⟩
      go_wp2_with (at_builtin;refine BX rfl (.tmp 63) (.tmp 64) 87 rfl underlying87 B _ us2 rows2 rfl HSA.o.rws ⟨wr.heap.size,0,none⟩ 1 rfl (uW _ _ _) (by omega) hBa ?_;intro v' w' q2 q3 q4 q5;obtain⟨a3,c3,e3⟩:=cw q2;subst e3;have S5:=ac (STEP.o _ w' q2 q3 q4 q5);clear q2 q3 q4 q5;obtain⟨x5,d5⟩:=S5.o.1;have d6:=S5.o.2.1);go_roundw;case rel=>
       refine⟨_,rows2++[[]],by rw[Lx];simp;omega,λh=>?_,S5.o.2.2.1⟩;rw[Lx] at h;simp only[LN,List.length_nil] at h;have e:a=rows2.length:=by omega
       subst e;simp[Lr]
      case measure=>have h7:=S5.o.2.2.2;show 66-iW _ sb<66-iW wr sb;unfold iW at hlen1⊢;rw[h7.1,h7.2,hlen1];omega
     .have ha2:a<rows2.length:=by omega
      have HEM:=ac (hem ha2);obtain⟨g2,c2,e2,_,hlt2,m1,m2⟩:=HS2.o.rws.at a ha2;simp only[LB] at e2;obtain⟨rfl,_,rfl⟩:=e2;have HPUT:=ac (HS2.o.put a ha2 (.slice fa1 f1.length fc1) f1 HW2.o.fv);go_wp2;go_end0;refine⟨rfl,_,_,rows2.set a f1,HPUT.o.1,HW2.o.ok.set HW2.o.okf a,by rw[List.length_set];exact hl2,λk=>?_,HW2.o.frm.trans (ai.of_grown (S:=λk=>k=g2) HPUT.o.2 λx e=>by simpa using e.symm) λx hx e=>?_,HW2.o.loc⟩
      .rw[rx k f1 rows2 a ha2,HEM.o];have:=HW2.o.cn k;simpa [ao] using this
      .subst e;exact L3 (HW2.o.loc _ rfl hx)
   |cons t ts=>
    have HROW:=ac hrow;have HFU:=ac hfv;rw[hrow] at hfv;obtain⟨ub,uof,ucap,rfl,_⟩:=hfv.head;have HOW:=ac (HOB.o.frm HW.o.frm (λe=>by rcases e with e|e;exact hosb e;exact HAO.o e));have hf1l:=HM.o f1 (HW.o.okf.dn f1 (by simp)) (HW.o.okf.gd f1 (by simp));have HR2:=ac (HW.o.ok.getD a);have hr1l:=HM.o (rows1.getD a []) (HR2.o.dn _ (Lw.2 rfl)) (HR2.o.gd _ (Lw.2 rfl));have hmrl:=HM.o (cD p f1 (rows1.getD a [])) ((HW.o.okf.merge hp.1 HG.o HR2.o).dn _ (Lw.2 rfl)) ((HW.o.okf.merge hp.1 HG.o HR2.o).gd _ (Lw.2 rfl));clear hrow hu hfv;have HMG:Ma (∀W,Below wr.heap.size wr W->Calls prog 132 #[.pointer (some ⟨ob,0,none⟩),.slice fa1 f1.length fc1,.slice (some ⟨ub,uof,none⟩) (ts.length+1) ucap] W λe w'=>∃u,e=.returned u/\Fv w' u (cD p f1 (rows1.getD a []))/\Below W.heap.size W w'):=λW hb=>Kt ob p k0 k1 k2 sv _ _ f1 (rows1.getD a []) W (HOW.o.below hb) hp (λt ht=>by have:=HW.o.okf.co f1 (by simp) t ht;omega) (λt ht=>by have:=HR2.o.co _ (Lw.2 rfl) t ht;omega) (by omega) (HW.o.fv.below hb) (HFU.o.below hb)
    have KEEP:Ma (∀W,Below wr.heap.size wr W->(Ma (Below wr.heap.size wr W)/\W.cell? ⟨sb,0,none⟩=some (.pointer (some ⟨ob,0,none⟩))/\W.cell? ⟨sb,1,none⟩=some (.slice (some ⟨g,0,none⟩) rows1.length rc)/\W.cell? ⟨g,a,none⟩=some (.slice (some ⟨ub,uof,none⟩) (ts.length+1) ucap))):=λW hb=>⟨hb,ae x0 hb,ae x1 hb,ae z1 hb⟩;have HB0:Ma (Below wr.heap.size wr wr.drew):=(Lf _ _).drew;go_wp2_with fail;go_region_held (λW=>Ma (Below wr.heap.size wr W)/\W.cell? ⟨sb,0,none⟩=some (.pointer (some ⟨ob,0,none⟩))/\W.cell? ⟨sb,1,none⟩=some (.slice (some ⟨g,0,none⟩) rows1.length rc)/\W.cell? ⟨g,a,none⟩=some (.slice (some ⟨ub,uof,none⟩) (ts.length+1) ucap))
     (first|exact KEEP.o _ HB0.o|exact KEEP.o _ (HB0.o.trans (HB9.o.mono HB0.o.size)))
     (first|(go_at_call 132;refine(HMG.o _ HB0.o).mono ?_;rintro e w9 ⟨u9,rfl,hf9,hb9⟩;have HF9:=ac hf9;have HB9:=ac hb9;clear hf9 hb9))
    have HBT:=ac (HB0.o.trans (HB9.o.mono HB0.o.size));obtain⟨_,d0,d1,d2⟩:=KEEP.o _ HBT.o;have HS9:=ac (HS1.o.next HBT.o);have d3:w9.frozen? ⟨g,a,none⟩=false:=K8 HS9.o.rws.own a;obtain⟨ua9,uc9,hu9,_,_⟩:=HF9.o;subst hu9;have HAD:=ac (gr.merge hp.1 HG.o (HW.o.next HBT.o) a hal HF9.o);have htot:=BW [] rows1 a hal;rw[HROW.o] at htot;simp only[LN,List.length_nil] at htot;have HTT:=ac htot;clear htot;generalize cD p f1 (rows1.getD a [])=mg at HF9 HAD hmrl;have w64b:IntKind.u64.wrap (mg.length:Int)=mg.length:=by rw[IntKind.wrap_u64];omega
    have hb65:=BV ((mg.length:Int)).toNat;have HBL2:Ma (∀W,Calls prog 131 #[.int .u64 (mg.length:Int)] W λe w'=>e=.returned (.int .i64 (Lib.bitLen ((mg.length:Int)).toNat))/\w'=W):=λW=>Tryz.bits_Len (mg.length:Int) W (by omega) (by omega);obtain⟨a9,ha9⟩:∃a9,Lib.bitLen ((mg.length:Int)).toNat=a9:=⟨_,rfl⟩;rw[ha9] at HBL2 hb65;clear ha9;go_wp2_with (go_at_call 131;refine(HBL2.o _).mono ?_;rintro e w8 ⟨rfl,h8⟩;have h8b:=h8.symm;clear h8;subst h8b);go_roundw;case rel=>exact⟨_,max a a9,rows1.set a [],mg,rfl,by omega,by rw[show ((max a a9:Nat):Int)=max (a:Int) a9 by omega],by rw[List.length_set];exact hl1,HAD.o⟩
    case measure=>obtain⟨us7,hs7⟩:=HAD.o.sum;have h7:=hs7.rws.total;have h8:=HTOT.o;have h9:=HTT.o;omega
  .go_wp2_with fail;go_loopw [] (λwr2=>∃(rv2:Value) (rows2:List (List Ft)),rows2.length<=65/\(a<rows2.length->rows2.getD a []=[])/\gr p G B w wr2 sb ob (.slice ra rows1.length rc) rv2 rows fs rows2 (.slice fa1 f1.length fc1) f1) (λwr2=>66-iW wr2 sb);case atStart=>exact⟨_,rows1,by omega,λh=>absurd h hal,HW.o⟩
   case round=>
    clear HW HS1 HTOT;obtain⟨rv2,rows2,hl2,hem,hw2⟩:=hrel;have HW2:=ac hw2;obtain⟨us2,hs2⟩:=hw2.sum;have HS2:=ac hs2;obtain⟨y0,y1,y2⟩:=hs2.cells;obtain⟨ra2,rc2,hrv2⟩:=cw hs2.rws.own;subst hrv2;have hlen1:iW wr sb=rows2.length:=by unfold iW;rw[y1];rfl
    clear hw2 hs2;by_cases h2:rows2.length<=a
    .have HWA:=ac (HW2.o.next (aj (A:=.cells #[.slice none 0 0] 92)));have HSA:=ac (HS2.o.next (aj (A:=.cells #[.slice none 0 0] 92)));have hBa:B<=(wr.alloc (.cells #[.slice none 0 0] 92)).heap.size:=by have:=HWA.o.frm.size;omega
     have STEP:Ma (∀v' w',w'.ownsRow B 92 1 v' (rows2.length+1) (us2++[.slice none 0 0])->(wr.alloc (.cells #[.slice none 0 0] 92)).grownBy w' (Value.slice ra2 rows2.length rc2).ownBlock->(∀g,v'.ownBlock=some g->cz w' g)->(v'.ownBlock=(Value.slice ra2 rows2.length rc2).ownBlock\/v'.ownBlock=some (wr.alloc (.cells #[.slice none 0 0] 92)).heap.size)->(∃x,w'.cell? ⟨sb,1,none⟩=some x)/\w'.frozen? ⟨sb,1,none⟩=false/\gr p G B w (w'.setCell ⟨sb,1,none⟩ v') sb ob (.slice ra rows1.length rc) v' rows fs (rows2++[[]]) (.slice fa1 f1.length fc1) f1/\(w'.setCell ⟨sb,1,none⟩ v').cell? ⟨sb,1,none⟩=some v'/\rm (some v')=rows2.length+1):=λv' w' q2 q3 q4 q5=>by have hb2:=World.ownsRow.kept HSA.o.box q3 (L3 (by simpa [Value.ownBlock] using λe=>HSA.o.apart e.symm));have hc2:=La hb2 1 (by omega);obtain⟨a3,c3,e3⟩:=cw q2;exact⟨⟨_,hc2⟩,K8 hb2 1,HWA.o.grow HSA.o q2 q3 q4 q5,World.cell?_setCell_same _ _ _ hc2,by rw[e3];rfl⟩
     go_wp2_with (at_builtin;refine BX rfl (.tmp 63) (.tmp 64) 87 rfl underlying87 B _ us2 rows2 rfl HSA.o.rws ⟨wr.heap.size,0,none⟩ 1 rfl (uW _ _ _) (by omega) hBa ?_;intro v' w' q2 q3 q4 q5;obtain⟨a3,c3,e3⟩:=cw q2;subst e3;have S5:=ac (STEP.o _ w' q2 q3 q4 q5);clear q2 q3 q4 q5;obtain⟨x5,d5⟩:=S5.o.1;have d6:=S5.o.2.1);go_roundw;case rel=>
      refine⟨_,rows2++[[]],by rw[Lx];simp;omega,λh=>?_,S5.o.2.2.1⟩;rw[Lx] at h;simp only[LN,List.length_nil] at h;have e:a=rows2.length:=by omega
      subst e;simp[Lr]
     case measure=>have h7:=S5.o.2.2.2;show 66-iW _ sb<66-iW wr sb;unfold iW at hlen1⊢;rw[h7.1,h7.2,hlen1];omega
    .have ha2:a<rows2.length:=by omega
     have HEM:=ac (hem ha2);obtain⟨g2,c2,e2,_,hlt2,m1,m2⟩:=HS2.o.rws.at a ha2;simp only[LB] at e2;obtain⟨rfl,_,rfl⟩:=e2;have HPUT:=ac (HS2.o.put a ha2 (.slice fa1 f1.length fc1) f1 HW2.o.fv);go_wp2;go_end0;refine⟨rfl,_,_,rows2.set a f1,HPUT.o.1,HW2.o.ok.set HW2.o.okf a,by rw[List.length_set];exact hl2,λk=>?_,HW2.o.frm.trans (ai.of_grown (S:=λk=>k=g2) HPUT.o.2 λx e=>by simpa using e.symm) λx hx e=>?_,HW2.o.loc⟩
     .rw[rx k f1 rows2 a ha2,HEM.o];have:=HW2.o.cn k;simpa [ao] using this
     .subst e;exact L3 (HW2.o.loc _ rfl hx)
end Go.Proofs.YteimdcndjjclnaaGreat
