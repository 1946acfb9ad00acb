/- A completion by degrees: what holds from round to round (plain mathematics). -/
import Derived.Test.YteimdcndjjclnaaGreatKZ
set_option maxHeartbeats 1000000
namespace Go.Proofs.YteimdcndjjclnaaGreat
set_option linter.all false
open Go.Proofs.Tryz Go.RowKit
theorem yS{p:Int}(h:bq p=0):Cn.Pr p:=λc hc=>by obtain⟨h1,h2⟩:=eO h;have m1:=Int.emod_nonneg c (show p≠0 by omega);have m2:=Int.emod_lt_of_pos c (show 0<p by omega);have m3:c%p≠0:=λe=>hc (Int.dvd_of_emod_eq_zero e);obtain⟨k,hk⟩:=qO h (c:=c%p) ⟨by omega,m2⟩;have e:=Int.emod_add_mul_ediv c p;generalize c%p=x at*;generalize c/p=y at*;refine⟨aM p x,k+y*aM p x,?_⟩;rw[<-e];grind
theorem tS{p:Int}(h:bq p=0):¬p∣1:=λhd=>by have h1:=eO h;have:=Int.le_of_dvd (by omega) hd;omega
theorem qP{p:Int}{dg:Nat->Int}{R:Nat}{G0 G1:Gb.aZ (Gb.aF (dR dg R)) p}(h:∀i,G1.live i->Gb.Vb G0 (λs=>aN dg R s=aN dg R (G1.ld i)) λφ=>Gb.ln φ (G1.g i)){D:Nat}{X:Gb.Fn Gb.Te}(hv:Gb.Vb G1 (λs=>aN dg R s=D) X):Gb.Vb G0 (λs=>aN dg R s=D) X:=by
 obtain⟨rp,h1,h2⟩:=hv;have key:∀rp:Gb.Rp Gb.Mo,(∀r∈rp,G1.live r.2.2/\aN dg R (Gb.aC r.2.1 (G1.ld r.2.2))=D)->Gb.Vb G0 (λs=>aN dg R s=D) λφ=>Gb.ev G1 φ rp:=by
  intro rp;induction rp with
  |nil=>exact λ_=>Gb.Vb.zero λφ=>⟨0,by simp[Gb.ev]⟩
  |cons r rp ih=>
   intro hr;have h3:=hr r (by simp);have h4:=Gb.Vb.scl r.1 (Gb.Vb.shift (B:=λs=>aN dg R s=D) r.2.1 (h r.2.2 h3.1) λt ht=>by
    have e:=h3.2;show aN dg R (Gb.aC r.2.1 t)=D;rw[kD,ht,<-kD];exact e)
   exact(Gb.Vb.add h4 (ih λx hx=>hr x (by simp[hx]))).congr λφ=>⟨0,by simp only[Gb.ev];omega⟩
 exact(key rp h1).congr h2
theorem jW{p:Int}{dg:Nat->Int}{R:Nat}{fss:List (List Ft)}{i:Nat}(h:(az p dg R fss).live i):i<fss.length:=by obtain⟨t,r,h1,_⟩:=h;exact(List.getElem?_eq_some_iff.1 h1).1
theorem yT{p:Int}{dg:Nat->Int}{R:Nat}{fss:List (List Ft)}{t:Nat}{X:Gb.Fn Gb.Te}(h:Gb.Vb (az p dg R fss) (λs=>aN dg R s=t) X):∃rp,Cn.Hr fss.length (λi=>aN dg R ((az p dg R fss).ld i)) t rp/\∀φ,p∣X φ-Gb.ev (az p dg R fss) φ rp:=by obtain⟨rp,h1,h2⟩:=h;refine⟨rp,λr hr=>⟨jW (h1 r hr).1,?_⟩,h2⟩;have e:aN dg R (Gb.aC r.2.1 ((az p dg R fss).ld r.2.2))=t:=(h1 r hr).2;rw[kD] at e;unfold Cn.aK;exact e
def i9(p:Int)(dg:Nat->Int)(N R:Nat)(Q:Int)(fss:List (List Ft)):Prop:=∀v∈fss,∃D,D<=Q/\v≠[]/\dh p dg N R D v
theorem i9.at{p:Int}{dg:Nat->Int}{N R:Nat}{Q:Int}{fss:List (List Ft)}(h:i9 p dg N R Q fss){i:Nat}(hi:i<fss.length):∃D t r,D<=Q/\fss[i]?=some (t::r)/\dh p dg N R D (t::r):=by
 obtain⟨D,h1,h2,h3⟩:=h fss[i] (MS hi);cases e:fss[i] with
 |nil=>exact absurd e h2
 |cons t r=>exact⟨D,t,r,h1,by rw[MW hi,e],by rw[<-e];exact h3⟩
theorem qQ{p:Int}{dg:Nat->Int}{N R:Nat}(hx:aR p dg N R){Q:Int}(hQ:Q<=16000){fss:List (List Ft)}(h:i9 p dg N R Q fss):Cn.Hg R (dR dg R) (az p dg R fss) fss.length (λi=>aN dg R ((az p dg R fss).ld i)):=by
 refine⟨λi hi x hxg=>?_,λi hi=>?_⟩
 .obtain⟨D,t,r,h1,h2,h3⟩:=h.at hi;have hg:(az p dg R fss).g i=dp R (t::r):=by show dp R _=_;rw[dJ h2]
  have hl:(az p dg R fss).ld i=ah R t:=by show il R _=_;rw[dJ h2];rfl
  rw[hg] at hxg;obtain⟨u,hu,rfl⟩:=M5.1 hxg;have a:=(h3.gd u hu).ts hx;have b:=(h3.gd t (by simp)).ts hx;refine Cn.jT.2 ⟨a.2,?_⟩;show aN dg R (ah R u)=aN dg R ((az p dg R fss).ld i);rw[hl,a.1,b.1]
 .obtain⟨D,t,r,h1,h2,h3⟩:=h.at hi;exact o7 hx (by omega) h2 h3
theorem qR{p i:Int}{R:Nat}(φ:Gb.Te->Int):∀fs:List Ft,p∣aJ R φ (fs.map (dK p i))-i*aJ R φ fs
 |[]=>⟨0,by simp[lA]⟩
 |t::fs=>by
  obtain⟨x,hx⟩:=qR (p:=p) (i:=i) (R:=R) φ fs;rw[List.map_cons,im,im];obtain⟨y,hy⟩:=jX p (t.c*i);show p∣(t.c*i%p)*φ (ah R t)+_-_;generalize φ (ah R t)=z at*;generalize t.c*i%p=q at*;have e2:q=t.c*i+p*y:=by omega
  exact⟨y*z+x,by rw[e2];grind⟩
theorem yU{p:Int}{dg:Nat->Int}{N R:Nat}(hx:aR p dg N R){D:Int}{t:Ft}{ts:List Ft}(hv:dh p dg N R D (t::ts)):ja p dg N R D (dK p (aM p t.c) t) (ts.map (dK p (aM p t.c))):=by
 have hi:=nr hx.pr (hv.co t (by simp));have e:dK p (aM p t.c) t::ts.map (dK p (aM p t.c))=(t::ts).map (dK p (aM p t.c)):=rfl;refine⟨hi.2.2,?_,λu hu=>?_,λu hu=>?_⟩
 .rw[e];unfold Dn;rw[List.pairwise_map];exact hv.dn
 .rw[e] at hu;obtain⟨v,hvm,rfl⟩:=M5.1 hu;have h1:=hv.co v hvm;have:=tT hx.pr (show 1<=v.c by omega) h1.2 hi.1 hi.2.1;simp only[dK];omega
 .rw[e] at hu;obtain⟨v,hvm,rfl⟩:=M5.1 hu;exact aO.alk _ v ⟨rfl,rfl,rfl,rfl,rfl,rfl⟩ (hv.gd v hvm)
theorem EF{p:Int}{dg:Nat->Int}{N R:Nat}(hx:aR p dg N R){D:Int}(hD:D<=16000){t:Ft}{ts:List Ft}(hv:dh p dg N R D (t::ts)):aJ R (Gb.dl (ah R t)) (t::ts)=t.c/\∀s,(Gb.aF (dR dg R)).lt (ah R t) s->aJ R (Gb.dl s) (t::ts)=0:=by
 have low:∀u∈ts,(Gb.aF (dR dg R)).lt (ah R u) (ah R t):=λu hu=>ns hx hD (hv.gd u (by simp[hu])) (hv.gd t (by simp)) (hv.dn.head u hu);refine⟨?_,λs hs=>?_⟩
 .rw[im];have e1:aJ R (Gb.dl (ah R t)) ts=0:=Gb.jv λx hx2=>by obtain⟨u,hu,rfl⟩:=M5.1 hx2;unfold Gb.dl;rw[M8];intro e;have:=low u hu;simp only at e;rw[e] at this;exact(Gb.aF (dR dg R)).irr _ this
  have e2:Gb.dl (ah R t) (ah R t)=1:=by unfold Gb.dl;rw[M9 rfl]
  rw[e1,e2];omega
 .refine Gb.jv λx hx2=>?_;obtain⟨u,hu,rfl⟩:=M5.1 hx2;unfold Gb.dl;rw[M8];intro e;simp only at e;rcases Nb.1 hu with rfl|hu
  .rw[e] at hs;exact(Gb.aF (dR dg R)).irr _ hs
  .have:=(Gb.aF (dR dg R)).trans (low u hu) hs;rw[e] at this;exact(Gb.aF (dR dg R)).irr _ this
def fm(ms:List Mm):List (List Ft):=ms.map λx=>x.L::x.r
theorem jb(ms:List Mm):(fm ms).length=ms.length:=by simp[fm]
theorem nv{ms:List Mm}{i:Nat}(h:i<ms.length):(fm ms)[i]?=some (ms[i].L::ms[i].r):=by unfold fm;rw[List.getElem?_map,MW h];rfl
theorem io(p:Int)(dg:Nat->Int)(R:Nat)(ms:List Mm)(i:Nat):(az p dg R (fm ms)).ld i=ct R ms i:=by
 show il R ((fm ms).getD i [])=_;by_cases h:i<ms.length
 .rw[dJ (nv h),cB h];rfl
 .rw[MV,MX (by rw[jb];omega)];unfold ct;rw[MX (by omega)];rfl
theorem aO.ldb{dg:Nat->Int}{N R:Nat}{D:Int}{t:Ft}(g:aO dg N R D t):dY R t:=⟨g.a,g.b,g.d,g.z,g.pl0,g.pl⟩
structure Cp(p:Int)(dg:Nat->Int)(N R:Nat)(vs:List (List Ft))(ms:List Mm)(qs:List Pq)(E:Nat->Nat->Prop)(T:Int):Prop where
 inv:Gb.fY Gb.a8 (ct R ms) ms.length (λi j=>lB ms qs i j\/E i j) (nw ms)
 nd:(ms.map Mm.blk).Nodup
 pr:∀q∈qs,∃x y,x∈ms/\y∈ms/\q.b1=x.blk/\q.b2=y.blk/\dZ x.L y.L q/\q.dg=q.a+q.b+q.d+dg x.L.pl.toNat/\T<=q.dg
 mb:∀x∈ms,∃D,D<=T/\D<=901/\ja p dg N R D x.L x.r
 ng:∀x∈ms,x.gone=false
 anti:ms.Pairwise λx y=>¬Gb.a8.dv (ah R x.L) (ah R y.L)/\¬Gb.a8.dv (ah R y.L) (ah R x.L)
 vb:i9 p dg N R 9 vs
 mx:∀x∈ms,∀D,ja p dg N R D x.L x.r->Gb.Vb (az p dg R vs) (λs=>aN dg R s=D.toNat) λφ=>aJ R φ (x.L::x.r)
 my:∀v∈vs,∀D,dh p dg N R D v->Gb.Vb (az p dg R (fm ms)) (λs=>aN dg R s=D.toNat) λφ=>aJ R φ v
 ql:qs.length<=407253*ms.length
def dT(p:Int)(dg:Nat->Int)(R:Nat)(ms:List Mm)(E:Nat->Nat->Prop):Prop:=∀i j,E i j->i<ms.length/\j<ms.length/\∃a b,Gb.aC a (ct R ms i)=Gb.a8.lc (ct R ms i) (ct R ms j)/\Gb.aC b (ct R ms j)=Gb.a8.lc (ct R ms i) (ct R ms j)/\Gb.Rl (az p dg R (fm ms)) i a j b
theorem Cp.nil(p:Int)(dg:Nat->Int)(N R:Nat):Cp p dg N R [] [] [] (λ_ _=>False) 0:=
 ⟨⟨λt i j hi=>by simp at hi,λx hx=>by simp at hx,λi j h=>(h:lB [] [] i j\/False).elim (fun⟨hi,_⟩=>by simp at hi) False.elim⟩,by simp,λq hq=>by simp at hq,λx hx=>by simp at hx,λx hx=>by simp at hx,by simp,λv hv=>by simp at hv,λx hx=>by simp at hx,λv hv=>by simp at hv,by simp⟩
theorem dT.nil(p:Int)(dg:Nat->Int)(R:Nat):dT p dg R [] (λ_ _=>False):=λ_ _ h=>h.elim
theorem Cp.msh{p:Int}{dg:Nat->Int}{N R:Nat}{vs:List (List Ft)}{ms:List Mm}{qs:List Pq}{E:Nat->Nat->Prop}{T:Int}(h:Cp p dg N R vs ms qs E T):i9 p dg N R 901 (fm ms):=λv hv=>by obtain⟨x,hx,rfl⟩:=M5.1 hv;obtain⟨D,_,h2,h3⟩:=h.mb x hx;exact⟨D,h2,by simp,h3.vch⟩
theorem Cp.msk{p:Int}{dg:Nat->Int}{N R:Nat}(hx:aR p dg N R){vs:List (List Ft)}{ms:List Mm}{qs:List Pq}{E:Nat->Nat->Prop}{T:Int}(h:Cp p dg N R vs ms qs E T):tU (az p dg R (fm ms)) N ms:=λx hxm=>by obtain⟨i,hi,e⟩:=Nu.1 hxm;obtain⟨D,_,h2,h3⟩:=h.mb x hxm;have hf:=nv hi;rw[e] at hf;exact⟨i,D,by omega,tV hx (by omega) hf h3⟩
theorem EG{p:Int}{dg:Nat->Int}{N R:Nat}(hx:aR p dg N R){x y:Ft}{q:Pq}(h:dZ x y q)(lx:dY R x)(ly:dY R y):aN dg R (Gb.a8.lc (ah R x) (ah R y))=(q.a+q.b+q.d+dg x.pl.toNat).toNat:=by
 obtain⟨n1,n2,n3,_⟩:=h.nn lx ly;rw[h.lc lx ly];have h1:=lx.pl;have g1:=hx.dg x.pl.toNat (by omega);have e1:dR dg R (R-1-x.pl.toNat)=(dg x.pl.toNat).toNat:=by unfold dR;rw[show R-1-(R-1-x.pl.toNat)=x.pl.toNat by omega]
 unfold aN Gb.bP;simp only;rw[e1];omega
theorem Cp.allA{p:Int}{dg:Nat->Int}{N R:Nat}(hx:aR p dg N R){vs:List (List Ft)}{ms:List Mm}{qs:List Pq}{E:Nat->Nat->Prop}{T:Int}(h:Cp p dg N R vs ms qs E T)(hE:dT p dg R ms E)(P:Gb.Te->Prop)(hP:∀{s t:Gb.Te},Gb.a8.dv s t->P t->P s)(hq:∀q∈qs,∀s,P s->aN dg R s<q.dg.toNat):Gb.oP (az p dg R (fm ms)) P:=by
 refine Gb.DM (Gb.DO _) (D:=Gb.a8) (Gb.qz _) (P:=λi j=>lB ms qs i j\/E i j) (λt i j hi hj d1 d2=>?_) (A:=P) hP (λi j t hp d1 d2 hA=>?_)
 .have hi:=jW hi;have hj:=jW hj;rw[jb] at hi hj;rw[io] at d1 d2;refine(h.inv.con t i j hi hj d1 d2).mono λa b e=>?_;obtain⟨e1,e2,e3,e4⟩:=e;exact⟨e1,by rw[io];exact e2,by rw[io];exact e3,by rw[io,io];exact e4⟩
 .rw[io,io] at hA⊢;rcases hp with ⟨hi,hj,q,hqm,e1,e2⟩|hp
  .exfalso;obtain⟨x,y,x1,y1,f1,f2,f3,f4,f5⟩:=h.pr q hqm;have ex:x=ms[i]:=kE h.nd x1 (MS hi) (f1.symm.trans e1);have ey:y=ms[j]:=kE h.nd y1 (MS hj) (f2.symm.trans e2);subst ex ey;obtain⟨Dx,_,_,mx⟩:=h.mb _ x1;obtain⟨Dy,_,_,my⟩:=h.mb _ y1;have:=hq q hqm _ hA;rw[cB hi,cB hj,EG hx f3 (mx.gd _ (by simp)).ldb (my.gd _ (by simp)).ldb,<-f4] at this;omega
  .obtain⟨_,_,a,b,h1,h2,h3⟩:=hE i j hp;exact⟨a,b,h1,h2,h3⟩
theorem Cp.no_dv{p:Int}{dg:Nat->Int}{N R:Nat}{vs:List (List Ft)}{ms:List Mm}{qs:List Pq}{E:Nat->Nat->Prop}{T:Int}(h:Cp p dg N R vs ms qs E T){t:Ft}(ht:dY R t)(hf:iz ms t=none):∀x∈ms,¬Gb.a8.dv (ah R x.L) (ah R t):=λx hx hd=>by
 obtain⟨D,_,_,h3⟩:=h.mb x hx;have hl:=(h3.gd x.L (by simp)).ldb;have h1:=(yV hl ht).2 hd;have h2:=List.find?_eq_none.1 hf x (Nh.2 ⟨hx,by
  have:=(yW h1).1;have:=ht.pl;simp only[decide_eq_true_eq];omega⟩)
 apply h2;unfold gj;rw[h.ng x hx,h1];rfl
theorem Cp.small{p:Int}{dg:Nat->Int}{N R:Nat}(hx:aR p dg N R){vs:List (List Ft)}{ms:List Mm}{qs:List Pq}{E:Nat->Nat->Prop}{T:Int}(h:Cp p dg N R vs ms qs E T)(hE:dT p dg R ms E){D:Int}(hD:D<=16000)(hq:∀q∈qs,D<=q.dg){t:Ft}{ts:List Ft}(hv:dh p dg N R D (t::ts))(hm:Gb.Vb (az p dg R (fm ms)) (λs=>aN dg R s=D.toNat) λφ=>aJ R φ (t::ts))(hf:iz ms t=none):D<=901:=by
 have gt:=hv.gd t (by simp);have hts:=gt.ts hx;have hA:=h.allA hx hE (λu=>aN dg R u<D.toNat) (fun {s u} hd hs=>by
  have:=Gb.DQ (d:=dR dg R) hd;unfold aN at hs⊢;omega) (λq hqm s hs=>by have:=hq q hqm;omega)
 have h0:=qQ hx (by omega) h.vb;have h1:=qQ hx (by omega) h.msh;have hmx:∀i,(az p dg R (fm ms)).live i->Gb.Vb (az p dg R vs) (λs=>aN dg R s=aN dg R ((az p dg R (fm ms)).ld i)) λφ=>Gb.ln φ ((az p dg R (fm ms)).g i):=λi hi=>by
  have hi:=jW hi;rw[jb] at hi;obtain⟨D2,_,_,h3⟩:=h.mb ms[i] (MS hi);have h4:=h.mx ms[i] (MS hi) D2 h3;have e1:(az p dg R (fm ms)).ld i=ah R ms[i].L:=by rw[io,cB hi]
  have e2:(az p dg R (fm ms)).g i=dp R (ms[i].L::ms[i].r):=by show dp R _=_;rw[dJ (nv hi)]
  rw[e1,e2,((h3.gd _ (by simp)).ts hx).1];exact h4
 obtain⟨rp,r1,r2⟩:=yT (qP hmx hm);have htop:=EF hx hD hv;have hsm:=Cn.MC (yS hx.pr) (tS hx.pr) hx.r (d:=dR dg R) (λi hi=>by
  unfold dR;have:=hx.dg (R-1-i) (by omega);omega) (G0:=az p dg R vs) (G1:=az p dg R (fm ms)) h0 h1 (λi hi=>by
  obtain⟨D2,u,r,a1,a2,a3⟩:=h.vb.at hi;have e1:(az p dg R vs).ld i=ah R u:=by show il R _=_;rw[dJ a2];rfl
  rw[e1,((a3.gd u (by simp)).ts hx).1];omega) (λi hi=>rfl) (λi hi=>by
  obtain⟨D2,u,r,a1,a2,a3⟩:=h.vb.at hi;have e1:(az p dg R vs).ld i=ah R u:=by show il R _=_;rw[dJ a2];rfl
  have e2:(az p dg R vs).g i=dp R (u::r):=by show dp R _=_;rw[dJ a2]
  have hmem:(u::r)∈vs:=List.mem_of_getElem? a2;have h4:=h.my _ hmem D2 a3;rw[e1,e2,((a3.gd u (by simp)).ts hx).1];have:=yT h4;exact this) hA (X:=λφ=>aJ R φ (t::ts)) r1 r2 (s:=ah R t) (Cn.jT.2 ⟨hts.2,hts.1⟩) (λhd=>by
   have hd:p∣aJ R (Gb.dl (ah R t)) (t::ts):=hd;rw[htop.1] at hd;have:=hv.co t (by simp);exact EH hd (by omega) this.2) (λu hu hl=>by
   have:aJ R (Gb.dl u) (t::ts)=0:=htop.2 u hl;show p∣aJ R (Gb.dl u) (t::ts);rw[this];exact⟨0,by simp⟩) (λi hi hd=>by
   have hi:=jW hi;rw[jb] at hi;rw[io,cB hi] at hd;exact h.no_dv gt.ldb hf _ (MS hi) hd)
 have e:Cn.aK (ah R t).2+dR dg R (ah R t).1=D.toNat:=by have:=hts.1;unfold aN at this;have e2:Gb.bP (ah R t)=Cn.aK (ah R t).2:=rfl;omega
 omega
theorem EI{R:Nat}{ms:List Mm}{qs srt:List Pq}{f:Mm}{k0 k1 k2:Int}{dg:Nat->Int}{E:Nat->Nat->Prop}(hinv:Gb.fY Gb.a8 (ct R ms) ms.length (λi j=>lB ms qs i j\/E i j) (nw ms))(hnd:(ms.map Mm.blk).Nodup)(hld0:∀x∈ms,dY R x.L)(hpr0:∀q∈qs,∃x y,x∈ms/\y∈ms/\q.b1=x.blk/\q.b2=y.blk/\dZ x.L y.L q)(hf:dY R f.L)(hg:f.gone=false)(hne:∀x∈ms,x.blk≠f.blk)(hs:srt.Perm ((iA ms f.L.pl.toNat).map λx=>dq k0 k1 k2 dg x f)):Gb.fY Gb.a8 (ct R (ms.map (bB f.L)++[f])) (ms.length+1) (λi j=>lB (ms.map (bB f.L)++[f]) (qs.filter (λq=>!eP ms f.L q)++bp [] srt) i j\/E i j) (nw (ms.map (bB f.L)++[f])):=by
 have hlen:(ms.map (bB f.L)++[f]).length=ms.length+1:=by simp
 have hlt:∀i (hi:i<ms.length) (hi2:i<(ms.map (bB f.L)++[f]).length),(ms.map (bB f.L)++[f])[i]=bB f.L ms[i]:=λi hi hi2=>by rw[List.getElem_append_left (by simpa using hi),List.getElem_map]
 have hla:∀(hi2:ms.length<(ms.map (bB f.L)++[f]).length),(ms.map (bB f.L)++[f])[ms.length]=f:=λhi2=>by rw[List.getElem_append_right (by simp)];simp
 have hld:∀i,i<ms.length->ct R (ms.map (bB f.L)++[f]) i=ct R ms i:=λi hi=>by rw[cB hi,cB (by omega),hlt i hi (by omega),(fF f.L _).1]
 have hln:ct R (ms.map (bB f.L)++[f]) ms.length=ah R f.L:=by rw[cB (by omega),hla (by omega)]
 have hal:∀q∈srt,∃(i:Nat)(hi:i<ms.length),ms[i].L.pl=f.L.pl/\ms[i].gone=false/\q=dq k0 k1 k2 dg ms[i] f:=λq hq=>by
  obtain⟨x,hx,e⟩:=M5.1 (hs.mem_iff.1 hq);have hx2:=Nh.1 hx;have hx3:=Nh.1 hx2.1;obtain⟨i,hi,e2⟩:=Nu.1 hx3.1;have hp:=hf.pl;refine⟨i,hi,?_,?_,by rw[e2];exact e.symm⟩
  .rw[e2];have:=hx3.2;simp only[decide_eq_true_eq] at this;omega
  .rw[e2];simpa using hx2.2
 have hmem:∀q,q∈bp [] srt->q∈srt:=λq hq=>(o8 srt [] q hq).elim (λh=>by simp at h) id;have hpr:∀(i:Nat)(hi:i<ms.length),ms[i].L.pl=f.L.pl->dZ ms[i].L f.L (dq k0 k1 k2 dg ms[i] f):=λi hi e=>⟨e,rfl,rfl,rfl,rfl⟩;have inj:∀(i j:Nat)(hi:i<ms.length)(hj:j<ms.length),ms[i].blk=ms[j].blk->i=j:=λi j hi hj e=>by
  have h1:(ms.map Mm.blk)[i]'(by simpa using hi)=(ms.map Mm.blk)[j]'(by simpa using hj):=by simp[e]
  exact(List.getElem_inj hnd).1 h1
 have blk':∀i (hi2:i<(ms.map (bB f.L)++[f]).length),(∃hi:i<ms.length,(ms.map (bB f.L)++[f])[i].blk=ms[i].blk)\/(i=ms.length/\(ms.map (bB f.L)++[f])[i].blk=f.blk):=λi hi2=>by
  by_cases hi:i<ms.length
  .exact Np ⟨hi,by rw[hlt i hi hi2,(fF f.L _).2.1]⟩
  .have e:i=ms.length:=by omega
   subst e;exact Nq ⟨rfl,by rw[hla hi2]⟩
 have h0:Gb.fY Gb.a8 (ct R (ms.map (bB f.L)++[f])) ms.length (λi j=>lB ms qs i j\/E i j) (nw ms):=tW hinv hld (λ_ _=>Iff.rfl) λ_ _=>Iff.rfl;refine h0.step (kept:=λi=>∃(hi:i<ms.length),∃q∈bp [] srt,q.b1=ms[i].blk) (λx hx=>hx.1) (λx t hx hgx d1 d2=>?_) (λi j hp=>?_) (λi hi=>?_) (λi j hp=>?_) (λx=>?_)
 .rw[hld x hx,cB hx] at d1;rw[hln] at d2;have lx:=hld0 ms[x] (MS hx);have hpl:ms[x].L.pl=f.L.pl:=by have e1:(ah R ms[x].L).1=(ah R f.L).1:=d1.1.trans d2.1.symm;have p1:=lx.pl;have p2:=hf.pl;unfold ah at e1;simp only at e1;omega
  have hgx2:ms[x].gone=false:=by
   cases e:ms[x].gone with
   |true=>exact absurd ⟨hx,e⟩ hgx
   |false=>rfl
  have hin:dq k0 k1 k2 dg ms[x] f∈srt:=by refine hs.mem_iff.2 (M5.2 ⟨ms[x],Nh.2 ⟨Nh.2 ⟨MS hx,?_⟩,by simp[hgx2]⟩,rfl⟩);have p2:=hf.pl;simp only[decide_eq_true_eq];omega
  rcases qS srt [] _ hin with h1|⟨q,hq,h1⟩
  .exact Np ⟨hx,_,h1,rfl⟩
  .obtain⟨y,hy,ypl,ygo,rfl⟩:=hal q (hmem q hq);have ly:=hld0 ms[y] (MS hy);have hlc:Gb.a8.dv (Gb.a8.lc (ah R ms[y].L) (ah R f.L)) (Gb.a8.lc (ah R ms[x].L) (ah R f.L)):=by rw[mo ly hf,mo lx hf,ypl,hpl];unfold jY gm at h1;simp only[Bool.and_eq_true,decide_eq_true_eq] at h1;obtain⟨⟨⟨a1,a2⟩,a3⟩,_⟩:=h1;exact⟨rfl,Int.toNat_le_toNat a1,Int.toNat_le_toNat a2,Int.toNat_le_toNat a3⟩
   refine Nq ⟨y,⟨hy,_,hq,rfl⟩,?_,?_⟩
   .rw[hld y hy,cB hy];exact Gb.a8.trans (yX _ (ah R f.L)) (Gb.a8.trans hlc (Gb.a8.lci d1 d2))
   .rw[hld y hy,cB hy,hln,hld x hx,cB hx];exact hlc
 .rcases Or.symm hp with hp|hp
  .exact Np (Nq hp)
  obtain⟨hi2,hj2,q,hq,e1,e2⟩:=hp;rcases MY.1 hq with hq|hq
  .have hq2:=(Nh.1 hq).1;obtain⟨x,y,hx,hy,f1,f2,_⟩:=hpr0 q hq2;rcases blk' i hi2 with ⟨hi,b1⟩|⟨_,b1⟩
   .rcases blk' j hj2 with ⟨hj,b2⟩|⟨_,b2⟩
    .exact Np (Np ⟨hi,hj,q,hq2,by rw[e1,b1],by rw[e2,b2]⟩)
    .exact absurd (f2.symm.trans (e2.trans b2)) (hne y hy)
   .exact absurd (f1.symm.trans (e1.trans b1)) (hne x hx)
  .obtain⟨x,hx,_,_,rfl⟩:=hal q (hmem q hq);rcases blk' i hi2 with ⟨hi,b1⟩|⟨_,b1⟩
   .rcases blk' j hj2 with ⟨hj,b2⟩|⟨ej,b2⟩
    .exact absurd (e2.trans b2).symm (hne ms[j] (MS hj))
    .exact Nq ⟨ej,hi,_,hq,by rw[e1,b1]⟩
   .exact absurd (e1.trans b1) (hne ms[x] (MS hx))
 .obtain⟨hi2,q,hq,e⟩:=hi;obtain⟨x,hx,_,_,rfl⟩:=hal q (hmem q hq);refine Np ⟨by omega,by omega,_,MY.2 (Nq hq),?_,?_⟩
  .rw[e,hlt i hi2 (by omega),(fF f.L _).2.1]
  .rw[hla (by omega)];rfl
 .rcases Or.symm hp with hp|hp
  .exact Np (Nq hp)
  obtain⟨hi,hj,q,hq,e1,e2⟩:=hp;cases ht:eP ms f.L q with
  |false=>
   refine Np (Np ⟨by omega,by omega,q,MY.2 (Np (Nh.2 ⟨hq,by simp[ht]⟩)),?_,?_⟩)
   .rw[e1,hlt i hi (by omega),(fF f.L _).2.1]
   .rw[e2,hlt j hj (by omega),(fF f.L _).2.1]
  |true=>obtain⟨x,y,hx,hy,f1,f2,hp2⟩:=hpr0 q hq;have ex:x=ms[i]:=kE hnd hx (MS hi) (f1.symm.trans e1);have ey:y=ms[j]:=kE hnd hy (MS hj) (f2.symm.trans e2);subst ex ey;unfold eP at ht;rw[f1,f2,nA hnd hx,nA hnd hy] at ht;refine Nq ?_;rw[hld i hi,hld j hj,cB hi,cB hj,hln];exact yY hp2 (hld0 _ hx) (hld0 _ hy) hf ht
 .constructor
  .rintro ⟨hx,hgx⟩;rcases (by omega:x<ms.length\/x=ms.length) with hx2|rfl
   .rw[hlt x hx2 hx] at hgx;refine⟨hx2,?_⟩;rw[hln,hld x hx2,cB hx2];rcases (o9 hf (hld0 _ (MS hx2))).1 hgx with h1|h1
    .exact Np ⟨hx2,h1⟩
    .exact Nq h1
   .rw[hla hx,hg] at hgx;simp at hgx
  .rintro ⟨hx2,h1⟩;refine⟨by omega,?_⟩;rw[hlt x hx2 (by omega)];rw[hln,hld x hx2,cB hx2] at h1;refine(o9 hf (hld0 _ (MS hx2))).2 ?_;rcases h1 with ⟨_,h1⟩|h1
   .exact Np h1
   .exact Nq h1
def tri:Nat->Nat
 |0=>0
 |n+1=>tri n+n+1
theorem yZ:∀n,2*tri n=n*(n+1)
 |0=>rfl
 |n+1=>by have:=yZ n;simp only[tri];grind
theorem zd{m n:Nat}(h:m<=n):tri m<=tri n:=by
 obtain⟨k,rfl⟩:∃k,n=m+k:=⟨n-m,by omega⟩;induction k with
 |zero=>exact MI _
 |succ k ih=>have:=ih (by omega);show _<=tri (m+k)+(m+k)+1;omega
theorem EJ{a b c d:Nat}(h:tri (a+b)+b=tri (c+d)+d):a=c/\b=d:=by
 have fO:∀{s u x y:Nat},x<=s->s<u->tri s+x=tri u+y->False:=fun {s u x y} hx hs e=>by have h1:=zd (show s+1<=u from hs);have h2:tri (s+1)=tri s+s+1:=rfl;omega
 rcases Nat.lt_trichotomy (a+b) (c+d) with h1|h1|h1
 .exact(fO (by omega) h1 h).elim
 .rw[h1] at h;omega
 .exact(fO (by omega) h1 h.symm).elim
theorem EK{K:Nat}{l:List Cn.Mt}(hb:∀y∈l,y.1+y.2.1<K)(ha:l.Pairwise λx y=>¬Cn.dW x y/\¬Cn.dW y x):l.length<=tri K:=by
 have h:=Cn.m5 (l.map λy=>tri (y.1+y.2.1)+y.2.1) (List.range (tri K)) (List.pairwise_map.2 (ha.imp_of_mem fun {x y} hx hy hxy e=>?_)) λz hz=>?_
 .simpa using h
 .obtain⟨e1,e2⟩:=EJ e;rcases Nat.le_total x.2.2 y.2.2 with h|h
  .exact hxy.1 ⟨by omega,by omega,h⟩
  .exact hxy.2 ⟨by omega,by omega,h⟩
 .obtain⟨y,hy,rfl⟩:=M5.1 hz;have h1:=hb y hy;rw[List.mem_range];have h2:=zd (show y.1+y.2.1+1<=K from h1);have h3:tri (y.1+y.2.1+1)=tri (y.1+y.2.1)+(y.1+y.2.1)+1:=rfl;omega
theorem ze{B:Nat}:∀(R:Nat)(l:List Mm),(∀x∈l,0<=x.L.pl/\x.L.pl<R)->(∀pl:Nat,pl<R->(aU l pl).length<=B)->l.length<=R*B
 |0,l,h,_=>by
  cases l with
  |nil=>simp
  |cons x l=>have:=h x (by simp);omega
 |R+1,l,h,hB=>by
  have h1:=ze R (l.filter λx=>!decide (x.L.pl=(R:Int))) (λx hx=>by
   obtain⟨a,b⟩:=Nh.1 hx;have:=h x a;simp only[Bool.not_eq_true',decide_eq_false_iff_not] at b;omega) (λpl hp=>by
   refine MO ?_ (hB pl (by omega));exact List.Sublist.length_le (List.Sublist.filter _ List.filter_sublist))
  have h2:=hB R (by omega);have h3:l.length=(aU l R).length+(l.filter λx=>!decide (x.L.pl=(R:Int))).length:=by unfold aU;rw[<-List.countP_eq_length_filter,<-List.countP_eq_length_filter];have:=List.length_eq_countP_add_countP (λx:Mm=>decide (x.L.pl=(R:Int))) (l:=l);simpa using this
  rw[Nat.add_mul];omega
theorem Cp.len{p:Int}{dg:Nat->Int}{N R:Nat}(hx:aR p dg N R){vs:List (List Ft)}{ms:List Mm}{qs:List Pq}{E:Nat->Nat->Prop}{T:Int}(h:Cp p dg N R vs ms qs E T):(∀pl:Nat,(aU ms pl).length<=407253)/\ms.length<=1221759/\qs.length<=500000000000:=by
 have h1:∀pl:Nat,(aU ms pl).length<=407253:=λpl=>by
  have e:tri 902=407253:=by have:=yZ 902;omega
  rw[<-e];have hpw:(aU ms pl).Pairwise λx y=>¬Gb.a8.dv (ah R x.L) (ah R y.L)/\¬Gb.a8.dv (ah R y.L) (ah R x.L):=h.anti.sublist List.filter_sublist;have:=EK (K:=902) (l:=(aU ms pl).map λx=>(ah R x.L).2) (λy hy=>?_) (List.pairwise_map.2 (hpw.imp_of_mem fun {x y} hx1 hy1 hxy=>?_))
  .simpa using this
  .obtain⟨x,hxm,rfl⟩:=M5.1 hy;obtain⟨D,_,h2,h3⟩:=h.mb x (Nh.1 hxm).1;have g:=h3.gd x.L (by simp);have hb:=g.bd hx;have g1:=g.a;have g2:=g.b;have g3:=g.d;unfold ah;simp only;omega
  .have ex:=(Nh.1 hx1).2;have ey:=(Nh.1 hy1).2;simp only[decide_eq_true_eq] at ex ey;have e1:(ah R x.L).1=(ah R y.L).1:=by unfold ah;simp only;rw[ex,ey]
   exact⟨λhl=>hxy.1 ⟨e1,hl.1,hl.2.1,hl.2.2⟩,λhl=>hxy.2 ⟨e1.symm,hl.1,hl.2.1,hl.2.2⟩⟩
 have h2:ms.length<=1221759:=by
  have:=ze R ms (λx hxm=>by
   obtain⟨D,_,_,h3⟩:=h.mb x hxm;have g:=h3.gd x.L (by simp);exact⟨g.pl0,g.pl⟩) λpl _=>h1 pl
  have hr:=hx.r;have:=Nr 407253 hr;omega
 have h3:=h.ql;have h4:=Nat.mul_le_mul_left 407253 h2;exact⟨h1,h2,by omega⟩
theorem Cp.raise{p:Int}{dg:Nat->Int}{N R:Nat}{vs:List (List Ft)}{ms:List Mm}{qs:List Pq}{E:Nat->Nat->Prop}{T T2:Int}(h:Cp p dg N R vs ms qs E T)(hT:T<=T2)(hq:∀q∈qs,T2<=q.dg):Cp p dg N R vs ms qs E T2:=
 ⟨h.inv,h.nd,λq hqm=>by
  obtain⟨x,y,a1,a2,a3,a4,a5,a6,_⟩:=h.pr q hqm;exact⟨x,y,a1,a2,a3,a4,a5,a6,hq q hqm⟩,λx hxm=>by
  obtain⟨D,h1,h2,h3⟩:=h.mb x hxm;exact⟨D,by omega,h2,h3⟩,h.ng,h.anti,h.vb,h.mx,h.my,h.ql⟩
theorem tX{α:Type}{l:List α}{k:Nat}(hk:k<l.length){x:α}:x∈l↔x=l[k]\/x∈l.take k++l.drop (k+1):=by
 have e:l=l.take k++l[k]::l.drop (k+1):=by rw[<-Nn hk,List.take_append_drop]
 constructor
 .intro h;rw[e] at h;rcases MY.1 h with h|h
  .exact Nq (MY.2 (Np h))
  .rcases Nb.1 h with h|h
   .exact Np h
   .exact Nq (MY.2 (Nq h))
 .rintro (h|h)
  .rw[h];exact MS hk
  .rcases MY.1 h with h|h
   .exact Ns h
   .exact List.mem_of_mem_drop h
theorem Cp.pop{p:Int}{dg:Nat->Int}{N R:Nat}{vs:List (List Ft)}{ms:List Mm}{qs:List Pq}{E:Nat->Nat->Prop}{T:Int}(h:Cp p dg N R vs ms qs E T){k:Nat}(hk:k<qs.length)(hmin:∀q∈qs,qs[k].dg<=q.dg):∃(i j:Nat)(hi:i<ms.length)(hj:j<ms.length),qs[k].b1=ms[i].blk/\qs[k].b2=ms[j].blk/\dZ ms[i].L ms[j].L qs[k]/\qs[k].dg=qs[k].a+qs[k].b+qs[k].d+dg ms[i].L.pl.toNat/\T<=qs[k].dg/\Cp p dg N R vs ms (qs.take k++qs.drop (k+1)) (λa b=>E a b\/(a=i/\b=j)) qs[k].dg:=by
 obtain⟨x,y,a1,a2,a3,a4,a5,a6,a7⟩:=h.pr qs[k] (MS hk);obtain⟨i,hi,rfl⟩:=Nu.1 a1;obtain⟨j,hj,rfl⟩:=Nu.1 a2;have inj:∀(a b:Nat)(ha:a<ms.length)(hb:b<ms.length),ms[a].blk=ms[b].blk->a=b:=λa b ha hb e=>by
  have h1:(ms.map Mm.blk)[a]'(by simpa using ha)=(ms.map Mm.blk)[b]'(by simpa using hb):=by simp[e]
  exact(List.getElem_inj h.nd).1 h1
 refine⟨i,j,hi,hj,a3,a4,a5,a6,a7,tW h.inv (λ_ _=>rfl) (λa b=>?_) λ_ _=>Iff.rfl,h.nd,λq hq=>?_,λz hz=>?_,h.ng,h.anti,h.vb,h.mx,h.my,?_⟩
 .constructor
  .rintro (⟨ha,hb,q,hq,e1,e2⟩|hE|⟨rfl,rfl⟩)
   .exact Np ⟨ha,hb,q,(tX hk).2 (Nq hq),e1,e2⟩
   .exact Nq hE
   .exact Np ⟨hi,hj,_,MS hk,a3,a4⟩
  .rintro (⟨ha,hb,q,hq,e1,e2⟩|hE)
   .rcases (tX hk).1 hq with e|hq
    .refine Nq (Nq ⟨inj _ _ ha hi ?_,inj _ _ hb hj ?_⟩)
     .rw[<-e1,e,a3]
     .rw[<-e2,e,a4]
    .exact Np ⟨ha,hb,q,hq,e1,e2⟩
   .exact Nq (Np hE)
 .have hq2:=(tX hk).2 (Nq hq);obtain⟨x,y,c1,c2,c3,c4,c5,c6,_⟩:=h.pr q hq2;exact⟨x,y,c1,c2,c3,c4,c5,c6,hmin q hq2⟩
 .obtain⟨D,h1,h2,h3⟩:=h.mb z hz;exact⟨D,by omega,h2,h3⟩
 .have:=h.ql;simp only[M0,Nj,List.length_drop];omega
theorem pd(ms:List Mm)(f:Mm):fm (ms++[f])=fm ms++[f.L::f.r]:=by simp[fm]
theorem dh.deg{p:Int}{dg:Nat->Int}{N R:Nat}{D E:Int}{t:Ft}{ts:List Ft}(h:dh p dg N R D (t::ts))(k:dh p dg N R E (t::ts)):D=E:=by have a:=(h.gd t (by simp)).deg;have b:=(k.gd t (by simp)).deg;omega
theorem Cp.add{p:Int}{dg:Nat->Int}{N R:Nat}(hx:aR p dg N R){vs us:List (List Ft)}{ms:List Mm}{qs srt:List Pq}{E:Nat->Nat->Prop}{T k0 k1 k2:Int}{f:Mm}(h:Cp p dg N R vs ms qs E T)(hT:T<=901)(hf:ja p dg N R T f.L f.r)(hg:f.gone=false)(hne:∀x∈ms,x.blk≠f.blk)(hs:srt.Perm ((iA ms f.L.pl.toNat).map λx=>dq k0 k1 k2 dg x f))(hno:∀x∈ms,¬Gb.a8.dv (ah R x.L) (ah R f.L))(hus:i9 p dg N R 9 us)(hmx:Gb.Vb (az p dg R (vs++us)) (λs=>aN dg R s=T.toNat) λφ=>aJ R φ (f.L::f.r))(hmy:∀v∈us,∀D,dh p dg N R D v->Gb.Vb (az p dg R (fm (ms++[f]))) (λs=>aN dg R s=D.toNat) λφ=>aJ R φ v):ms.map (bB f.L)=ms/\Cp p dg N R (vs++us) (ms++[f]) (qs.filter (λq=>!eP ms f.L q)++bp [] srt) E T:=by
 have gf:=hf.gd f.L (by simp);have lf:=gf.ldb;have hld:∀x∈ms,dY R x.L:=λx hxm=>by obtain⟨D,_,_,h3⟩:=h.mb x hxm;exact(h3.gd x.L (by simp)).ldb
 have hno2:∀x∈ms,¬Gb.a8.dv (ah R f.L) (ah R x.L):=λx hxm hd=>by obtain⟨D,h1,_,h3⟩:=h.mb x hxm;have g:=h3.gd x.L (by simp);have t1:=(gf.ts hx).1;have t2:=(g.ts hx).1;have hd2:(ah R f.L).1=(ah R x.L).1/\(ah R f.L).2.1<=(ah R x.L).2.1/\(ah R f.L).2.2.1<=(ah R x.L).2.2.1/\(ah R f.L).2.2.2<=(ah R x.L).2.2.2:=hd;unfold aN Gb.bP at t1 t2;rw[hd2.1] at t1;exact hno x hxm ⟨hd2.1.symm,by omega,by omega,by omega⟩
 have hgo:ms.map (bB f.L)=ms:=by
  have:∀x∈ms,bB f.L x=x:=λx hxm=>by
   have h1:=h.ng x hxm;have h2:(bB f.L x).gone=false:=by
    cases e:(bB f.L x).gone with
    |false=>rfl
    |true=>
     rcases (o9 lf (hld x hxm)).1 e with h3|h3
     .rw[h1] at h3;simp at h3
     .exact absurd h3 (hno2 x hxm)
   unfold bB lC at h2⊢;by_cases hpl:x.L.pl=f.L.pl
   .rw[M9 hpl] at h2⊢;simp only at h2;rw[h2];obtain⟨b,L,rv,r,g⟩:=x;simp only at h1;rw[h1]
   .rw[M8 hpl]
  rw[List.map_congr_left this,List.map_id']
 have hpr2:∀q∈qs,∃x y,x∈ms/\y∈ms/\q.b1=x.blk/\q.b2=y.blk/\dZ x.L y.L q:=λq hq=>by obtain⟨x,y,a1,a2,a3,a4,a5,_⟩:=h.pr q hq;exact⟨x,y,a1,a2,a3,a4,a5⟩
 have hinv:=EI h.inv h.nd hld hpr2 lf hg hne hs;rw[hgo] at hinv;have hex1:=mp p dg R vs us;have hex2:=mp p dg R (fm ms) [f.L::f.r];rw[<-pd] at hex2;have hal:∀q∈bp [] srt,∃x∈ms,x.L.pl=f.L.pl/\q=dq k0 k1 k2 dg x f:=λq hq=>by have hq2:=(o8 srt [] q hq).elim (λh=>by simp at h) id;obtain⟨x,hxm,e⟩:=M5.1 (hs.mem_iff.1 hq2);have h2:=Nh.1 (Nh.1 hxm).1;have h3:=h2.2;have hp:=lf.pl;simp only[decide_eq_true_eq] at h3;exact⟨x,h2.1,by omega,e.symm⟩
 refine⟨hgo,by rw[M0];exact hinv,?_,λq hq=>?_,λx hxm=>?_,λx hxm=>?_,?_,λv hv=>?_,λx hxm D hD=>?_,λv hv D hD=>?_,?_⟩
 .rw[Nd];refine List.nodup_append.2 ⟨h.nd,by simp,λa ha b hb=>?_⟩;simp at hb;obtain⟨x,hxm,rfl⟩:=M5.1 ha;rw[hb];exact hne x hxm
 .rcases MY.1 hq with hq|hq
  .obtain⟨x,y,a1,a2,a3⟩:=h.pr q (Nh.1 hq).1;exact⟨x,y,by simp[a1],by simp[a2],a3⟩
  .obtain⟨x,hxm,hpl,rfl⟩:=hal q hq;have z1:=(hld x hxm).z;have z2:=lf.z;have gd:=gf.deg;refine⟨x,f,by simp[hxm],by simp,rfl,rfl,⟨hpl,rfl,rfl,rfl,rfl⟩,?_,?_⟩
   .show nB x.L f.L+dg x.L.pl.toNat=dL x.L f.L+dM x.L f.L+dN x.L f.L+dg x.L.pl.toNat;unfold nB dO;rw[z1,z2];omega
   .show T<=nB x.L f.L+dg x.L.pl.toNat;rw[hpl];unfold nB dL dM dN dO;rw[z1,z2];omega
 .rcases MY.1 hxm with hxm|hxm
  .exact h.mb x hxm
  .rw[MZ] at hxm;subst hxm;exact⟨T,Int.le_refl _,hT,hf⟩
 .rcases MY.1 hxm with hxm|hxm
  .exact h.ng x hxm
  .rw[MZ] at hxm;subst hxm;exact hg
 .refine List.pairwise_append.2 ⟨h.anti,by simp,λx hxm y hy=>?_⟩;rw[MZ] at hy;subst hy;exact⟨hno x hxm,hno2 x hxm⟩
 .rcases MY.1 hv with hv|hv
  .exact h.vb v hv
  .exact hus v hv
 .rcases MY.1 hxm with hxm|hxm
  .exact mr hex1 (h.mx x hxm D hD)
  .rw[MZ] at hxm;subst hxm;rw[hD.vch.deg hf.vch];exact hmx
 .rcases MY.1 hv with hv|hv
  .exact mr hex2 (h.my v hv D hD)
  .exact hmy v hv D hD
 .have h1:=h.ql;have h2:(bp [] srt).length<=srt.length:=by
   have:∀(xs kept:List Pq),(bp kept xs).length<=kept.length+xs.length:=by
    intro xs;induction xs with
    |nil=>intro kept;simp[bp]
    |cons x xs ih=>
     intro kept;unfold bp;split
     .have:=ih kept;simp only[Nc];omega
     .have:=ih (kept++[x]);simp only[M0,Nc,List.length_nil] at this⊢;omega
   have:=this srt [];simpa using this
  have h3:=hs.length_eq;rw[M6] at h3;have h4:(iA ms f.L.pl.toNat).length<=(aU ms f.L.pl.toNat).length:=Nm _ _;have h5:=(h.len hx).1 f.L.pl.toNat;have h6:=Nm (λq=>!eP ms f.L q) qs;simp only[M0,Nc,List.length_nil];omega
theorem Cp.putv{p:Int}{dg:Nat->Int}{N R:Nat}{vs:List (List Ft)}{ms:List Mm}{qs:List Pq}{E:Nat->Nat->Prop}{T:Int}{v:List Ft}(h:Cp p dg N R vs ms qs E T){D:Int}(hD:D<=9)(hv:dh p dg N R D v)(hne:v≠[])(hm:Gb.Vb (az p dg R (fm ms)) (λs=>aN dg R s=D.toNat) λφ=>aJ R φ v):Cp p dg N R (vs++[v]) ms qs E T:=by
 refine⟨h.inv,h.nd,h.pr,h.mb,h.ng,h.anti,λu hu=>?_,λx hxm D2 hD2=>mr (mp p dg R vs [v]) (h.mx x hxm D2 hD2),λu hu D2 hD2=>?_,h.ql⟩
 .rcases MY.1 hu with hu|hu
  .exact h.vb u hu
  .rw[MZ] at hu;subst hu;exact⟨D,hD,hne,hv⟩
 .rcases MY.1 hu with hu|hu
  .exact h.my u hu D2 hD2
  .rw[MZ] at hu;subst hu;cases u with
   |nil=>exact absurd rfl hne
   |cons t ts=>rw[hD2.deg hv];exact hm
theorem dT.ext{p:Int}{dg:Nat->Int}{N R:Nat}(hx:aR p dg N R){vs:List (List Ft)}{ms:List Mm}{qs:List Pq}{E E2:Nat->Nat->Prop}{T:Int}(h:Cp p dg N R vs ms qs E2 T)(hE:dT p dg R ms E)(f:Mm):dT p dg R (ms++[f]) E:=λi j hij=>by
 obtain⟨hi,hj,a,b,h1,h2,h3⟩:=hE i j hij;have e:∀k,k<ms.length->ct R (ms++[f]) k=ct R ms k:=λk hk=>by rw[cB hk,cB (by simp;omega),List.getElem_append_left hk]
 have hl:=qQ hx (by omega) h.msh;refine⟨by simp;omega,by simp;omega,a,b,by rw[e i hi,e j hj];exact h1,by rw[e i hi,e j hj];exact h2,?_⟩;have hex:=mp p dg R (fm ms) [f.L::f.r];rw[<-pd] at hex;exact EL hex (hl.live i (by rw[jb];exact hi)) (hl.live j (by rw[jb];exact hj)) h3
end Go.Proofs.YteimdcndjjclnaaGreat
namespace Go.Proofs.YteimdcndjjclnaaGreat
open Go.Proofs.Tryz
set_option linter.all false
def nT(N:Nat)(s:Gb.Te):Prop:=(N<=1->s.2.2.1=0)/\(N<=2->s.2.2.2=0)
def nM(N:Nat)(m:Gb.Mo):Prop:=(N<=1->m.2.1=0)/\(N<=2->m.2.2=0)
theorem aO.nt{dg:Nat->Int}{N R:Nat}{D:Int}{t:Ft}(g:aO dg N R D t):nT N (ah R t):=⟨λh=>by have:=g.n1 h;unfold ah;simp only;omega,λh=>by have:=g.n2 h;unfold ah;simp only;omega⟩
theorem tY{N:Nat}{m:Gb.Mo}{s:Gb.Te}:nT N (Gb.aC m s)↔nM N m/\nT N s:=by
 unfold nT nM Gb.aC;simp only;constructor
 .exact λh=>⟨⟨λk=>by have:=h.1 k;omega,λk=>by have:=h.2 k;omega⟩,⟨λk=>by have:=h.1 k;omega,λk=>by have:=h.2 k;omega⟩⟩
 .exact fun⟨h,k⟩=>⟨λj=>by have:=h.1 j;have:=k.1 j;omega,λj=>by have:=h.2 j;have:=k.2 j;omega⟩
theorem i9.term{p:Int}{dg:Nat->Int}{N R:Nat}(hx:aR p dg N R){Q:Int}{fss:List (List Ft)}(h:i9 p dg N R Q fss){i:Nat}(hi:i<fss.length):∀x∈(az p dg R fss).g i,nT N x.2/\x.2.1<R/\aN dg R x.2=aN dg R ((az p dg R fss).ld i):=by
 obtain⟨D,t,r,h1,h2,h3⟩:=h.at hi;have hg:(az p dg R fss).g i=dp R (t::r):=by show dp R _=_;rw[dJ h2]
 have hl:(az p dg R fss).ld i=ah R t:=by show il R _=_;rw[dJ h2];rfl
 intro x hxg;rw[hg] at hxg;obtain⟨u,hu,rfl⟩:=M5.1 hxg;have a:=(h3.gd u hu).ts hx;have b:=(h3.gd t (by simp)).ts hx;exact⟨(h3.gd u hu).nt,a.2,by rw[hl,a.1,b.1]⟩
def mt{p:Int}{dg:Nat->Int}{R:Nat}(G:Gb.aZ (Gb.aF (dR dg R)) p)(N n t:Nat)(rp:Gb.Rp Gb.Mo):Prop:=∀r∈rp,r.2.2<n/\nM N r.2.1/\aN dg R (G.ld r.2.2)+(r.2.1.1+r.2.1.2.1+r.2.1.2.2)=t
theorem zf{p:Int}{dg:Nat->Int}{N R:Nat}(hx:aR p dg N R){Q:Int}{fss:List (List Ft)}(h:i9 p dg N R Q fss){t:Nat}{u:Gb.Te}(hu:¬(u.1<R/\aN dg R u=t/\nT N u)):∀{rp:Gb.Rp Gb.Mo},mt (az p dg R fss) N fss.length t rp->Gb.ev (az p dg R fss) (Gb.dl u) rp=0
 |[],_=>rfl
 |r::rp,hr=>by
  have h1:=hr r (by simp);simp only[Gb.ev];rw[zf hx h hu λy hy=>hr y (by simp[hy])];rw[Gb.jv (φ:=λs=>Gb.dl u ((Gb.aF (dR dg R)).act r.2.1 s)) λx hxg=>?_]
  .simp
  .have hT:=h.term hx h1.1 x hxg;show Gb.dl u (Gb.aC r.2.1 x.2)=0;unfold Gb.dl;rw[M8];intro e;apply hu;rw[<-e];refine⟨hT.2.1,?_,tY.2 ⟨h1.2.1,hT.1⟩⟩;rw[kD,hT.2.2];exact h1.2.2
theorem EM{τ M:Type}{S:Gb.cj τ M}{p:Int}{G:Gb.aZ S p}{A:τ->Prop}{X:Gb.Fn τ}(h:Gb.Vb G A X):(∀φ,p∣X φ)\/∃T,A T/\Gb.Vb G (λs=>S.lt s T\/s=T) X:=by
 obtain⟨rp,h1,h2⟩:=h;have hmax:∀l:Gb.Rp M,l=[]\/∃r∈l,∀y∈l,S.lt (S.act y.2.1 (G.ld y.2.2)) (S.act r.2.1 (G.ld r.2.2))\/S.act y.2.1 (G.ld y.2.2)=S.act r.2.1 (G.ld r.2.2):=by
  intro l;induction l with
  |nil=>exact Np rfl
  |cons a l ih=>
   refine Nq ?_;rcases ih with rfl|⟨r,r1,r2⟩
   .exact⟨a,by simp,λy hy=>by rw[MZ] at hy;rw[hy];exact Nq rfl⟩
   .rcases S.tri (S.act a.2.1 (G.ld a.2.2)) (S.act r.2.1 (G.ld r.2.2)) with h|h|h
    .exact⟨r,by simp[r1],λy hy=>(Nb.1 hy).elim (λe=>by rw[e];exact Np h) (r2 y)⟩
    .exact⟨r,by simp[r1],λy hy=>(Nb.1 hy).elim (λe=>by rw[e];exact Nq h) (r2 y)⟩
    .refine⟨a,by simp,λy hy=>(Nb.1 hy).elim (λe=>by rw[e];exact Nq rfl) λhy=>Np ?_⟩;rcases r2 y hy with h3|h3
     .exact S.trans h3 h
     .rw[h3];exact h
 rcases hmax rp with rfl|⟨r,r1,r2⟩
 .exact Np λφ=>by simpa [Gb.ev] using h2 φ
 .exact Nq ⟨_,(h1 r r1).2,rp,λy hy=>⟨(h1 y hy).1,r2 y hy⟩,h2⟩
def ph{p:Int}{dg:Nat->Int}{R:Nat}(G:Gb.aZ (Gb.aF (dR dg R)) p)(N n t:Nat)(T:List Gb.Te)(f:Gb.Te->Int):Prop:=∃rp,mt G N n t rp/\∀s∈T,p∣f s-Gb.ev G (Gb.dl s) rp
theorem zg{p:Int}{dg:Nat->Int}{N R:Nat}(hx:aR p dg N R){Q:Int}(hQ:Q<=16000){fss:List (List Ft)}(h:i9 p dg N R Q fss){i:Nat}(hi:i<fss.length):(az p dg R fss).live i:=by obtain⟨D,t,r,h1,h2,h3⟩:=h.at hi;exact o7 hx (by omega) h2 h3
theorem Cp.toMs{p:Int}{dg:Nat->Int}{N R:Nat}(hx:aR p dg N R){vs:List (List Ft)}{ms:List Mm}{qs:List Pq}{E:Nat->Nat->Prop}{T:Int}(h:Cp p dg N R vs ms qs E T):∀i,(az p dg R vs).live i->Gb.Vb (az p dg R (fm ms)) (λs=>aN dg R s=aN dg R ((az p dg R vs).ld i)) λφ=>Gb.ln φ ((az p dg R vs).g i):=λi hi=>by
 obtain⟨D2,u,r,a1,a2,a3⟩:=h.vb.at (jW hi);have e1:(az p dg R vs).ld i=ah R u:=by show il R _=_;rw[dJ a2];rfl
 have e2:(az p dg R vs).g i=dp R (u::r):=by show dp R _=_;rw[dJ a2]
 rw[e1,e2,((a3.gd u (by simp)).ts hx).1];exact h.my _ (List.mem_of_getElem? a2) D2 a3
theorem EN{p a b:Int}(h:p∣a-b)(hb:p∣b):p∣a:=by obtain⟨x,hx⟩:=h;obtain⟨y,hy⟩:=hb;exact⟨x+y,by rw[Int.mul_add];omega⟩
theorem Cp.leads{p:Int}{dg:Nat->Int}{N R:Nat}(hx:aR p dg N R){vs:List (List Ft)}{ms:List Mm}{E:Nat->Nat->Prop}{D:Int}(h:Cp p dg N R vs ms [] E D)(hE:dT p dg R ms E){t:Nat}{T:List Gb.Te}(hT:∀s,s∈T↔s.1<R/\aN dg R s=t/\nT N s)(s:Gb.Te):Cn.Ld (Cn.i8 (dR dg R)) p T (ph (az p dg R vs) N vs.length t T) s↔s∈T/\∃x∈ms,Gb.a8.dv (ah R x.L) s:=by
 have hA:=h.allA hx hE (λ_=>True) (λ_ _=>trivial) (λq hq=>by simp at hq);constructor
 .rintro ⟨f,⟨rp,r1,r2⟩,hl⟩;have hl2:Cn.i7 (Cn.i8 (dR dg R)) p T (λu=>Gb.ev (az p dg R vs) (Gb.dl u) rp) s:=Cn.qx hl λv hv=>by obtain⟨a,ha⟩:=r2 v hv;exact⟨-a,by rw[Int.mul_neg];omega⟩
  refine⟨hl.1,?_⟩;have hv0:Gb.Vb (az p dg R vs) (λs=>aN dg R s=t) λφ=>Gb.ev (az p dg R vs) φ rp:=⟨rp,λr hr=>⟨zg hx (by omega) h.vb (r1 r hr).1,by
   show aN dg R (Gb.aC r.2.1 _)=t;rw[kD];exact(r1 r hr).2.2⟩,λφ=>⟨0,by simp⟩⟩
  rcases EM (qP (h.toMs hx) hv0) with h0|⟨T0,_,hv1⟩
  .exact absurd (h0 _) hl2.2.1
  .rcases Gb.xZ hA (λ_ _=>trivial) T0 trivial _ hv1 with h0|⟨i,a,v,i1,i2,i3,i4⟩
   .exact absurd (h0 _) hl2.2.1
   .have hvT:v∈T:=Nf λhc=>i3 (by rw[zf hx h.vb (λhu=>hc ((hT v).2 hu)) r1];exact⟨0,by simp⟩);have e:v=s:=Cn.qw (O:=Cn.i8 (dR dg R)) (f:=λv=>Gb.ev (az p dg R vs) (Gb.dl v) rp) ⟨hvT,i3,λw _ hw=>i4 w hw⟩ hl2;have hi:=jW i1;rw[jb] at hi;refine⟨ms[i],MS hi,?_⟩;rw[<-cB hi,<-io p dg R];exact(Gb.qz (dR dg R) _ _).2 ⟨a,by rw[i2,e]⟩
 .rintro ⟨hs,x,hxm,hd⟩;obtain⟨a,ha⟩:=(Gb.qz (dR dg R) _ _).1 hd;have ha:Gb.aC a (ah R x.L)=s:=ha;obtain⟨D2,_,d901,hm⟩:=h.mb x hxm;have hgL:=hm.gd x.L (by simp);have hsT:=(hT s).1 hs;have hnm:nM N a:=(tY.1 (by rw[ha];exact hsT.2.2)).1;have hdeg:D2.toNat+(a.1+a.2.1+a.2.2)=t:=by rw[<-hsT.2.1,<-ha,kD,(hgL.ts hx).1]
  obtain⟨rp,r1,r2⟩:=Gb.Vb.shift (B:=λu=>aN dg R u=t) a (h.mx x hxm D2 hm) (λu hu=>by
   show aN dg R (Gb.aC a u)=t;rw[kD,hu];exact hdeg)
  have low:∀u∈x.r,(Gb.aF (dR dg R)).lt (ah R u) (ah R x.L):=λu hu=>ns hx (by omega) (hm.gd u (by simp[hu])) hgL (hm.dn.head u hu);have htop:∀v,(v=s\/(Gb.aF (dR dg R)).lt s v)->aJ R (λu=>Gb.dl v (Gb.aC a u)) (x.L::x.r)=Gb.dl v s:=λv hv=>by
   rw[im,hm.c1,ha];have e1:aJ R (λu=>Gb.dl v (Gb.aC a u)) x.r=0:=Gb.jv λy hy=>by
    obtain⟨u,hu,rfl⟩:=M5.1 hy;have hlt:=(Gb.aF (dR dg R)).mono a (low u hu);have hlt:(Gb.aF (dR dg R)).lt (Gb.aC a (ah R u)) s:=by rw[<-ha];exact hlt
    show Gb.dl v (Gb.aC a (ah R u))=0;unfold Gb.dl;rw[M8];intro e;rw[e] at hlt;rcases hv with rfl|hv
    .exact(Gb.aF (dR dg R)).irr _ hlt
    .exact(Gb.aF (dR dg R)).irr _ ((Gb.aF (dR dg R)).trans hlt hv)
   rw[e1];omega
  refine⟨λv=>aJ R (λu=>Gb.dl v (Gb.aC a u)) (x.L::x.r),⟨rp.filter λr=>@decide (nM N r.2.1) (Classical.propDecidable _),λr hr=>?_,λv hv=>?_⟩,hs,?_,λv hv hlt=>?_⟩
  .obtain⟨h1,h2⟩:=Nh.1 hr;have h3:=r1 r h1;refine⟨jW h3.1,by simpa using h2,?_⟩;have h4:aN dg R (Gb.aC r.2.1 _)=t:=h3.2;rw[kD] at h4;exact h4
  .have hvT:=(hT v).1 hv;have key:∀l:Gb.Rp Gb.Mo,(∀r∈l,r.2.2<vs.length)->Gb.ev (az p dg R vs) (Gb.dl v) (l.filter λr=>@decide (nM N r.2.1) (Classical.propDecidable _))=Gb.ev (az p dg R vs) (Gb.dl v) l:=by
    intro l;induction l with
    |nil=>exact λ_=>rfl
    |cons r l ih=>
     intro hl;have ih:=ih λy hy=>hl y (by simp[hy]);by_cases hn:nM N r.2.1
     .rw[List.filter_cons_of_pos (by simpa using hn)];simp only[Gb.ev];rw[ih]
     .rw[List.filter_cons_of_neg (by simpa using hn),ih];simp only[Gb.ev];rw[Gb.jv (φ:=λs=>Gb.dl v ((Gb.aF (dR dg R)).act r.2.1 s)) λy hy=>?_]
      .simp
      .show Gb.dl v (Gb.aC r.2.1 y.2)=0;unfold Gb.dl;rw[M8];intro e;exact hn (tY.1 (by rw[e];exact hvT.2.2)).1
   rw[key rp λr hr=>jW (r1 r hr).1];exact r2 (Gb.dl v)
  .show¬p∣aJ R (λu=>Gb.dl s (Gb.aC a u)) (x.L::x.r);rw[htop s (Np rfl)];unfold Gb.dl;rw[M9 rfl];exact tS hx.pr
  .show p∣aJ R (λu=>Gb.dl v (Gb.aC a u)) (x.L::x.r);rw[htop v (Nq hlt)];unfold Gb.dl;rw[M8]
   .exact⟨0,by simp⟩
   .rintro rfl;exact(Gb.aF (dR dg R)).irr _ hlt
theorem EO{τ M:Type}{S:Gb.cj τ M}{p:Int}(G:Gb.aZ S p)(φ:τ->Int)(r:Int×M×Nat)(rp:Gb.Rp M):Gb.ev G φ (r::rp)=r.1*Gb.ev G φ [(1,r.2)]+Gb.ev G φ rp:=by simp[Gb.ev]
theorem qT{p:Int}{dg:Nat->Int}{R:Nat}(G:Gb.aZ (Gb.aF (dR dg R)) p)(N n t:Nat)(T:List Gb.Te):Cn.i6 p T (ph G N n t T) where
 zero:=⟨[],λr hr=>by simp at hr,λs _=>⟨0,by simp[Gb.ev]⟩⟩
 add:=fun {f g} ⟨a,a1,a2⟩ ⟨b,b1,b2⟩=>⟨a++b,λr hr=>(MY.1 hr).elim (a1 r) (b1 r),λs hs=>by
  obtain⟨x,hx⟩:=a2 s hs;obtain⟨y,hy⟩:=b2 s hs;rw[Gb.oH];refine⟨x+y,?_⟩;show f s+g s-_=_;rw[Int.mul_add];omega⟩
 mul:=λc {f} ⟨a,a1,a2⟩=>⟨Gb.ck c a,λr hr=>by
  obtain⟨r0,h0,rfl⟩:=M5.1 hr;exact a1 r0 h0,λs hs=>by
  obtain⟨x,hx⟩:=a2 s hs;rw[Gb.qp];exact⟨c*x,by rw[<-Int.mul_sub,hx,<-Int.mul_assoc,<-Int.mul_assoc,Int.mul_comm c p]⟩⟩
 con:=fun {f g} e ⟨a,a1,a2⟩=>⟨a,a1,λs hs=>by
  obtain⟨x,hx⟩:=a2 s hs;obtain⟨y,hy⟩:=e s hs;exact⟨x+y,by rw[Int.mul_add];omega⟩⟩
theorem qU{τ:Type}(p:Int)(T:List τ):Cn.i6 p T λf:τ->Int=>∀t∈T,p∣f t where
 zero:=λ_ _=>⟨0,by simp⟩
 add:=λh k s hs=>Int.dvd_add (h s hs) (k s hs)
 mul:=λc f h s hs=>Int.dvd_mul_of_dvd_right (h s hs)
 con:=λe h s hs=>EN (e s hs) (h s hs)
theorem tZ{τ:Type}(a:Nat->Int)(φ:Nat->τ->Int)(t:τ):∀n,Cn.sm (List.range n) a φ t=aw n λk=>a k*φ k t
 |0=>rfl
 |n+1=>by have ih:=tZ a φ t n;unfold Cn.sm at ih⊢;rw[List.range_succ,Nd,List.sum_append,ih];simp[aw]
theorem t7{τ:Type}{p:Int}{T:List τ}{V:(τ->Int)->Prop}(hV:Cn.i6 p T V)(a:Nat->Int)(φ:Nat->τ->Int):∀n,(∀k,k<n->V (φ k))->V λt=>aw n λk=>a k*φ k t
 |0,_=>hV.zero
 |n+1,h=>hV.add (t7 hV a φ n λk hk=>h k (by omega)) (hV.mul (a n) (h n (by omega)))
theorem zh{α:Type}:∀{T:List α},T.Nodup->∀{i j:Nat}(hi:i<T.length)(hj:j<T.length),T[i]=T[j]->i=j
 |x::T,hn,0,0,_,_,_=>rfl
 |x::T,hn,0,j+1,_,hj,e=>by
  have e2:x=T[j]'(by simpa using hj):=by simpa using e
  exact absurd (e2 ▸ MS _) (List.nodup_cons.1 hn).1
 |x::T,hn,i+1,0,hi,_,e=>by
  have e2:T[i]'(by simpa using hi)=x:=by simpa using e
  exact absurd (e2 ▸ MS _) (List.nodup_cons.1 hn).1
 |x::T,hn,i+1,j+1,hi,hj,e=>congrArg (·+1) (zh (T:=T) (List.nodup_cons.1 hn).2 (i:=i) (j:=j) (by simpa using hi) (by simpa using hj) (by simpa using e))
theorem zi{α:Type}(P:α->Bool):∀T:List α,(T.filter P).length+(T.filter λs=>!P s).length=T.length
 |[]=>rfl
 |x::T=>by have:=zi P T;cases h:P x<;>simp[List.filter_cons,h]<;>omega
theorem zj{T:List Gb.Te}(hn:T.Nodup){c:Nat}(hc:c<T.length):T.idxOf T[c]=c:=by have hm:T[c]∈T:=MS hc;have hi:=List.idxOf_lt_length_of_mem hm;have he:T[T.idxOf T[c]]=T[c]:=List.getElem_idxOf hi;exact zh hn hi hc he
structure t8{p:Int}{dg:Nat->Int}{R:Nat}(G:Gb.aZ (Gb.aF (dR dg R)) p)(N n t:Nat)(T:List Gb.Te)(idx:List (Nat×Gb.Mo))(rows:List (List Int)):Prop where
 len:rows.length=idx.length
 is:∀k (h:k<idx.length),mt G N n t [(1,idx[k].2,idx[k].1)]
 all:∀i y,mt G N n t [(1,y,i)]->(i,y)∈idx
 at_:∀k (h:k<idx.length) j (hj:j<T.length),p∣Uf rows k j-Gb.ev G (Gb.dl T[j]) [(1,idx[k].2,idx[k].1)]
theorem EP{q:Nat}(hq2:2<=q)(hq:q<=101)(hqr:dQ q q=true){dg:Nat->Int}{R N n t:Nat}{G:Gb.aZ (Gb.aF (dR dg R)) (q:Int)}{T:List Gb.Te}(hT:T.Nodup){idx:List (Nat×Gb.Mo)}{rows:List (List Int)}(h:t8 G N n t T idx rows)(hr:∀r∈rows,df q T.length r):Cn.bT (Cn.Ld (Cn.i8 (dR dg R)) q T (ph G N n t T)) (gJ q rows).length:=by
 have hI:=Ev (p:=q) (n:=T.length) hq2 hq hqr hr;have hp0:bq (q:Int)=0:=sN hq2 hq hqr;generalize gJ (q:Int) rows=fs at hI⊢;have hst:=Cn.MD (Cn.i8 (dR dg R)) (yS hp0) (tS hp0) T fs.length (λk s=>Vf fs k (T.idxOf s)) (λk=>T.getD (fs.getD k (0,[])).1 (0,0,0,0)) ?_ ?_ ?_
 .refine hst.congr λs=>Cn.xO (λf=>?_) s;rw[Cn.l9 _ (qU (q:Int) T) List.nodup_range];have hback:∀k,k<fs.length->ph G N n t T λs=>Vf fs k (T.idxOf s):=λk hk=>by
   have hm:fs.getD k (0,[])∈fs:=by rw[MV,MW hk];exact MS hk
   obtain⟨a,ha⟩:=hI.made _ hm;have hrow:∀i,i<rows.length->ph G N n t T λs=>Uf rows i (T.idxOf s):=λi hi=>by rw[h.len] at hi;refine⟨[(1,idx[i].2,idx[i].1)],h.is i hi,λs hs=>?_⟩;have hj:=List.idxOf_lt_length_of_mem hs;have:=h.at_ i hi _ hj;rw[List.getElem_idxOf hj] at this;exact this
   refine(qT G N n t T).con (λs hs=>?_) (t7 (qT G N n t T) a (λi s=>Uf rows i (T.idxOf s)) rows.length hrow);exact ha _ (List.idxOf_lt_length_of_mem hs)
  constructor
  .rintro ⟨a,g,g1,g2⟩;refine(qT G N n t T).con (λs hs=>?_) (t7 (qT G N n t T) a _ fs.length hback);obtain⟨x,hx⟩:=g1 s hs;obtain⟨y,hy⟩:=g2 s hs;rw[tZ] at hy;exact⟨x+y,by rw[Int.mul_add];omega⟩
  .rintro ⟨rp,r1,r2⟩;have hS:=Cn.tx (ws:=(List.range fs.length).map λk s=>Vf fs k (T.idxOf s)) (qU (q:Int) T);have key:∀rp:Gb.Rp Gb.Mo,mt G N n t rp->Cn.f9 (q:Int) T (λf=>∀s∈T,(q:Int)∣f s) ((List.range fs.length).map λk s=>Vf fs k (T.idxOf s)) λs=>Gb.ev G (Gb.dl s) rp:=by
    intro rp;induction rp with
    |nil=>exact λ_=>hS.con (λs hs=>⟨0,by simp[Gb.ev]⟩) hS.zero
    |cons r rp ih=>
     intro hr;have h1:Cn.f9 (q:Int) T (λf=>∀s∈T,(q:Int)∣f s) ((List.range fs.length).map λk s=>Vf fs k (T.idxOf s)) λs=>Gb.ev G (Gb.dl s) [(1,r.2)]:=by
      have hmem:=h.all r.2.2 r.2.1 λy hy=>by rw[MZ] at hy;subst hy;exact hr r (by simp)
      obtain⟨k,hk,e⟩:=Nu.1 hmem;have hkr:k<rows.length:=by rw[h.len];exact hk
      obtain⟨a,ha⟩:=hI.makes rows[k] (MS hkr);rw[Cn.l9 _ (qU (q:Int) T) List.nodup_range];refine⟨a,λ_=>0,λ_ _=>⟨0,by simp⟩,λs hs=>?_⟩;have hj:=List.idxOf_lt_length_of_mem hs;obtain⟨x,hx⟩:=ha _ hj;obtain⟨y,hy⟩:=h.at_ k hk _ hj;rw[List.getElem_idxOf hj,e] at hy;have e3:Uf rows k (T.idxOf s)=rows[k].getD (T.idxOf s) 0:=by unfold Uf;rw[MV (l:=rows),MW hkr];rfl
      rw[tZ];rw[e3] at hy;refine⟨x-y,?_⟩;rw[Int.mul_sub];simp only[Prod.eta] at hy hx⊢;omega
     refine hS.con (λs hs=>⟨0,?_⟩) (hS.add (hS.mul r.1 h1) (ih λy hy=>hr y (by simp[hy])));rw[EO];simp
   rw[<-Cn.l9 _ (qU (q:Int) T) List.nodup_range];exact hS.con r2 (key rp r1)
 .intro k hk;have hm:fs.getD k (0,[])∈fs:=by rw[MV,MW hk];exact MS hk
  have hc:=(hI.piv _ hm).1;rw[MV (l:=T),MW hc];exact MS hc
 .intro k hk;have hm:fs.getD k (0,[])∈fs:=by rw[MV,MW hk];exact MS hk
  have hc:=(hI.piv _ hm).1;rw[MV (l:=T),MW hc,Option.getD_some,zj hT hc];exact yF fs k hI.stair hk
 .intro j k hjk hk;have hm:fs.getD j (0,[])∈fs:=by rw[MV,MW (by omega)];exact MS _
  have hc:=(hI.piv _ hm).1;rw[MV (l:=T),MW hc,Option.getD_some,zj hT hc];exact yG fs j k hI.stair hjk hk
theorem EQ{q:Nat}(hq2:2<=q)(hq:q<=101)(hqr:dQ q q=true){dg:Nat->Int}{N R:Nat}(hx:aR q dg N R){vs:List (List Ft)}{ms:List Mm}{E:Nat->Nat->Prop}{D:Int}(h:Cp q dg N R vs ms [] E D)(hE:dT q dg R ms E){t:Nat}{T:List Gb.Te}(hT:∀s,s∈T↔s.1<R/\aN dg R s=t/\nT N s)(hnd:T.Nodup){idx:List (Nat×Gb.Mo)}{rows:List (List Int)}(hw:t8 (az q dg R vs) N vs.length t T idx rows)(hr:∀r∈rows,df q T.length r)(P:Gb.Te->Bool)(hP:∀s,P s=true↔¬∃x∈ms,Gb.a8.dv (ah R x.L) s):(T.filter P).length+(gJ q rows).length=T.length:=by
 have h1:Cn.bT (λs=>s∈T/\∃x∈ms,Gb.a8.dv (ah R x.L) s) (gJ q rows).length:=(EP hq2 hq hqr hnd hw hr).congr λs=>h.leads hx hE hT s;have h2:Cn.bT (λs=>s∈T/\∃x∈ms,Gb.a8.dv (ah R x.L) s) (T.filter λs=>!P s).length:=⟨_,hnd.filter _,λs=>by
  rw[Nh,Bool.not_eq_true',<-Bool.not_eq_true,hP,Classical.not_not],rfl⟩
 rw[h1.uniq h2];exact zi P T
end Go.Proofs.YteimdcndjjclnaaGreat
namespace Go.Proofs.YteimdcndjjclnaaGreat
set_option linter.all false
open Go.Proofs.Tryz Go.RowKit
def ip(dg:Nat->Int)(N:Nat)(q:Pq)(pl:Int):Ft:=⟨lD dg pl (aH N ⟨0,q.a,q.b,q.d,0,pl,1⟩),q.a,q.b,q.d,0,pl,1⟩
theorem dZ.gdG{dg:Nat->Int}{N R:Nat}{D1 D2:Int}{x y:Ft}{q:Pq}(h:dZ x y q)(gx:aO dg N R D1 x)(gy:aO dg N R D2 y):aO dg N R (q.a+q.b+q.d+dg x.pl.toNat) (ip dg N q x.pl):=by
 have h1:=h.a;have h2:=h.b;have h3:=h.d;unfold dL at h1;unfold dM at h2;unfold dN at h3;have x1:=gx.a;have x2:=gx.b;have x3:=gx.d;have y1:=gy.a;have y2:=gy.b;have y3:=gy.d;refine⟨rfl,?_,?_,?_,rfl,rfl,gx.pl0,gx.pl,λh=>?_,λh=>?_⟩
 .show 0<=q.a;omega
 .show 0<=q.b;omega
 .show 0<=q.d;omega
 .show q.b=0;have:=gx.n1 h;have:=gy.n1 h;omega
 .show q.d=0;have:=gx.n2 h;have:=gy.n2 h;omega
theorem dZ.btbG{p:Int}{dg:Nat->Int}{N R:Nat}(hx:aR p dg N R){D1 D2:Int}{x y:Ft}{q:Pq}(h:dZ x y q)(gx:aO dg N R D1 x)(gy:aO dg N R D2 y)(h1:D1<=901)(h2:D2<=901):nC q x/\nC q y/\q.a+q.b+q.d<=2703:=by have h1:=h.a;have h2:=h.b;have h3:=h.d;have h4:=h.z;unfold dL at h1;unfold dM at h2;unfold dN at h3;unfold dO at h4;have x1:=gx.a;have x2:=gx.b;have x3:=gx.d;have x4:=gx.bd hx;have x5:=gx.z;have y1:=gy.a;have y2:=gy.b;have y3:=gy.d;have y4:=gy.bd hx;have y5:=gy.z;exact⟨⟨by omega,by omega,by omega,by omega⟩,⟨by omega,by omega,by omega,by omega⟩,by omega⟩
theorem dZ.byxG{p:Int}{dg:Nat->Int}{N R:Nat}(hx:aR p dg N R){D1 D2:Int}{x y:Ft}{q:Pq}{c:Int}(h:dZ x y q)(gx:aO dg N R D1 x)(gy:aO dg N R D2 y)(h1:D1<=901)(h2:D2<=901):jB N (ip dg N q x.pl) x (bu q x c)/\jB N (ip dg N q x.pl) y (bu q y c):=by
 obtain⟨b1,b2,_⟩:=h.btbG hx gx gy h1 h2;have hz:q.z=0:=by have h4:=h.z;unfold dO at h4;have:=gx.z;have:=gy.z;omega
 have x5:=gx.z;have y5:=gy.z;have gP:=h.gdG gx gy;constructor
 .refine qV gP gx ?_ rfl rfl rfl (by show q.z-x.z=0-x.z;omega);have h1:=b1.a;have h2:=b1.b;have h3:=b1.d;unfold eG gm ip;simp only[Bool.and_eq_true,decide_eq_true_eq];exact⟨trivial,⟨⟨by omega,by omega⟩,by omega⟩,by omega⟩
 .refine qV gP gy ?_ rfl rfl rfl (by show q.z-y.z=0-y.z;omega);have h1:=b2.a;have h2:=b2.b;have h3:=b2.d;unfold eG gm ip;simp only[Bool.and_eq_true,decide_eq_true_eq];exact⟨h.pl.symm,⟨⟨by omega,by omega⟩,by omega⟩,by omega⟩
theorem ER{dg:Nat->Int}{N R:Nat}{x y:Ft}{q:Pq}(h:dZ x y q)(lx:dY R x)(ly:dY R y):ah R (ip dg N q x.pl)=Gb.a8.lc (ah R x) (ah R y):=by rw[h.lc lx ly];rfl
structure PL{p:Int}{dg:Nat->Int}{R:Nat}(G:Gb.aZ (Gb.aF (dR dg R)) p)(N:Nat)(D:Int)(A:Gb.Te->Prop)(X:Gb.Fn Gb.Te)(K:Int)(ms:List Mm)(acc:List Ft):Prop where
 vc:dh p dg N R D acc
 no:∀t∈acc,iz ms t=none
 lt:∀t∈acc,t.k<K
 vb:Gb.Vb G (λs=>A s/\aN dg R s=D.toNat) λφ=>X φ-aJ R φ acc
theorem Cp.to_vs{p:Int}{dg:Nat->Int}{N R:Nat}(hx:aR p dg N R){vs:List (List Ft)}{ms:List Mm}{qs:List Pq}{E:Nat->Nat->Prop}{T:Int}(h:Cp p dg N R vs ms qs E T){D:Nat}{X:Gb.Fn Gb.Te}(hv:Gb.Vb (az p dg R (fm ms)) (λs=>aN dg R s=D) X):Gb.Vb (az p dg R vs) (λs=>aN dg R s=D) X:=by
 refine qP (λi hi=>?_) hv;have hi:=jW hi;rw[jb] at hi;obtain⟨D2,_,_,h3⟩:=h.mb ms[i] (MS hi);have h4:=h.mx ms[i] (MS hi) D2 h3;have e1:(az p dg R (fm ms)).ld i=ah R ms[i].L:=by rw[io,cB hi]
 have e2:(az p dg R (fm ms)).g i=dp R (ms[i].L::ms[i].r):=by show dp R _=_;rw[dJ (nv hi)]
 rw[e1,e2,((h3.gd _ (by simp)).ts hx).1];exact h4
theorem zk{p:Int}{dg:Nat->Int}{R:Nat}{G:Gb.aZ (Gb.aF (dR dg R)) p}{i:Nat}{a:Gb.Mo}(hi:G.live i){D:Nat}(hD:aN dg R (Gb.aC a (G.ld i))=D):Gb.Vb G (λs=>aN dg R s=D) (Gb.Hm G i a):=
 ⟨[(G.iv i,a,i)],λr hr=>by rw[MZ] at hr;rw[hr];exact⟨hi,hD⟩,λφ=>⟨0,by unfold Gb.Hm;simp only[Gb.ev];omega⟩⟩
theorem zl{p:Int}{dg:Nat->Int}{N R:Nat}(hx:aR p dg N R){D:Int}{t:Ft}{ts:List Ft}(hv:dh p dg N R D (t::ts))(φ:Gb.Te->Int):p∣aJ R φ (t::ts)-t.c*aJ R φ (dK p (aM p t.c) t::ts.map (dK p (aM p t.c))):=by
 obtain⟨z,hz⟩:=qR (p:=p) (i:=aM p t.c) (R:=R) φ (t::ts);obtain⟨y,hy⟩:=qO hx.pr (hv.co t (by simp));rw[List.map_cons] at hz;generalize aJ R φ (dK p (aM p t.c) t::ts.map (dK p (aM p t.c)))=A at*;generalize aJ R φ (t::ts)=B at*;generalize aM p t.c=i at*;have e:A=i*B+p*z:=by omega
 have e2:t.c*i=1+p*y:=by omega
 refine⟨-(y*B)-t.c*z,?_⟩;rw[e];have e3:t.c*(i*B+p*z)=(t.c*i)*B+t.c*(p*z):=by grind
 rw[e3,e2];grind
theorem zm{p:Int}{dg:Nat->Int}{N R:Nat}(hx:aR p dg N R){D:Int}(hD:D<=16000){ms:List Mm}{f:Mm}(hf:ja p dg N R D f.L f.r){A:Gb.Te->Prop}(hA:A (ah R f.L))(c:Int):Gb.Vb (az p dg R (fm (ms++[f]))) (λs=>A s/\aN dg R s=D.toNat) λφ=>c*aJ R φ (f.L::f.r):=by
 have hl:(fm (ms++[f]))[ms.length]?=some (f.L::f.r):=by rw[pd,Nl (by rw[jb];exact MI _),jb];simp
 have hlive:=o7 hx hD hl hf.vch;have eld:(az p dg R (fm (ms++[f]))).ld ms.length=ah R f.L:=by show il R _=_;rw[dJ hl];rfl
 have eg:(az p dg R (fm (ms++[f]))).g ms.length=dp R (f.L::f.r):=by show dp R _=_;rw[dJ hl]
 have ez:∀s:Gb.Te,Gb.aC (0,0,0) s=s:=λs=>rfl;refine⟨[(c,(0,0,0),ms.length)],λr hr=>?_,λφ=>⟨0,?_⟩⟩
 .rw[MZ] at hr;rw[hr];refine⟨hlive,?_⟩;show A (Gb.aC (0,0,0) _)/\aN dg R (Gb.aC (0,0,0) _)=_;rw[ez,eld];exact⟨hA,((hf.gd f.L (by simp)).ts hx).1⟩
 .simp only[Gb.ev];rw[eg];have e:Gb.ln (λt=>φ ((Gb.aF (dR dg R)).act (0,0,0) t)) (dp R (f.L::f.r))=aJ R φ (f.L::f.r):=rfl;rw[e];omega
theorem ES{p:Int}{dg:Nat->Int}{N R:Nat}{ms:List Mm}{E:Nat->Nat->Prop}(hE:dT p dg R ms E){i j:Nat}(hi:i<ms.length)(hj:j<ms.length){D K:Int}{P:Ft}{a b:Gb.Mo}(e1:Gb.aC a (ct R ms i)=ah R P)(e2:Gb.aC b (ct R ms j)=ah R P)(e3:ah R P=Gb.a8.lc (ct R ms i) (ct R ms j))(hl:PL (az p dg R (fm ms)) N D (λs=>(Gb.aF (dR dg R)).lt s (ah R P)) (λφ=>Gb.Hm (az p dg R (fm ms)) i a φ-Gb.Hm (az p dg R (fm ms)) j b φ) K ms []):dT p dg R ms (λx y=>E x y\/(x=i/\y=j)):=by
 rintro x y (h|⟨rfl,rfl⟩)
 .exact hE x y h
 .refine⟨hi,hj,a,b,by rw[e1,e3],by rw[e2,e3],?_⟩;unfold Gb.Rl;have e4:(Gb.aF (dR dg R)).act a ((az p dg R (fm ms)).ld x)=ah R P:=by rw[io];exact e1
  rw[e4];exact(hl.vb.mono λs hs=>hs.1).congr λφ=>⟨0,by rw[lA];omega⟩
theorem ET{p:Int}{dg:Nat->Int}{N R:Nat}(hx:aR p dg N R){vs:List (List Ft)}{ms:List Mm}{qs qs2 srt:List Pq}{E:Nat->Nat->Prop}{T D k0 k1 k2:Int}(h:Cp p dg N R vs ms qs E T)(hE:dT p dg R ms E)(hq:∀q∈qs,D<=q.dg){i j:Nat}(hi:i<ms.length)(hj:j<ms.length)(h2:Cp p dg N R vs ms qs2 (λx y=>E x y\/(x=i/\y=j)) D){P:Ft}(hD:D<=16000)(gP:aO dg N R D P){a b:Gb.Mo}(e1:Gb.aC a (ct R ms i)=ah R P)(e2:Gb.aC b (ct R ms j)=ah R P)(e3:ah R P=Gb.a8.lc (ct R ms i) (ct R ms j)){t:Ft}{ts:List Ft}(hl:PL (az p dg R (fm ms)) N D (λs=>(Gb.aF (dR dg R)).lt s (ah R P)) (λφ=>Gb.Hm (az p dg R (fm ms)) i a φ-Gb.Hm (az p dg R (fm ms)) j b φ) P.k ms (t::ts)){f:Mm}(f1:f.L=dK p (aM p t.c) t)(f2:f.r=ts.map (dK p (aM p t.c)))(hg:f.gone=false)(hne:∀x∈ms,x.blk≠f.blk)(hs:srt.Perm ((iA ms f.L.pl.toNat).map λx=>dq k0 k1 k2 dg x f)):ms.map (bB f.L)=ms/\Cp p dg N R vs (ms++[f]) (qs2.filter (λq=>!eP ms f.L q)++bp [] srt) (λx y=>E x y\/(x=i/\y=j)) D/\dT p dg R (ms++[f]) (λx y=>E x y\/(x=i/\y=j)):=by
 have hlive:=(qQ hx (by omega) h.msh).live;have li:=hlive i (by rw[jb];exact hi);have lj:=hlive j (by rw[jb];exact hj);have hP:=(gP.ts hx).1;have d1:aN dg R (Gb.aC a ((az p dg R (fm ms)).ld i))=D.toNat:=by rw[io,e1,hP]
 have d2:aN dg R (Gb.aC b ((az p dg R (fm ms)).ld j))=D.toNat:=by rw[io,e2,hP]
 have hm:Gb.Vb (az p dg R (fm ms)) (λs=>aN dg R s=D.toNat) λφ=>aJ R φ (t::ts):=
  (Gb.Vb.add (Gb.Vb.add (zk li d1) (Gb.Vb.scl (-1) (zk lj d2))) (Gb.Vb.scl (-1) (hl.vb.mono λs hs=>hs.2))).congr λφ=>⟨0,by omega⟩
 have hsm:=h.small hx hE hD hq hl.vc hm (hl.no t (by simp));have hmb:=yU hx hl.vc;have hf:ja p dg N R D f.L f.r:=by rw[f1,f2];exact hmb
 have lt:=(hl.vc.gd t (by simp)).ldb;have ete:ah R f.L=ah R t:=by rw[f1];rfl
 have hno:∀x∈ms,¬Gb.a8.dv (ah R x.L) (ah R f.L):=λx hxm=>by rw[ete];exact h.no_dv lt (hl.no t (by simp)) x hxm
 have hmx:Gb.Vb (az p dg R (vs++[])) (λs=>aN dg R s=D.toNat) λφ=>aJ R φ (f.L::f.r):=by rw[List.append_nil];refine(Gb.Vb.scl (aM p t.c) (h.to_vs hx hm)).congr λφ=>?_;have:=qR (p:=p) (i:=aM p t.c) (R:=R) φ (t::ts);rw[f1,f2];exact this
 obtain⟨hgo,hcp⟩:=h2.add hx (us:=[]) hsm hf hg hne hs hno (λv hv=>by simp at hv) hmx (λv hv=>by simp at hv);rw[List.append_nil] at hcp;refine⟨hgo,hcp,?_⟩;rintro x y (h3|⟨rfl,rfl⟩)
 .exact dT.ext hx h hE f x y h3
 .have e:∀k,k<ms.length->ct R (ms++[f]) k=ct R ms k:=λk hk=>by rw[cB hk,cB (by simp;omega),List.getElem_append_left hk]
  refine⟨by simp;omega,by simp;omega,a,b,by rw[e x hi,e y hj,e1,e3],by rw[e x hi,e y hj,e2,e3],?_⟩;have hex:=mp p dg R (fm ms) [f.L::f.r];rw[<-pd] at hex;unfold Gb.Rl;have e4:(Gb.aF (dR dg R)).act a ((az p dg R (fm (ms++[f]))).ld x)=ah R P:=by rw[io,e x hi];exact e1
  rw[e4];have hA:(Gb.aF (dR dg R)).lt (ah R f.L) (ah R P):=by rw[ete];exact ns hx hD (hl.vc.gd t (by simp)) gP (hl.lt t (by simp))
  refine((Gb.Vb.add (mr hex hl.vb) (zm hx hD hf (A:=λs=>(Gb.aF (dR dg R)).lt s (ah R P)) hA t.c)).mono λs hs=>hs.1).congr λφ=>?_;obtain⟨z,hz⟩:=zl hx hl.vc φ;rw[<-f1,<-f2] at hz;refine⟨z,?_⟩;have q1:Gb.Hm (az p dg R (fm (ms++[f]))) x a φ=Gb.Hm (az p dg R (fm ms)) x a φ:=by unfold Gb.Hm;rw[hex.g _ li,hex.iv _ li]
  have q2:Gb.Hm (az p dg R (fm (ms++[f]))) y b φ=Gb.Hm (az p dg R (fm ms)) y b φ:=by unfold Gb.Hm;rw[hex.g _ lj,hex.iv _ lj]
  rw[q1,q2];omega
theorem EU{p:Int}{dg:Nat->Int}{N R:Nat}{vs:List (List Ft)}{ms:List Mm}{qs:List Pq}{E:Nat->Nat->Prop}{T D K:Int}{v:List Ft}(h:Cp p dg N R vs ms qs E T)(hD:D<=9)(hv:dh p dg N R D v)(hne:v≠[])(hl:PL (az p dg R (fm ms)) N D (λ_=>True) (λφ=>aJ R φ v) K ms []):Cp p dg N R (vs++[v]) ms qs E T:=
 h.putv hD hv hne ((hl.vb.mono λs hs=>hs.2).congr λφ=>⟨0,by rw[lA];omega⟩)
theorem EV{p:Int}{dg:Nat->Int}{N R:Nat}(hx:aR p dg N R){vs:List (List Ft)}{ms:List Mm}{qs srt:List Pq}{E:Nat->Nat->Prop}{D K k0 k1 k2:Int}{v:List Ft}(h:Cp p dg N R vs ms qs E D)(hE:dT p dg R ms E)(hD:D<=9)(hv:dh p dg N R D v)(hnv:v≠[]){t:Ft}{ts:List Ft}(hl:PL (az p dg R (fm ms)) N D (λ_=>True) (λφ=>aJ R φ v) K ms (t::ts)){f:Mm}(f1:f.L=dK p (aM p t.c) t)(f2:f.r=ts.map (dK p (aM p t.c)))(hg:f.gone=false)(hne:∀x∈ms,x.blk≠f.blk)(hs:srt.Perm ((iA ms f.L.pl.toNat).map λx=>dq k0 k1 k2 dg x f)):ms.map (bB f.L)=ms/\Cp p dg N R (vs++[v]) (ms++[f]) (qs.filter (λq=>!eP ms f.L q)++bp [] srt) E D/\dT p dg R (ms++[f]) E:=by
 have hmb:=yU hx hl.vc;have hf:ja p dg N R D f.L f.r:=by rw[f1,f2];exact hmb
 have lt:=(hl.vc.gd t (by simp)).ldb;have ete:ah R f.L=ah R t:=by rw[f1];rfl
 have hno:∀x∈ms,¬Gb.a8.dv (ah R x.L) (ah R f.L):=λx hxm=>by rw[ete];exact h.no_dv lt (hl.no t (by simp)) x hxm
 have hlv:(vs++[v])[vs.length]?=some v:=by simp
 have hvv:Gb.Vb (az p dg R (vs++[v])) (λs=>aN dg R s=D.toNat) λφ=>aJ R φ v:=by
  cases v with
  |nil=>exact absurd rfl hnv
  |cons u us=>
   have hlive:=o7 hx (by omega) hlv hv;have eld:(az p dg R (vs++[u::us])).ld vs.length=ah R u:=by show il R _=_;rw[dJ hlv];rfl
   have eg:(az p dg R (vs++[u::us])).g vs.length=dp R (u::us):=by show dp R _=_;rw[dJ hlv]
   refine⟨[(1,(0,0,0),vs.length)],λr hr=>?_,λφ=>⟨0,?_⟩⟩
   .rw[MZ] at hr;rw[hr];refine⟨hlive,?_⟩;show aN dg R (Gb.aC (0,0,0) _)=_;have ez:∀s:Gb.Te,Gb.aC (0,0,0) s=s:=λs=>rfl;rw[ez,eld];exact((hv.gd u (by simp)).ts hx).1
   .simp only[Gb.ev];rw[eg];have e:Gb.ln (λt=>φ ((Gb.aF (dR dg R)).act (0,0,0) t)) (dp R (u::us))=aJ R φ (u::us):=rfl;rw[e];omega
 have hmx:Gb.Vb (az p dg R (vs++[v])) (λs=>aN dg R s=D.toNat) λφ=>aJ R φ (f.L::f.r):=by
  have h1:=mr (mp p dg R vs [v]) (h.to_vs hx (hl.vb.mono λs hs=>hs.2));refine(Gb.Vb.scl (aM p t.c) (Gb.Vb.add hvv (Gb.Vb.scl (-1) h1))).congr λφ=>?_;obtain⟨z,hz⟩:=qR (p:=p) (i:=aM p t.c) (R:=R) φ (t::ts);rw[f1,f2];refine⟨z,?_⟩;rw[<-hz,List.map_cons];have e:aJ R φ v+-1*(aJ R φ v-aJ R φ (t::ts))=aJ R φ (t::ts):=by omega
  rw[e]
 have hex:=mp p dg R (fm ms) [f.L::f.r];rw[<-pd] at hex;obtain⟨hgo,hcp⟩:=h.add hx (us:=[v]) (by omega) hf hg hne hs hno (λu hu=>by rw[MZ] at hu;subst hu;exact⟨D,hD,hnv,hv⟩) hmx (λu hu D2 hD2=>by
  rw[MZ] at hu;subst hu;have e:D2=D:=by
   cases u with
   |nil=>exact absurd rfl hnv
   |cons a xs=>exact hD2.deg hv
  rw[e];refine((Gb.Vb.add (mr hex hl.vb) (zm hx (by omega) hf (A:=λ_=>True) trivial t.c)).mono λs hs=>hs.2).congr λφ=>?_;obtain⟨z,hz⟩:=zl hx hl.vc φ;rw[<-f1,<-f2] at hz;exact⟨z,by omega⟩)
 exact⟨hgo,hcp,dT.ext hx h hE f⟩
end Go.Proofs.YteimdcndjjclnaaGreat
