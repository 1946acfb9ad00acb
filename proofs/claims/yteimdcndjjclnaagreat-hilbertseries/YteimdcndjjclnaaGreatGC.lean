/- A completion by degrees: what holds from round to round (plain mathematics). -/
import Derived.Test.YteimdcndjjclnaaGreatKZ
set_option maxHeartbeats 1000000
namespace Go.Proofs.YteimdcndjjclnaaGreat
set_option linter.all false
open Go.Proofs.Tryz Go.RowKit
theorem xq{p:Int}(h:bm p=0):Cn.Pr p:=λc hc=>by obtain⟨h1,h2⟩:=fq h;have m1:=Int.emod_nonneg c (show p≠0 by omega);have m2:=Int.emod_lt_of_pos c (show 0<p by omega);have m3:c%p≠0:=λe=>hc (Int.dvd_of_emod_eq_zero e);obtain⟨k,hk⟩:=pO h (c:=c%p) ⟨by omega,m2⟩;have e:=Int.emod_add_mul_ediv c p;generalize c%p=x at*;generalize c/p=y at*;refine⟨aN p x,k+y*aN p x,?_⟩;rw[<-e];grind
theorem sG{p:Int}(h:bm p=0):¬p∣1:=λhd=>by have h1:=fq h;have:=Int.le_of_dvd (by omega) hd;omega
theorem pP{p:Int}{dg:Nat->Int}{R:Nat}{G0 G1:Gb.aV (Gb.aD (dR dg R)) p}(h:∀i,G1.live i->Gb.Vb G0 (λs=>aL dg R s=aL dg R (G1.ld i)) λφ=>Gb.ln φ (G1.g i)){D:Nat}{X:Gb.Fn Gb.Te}(hv:Gb.Vb G1 (λs=>aL dg R s=D) X):Gb.Vb G0 (λs=>aL dg R s=D) X:=by
 obtain⟨rp,h1,h2⟩:=hv;have key:∀rp:Gb.Rp Gb.Mo,(∀r∈rp,G1.live r.2.2/\aL dg R (Gb.aA r.2.1 (G1.ld r.2.2))=D)->Gb.Vb G0 (λs=>aL dg R s=D) λφ=>Gb.ev G1 φ rp:=by
  intro rp;induction rp with
  |nil=>exact λ_=>Gb.Vb.zero λφ=>⟨0,by simp[Gb.ev]⟩
  |cons r rp ih=>
   intro hr;have h3:=hr r (by simp);have h4:=Gb.Vb.scl r.1 (Gb.Vb.shift (B:=λs=>aL dg R s=D) r.2.1 (h r.2.2 h3.1) λt ht=>by
    have e:=h3.2;show aL dg R (Gb.aA r.2.1 t)=D;rw[jW,ht,<-jW];exact e)
   exact(Gb.Vb.add h4 (ih λx hx=>hr x (by simp[hx]))).congr λφ=>⟨0,by simp only[Gb.ev];omega⟩
 exact(key rp h1).congr h2
theorem jv{p:Int}{dg:Nat->Int}{R:Nat}{fss:List (List Ft)}{i:Nat}(h:(au p dg R fss).live i):i<fss.length:=by obtain⟨t,r,h1,_⟩:=h;exact(List.getElem?_eq_some_iff.1 h1).1
theorem xr{p:Int}{dg:Nat->Int}{R:Nat}{fss:List (List Ft)}{t:Nat}{X:Gb.Fn Gb.Te}(h:Gb.Vb (au p dg R fss) (λs=>aL dg R s=t) X):∃rp,Cn.Hr fss.length (λi=>aL dg R ((au p dg R fss).ld i)) t rp/\∀φ,p∣X φ-Gb.ev (au p dg R fss) φ rp:=by obtain⟨rp,h1,h2⟩:=h;refine⟨rp,λr hr=>⟨jv (h1 r hr).1,?_⟩,h2⟩;have e:aL dg R (Gb.aA r.2.1 ((au p dg R fss).ld r.2.2))=t:=(h1 r hr).2;rw[jW] at e;unfold Cn.aG;exact e
def iC(p:Int)(dg:Nat->Int)(N R:Nat)(Q:Int)(fss:List (List Ft)):Prop:=∀v∈fss,∃D,D<=Q/\v≠[]/\cP p dg N R D v
theorem iC.at{p:Int}{dg:Nat->Int}{N R:Nat}{Q:Int}{fss:List (List Ft)}(h:iC p dg N R Q fss){i:Nat}(hi:i<fss.length):∃D t r,D<=Q/\fss[i]?=some (t::r)/\cP p dg N R D (t::r):=by
 obtain⟨D,h1,h2,h3⟩:=h fss[i] (Lo hi);cases e:fss[i] with
 |nil=>exact absurd e h2
 |cons t r=>exact⟨D,t,r,h1,by rw[Ls hi,e],by rw[<-e];exact h3⟩
theorem pQ{p:Int}{dg:Nat->Int}{N R:Nat}(hx:aP p dg N R){Q:Int}(hQ:Q<=16000){fss:List (List Ft)}(h:iC p dg N R Q fss):Cn.Hg R (dR dg R) (au p dg R fss) fss.length (λi=>aL dg R ((au p dg R fss).ld i)):=by
 refine⟨λi hi x hxg=>?_,λi hi=>?_⟩
 .obtain⟨D,t,r,h1,h2,h3⟩:=h.at hi;have hg:(au p dg R fss).g i=cV R (t::r):=by show cV R _=_;rw[dw h2]
  have hl:(au p dg R fss).ld i=ag R t:=by show gF R _=_;rw[dw h2];rfl
  rw[hg] at hxg;obtain⟨u,hu,rfl⟩:=LC.1 hxg;have a:=(h3.gd u hu).ts hx;have b:=(h3.gd t (by simp)).ts hx;refine Cn.iA.2 ⟨a.2,?_⟩;show aL dg R (ag R u)=aL dg R ((au p dg R fss).ld i);rw[hl,a.1,b.1]
 .obtain⟨D,t,r,h1,h2,h3⟩:=h.at hi;exact oe hx (by omega) h2 h3
theorem pR{p i:Int}{R:Nat}(φ:Gb.Te->Int):∀fs:List Ft,p∣aF R φ (fs.map (dz p i))-i*aF R φ fs
 |[]=>⟨0,by simp[kH]⟩
 |t::fs=>by
  obtain⟨x,hx⟩:=pR (p:=p) (i:=i) (R:=R) φ fs;rw[List.map_cons,gG,gG];obtain⟨y,hy⟩:=jx p (t.c*i);show p∣(t.c*i%p)*φ (ag R t)+_-_;generalize φ (ag R t)=z at*;generalize t.c*i%p=q at*;have e2:q=t.c*i+p*y:=by omega
  exact⟨y*z+x,by rw[e2];grind⟩
theorem xt{p:Int}{dg:Nat->Int}{N R:Nat}(hx:aP p dg N R){D:Int}{t:Ft}{ts:List Ft}(hv:cP p dg N R D (t::ts)):iD p dg N R D (dz p (aN p t.c) t) (ts.map (dz p (aN p t.c))):=by
 have hi:=mu hx.pr (hv.co t (by simp));have e:dz p (aN p t.c) t::ts.map (dz p (aN p t.c))=(t::ts).map (dz p (aN p t.c)):=rfl;refine⟨hi.2.2,?_,λu hu=>?_,λu hu=>?_⟩
 .rw[e];unfold Dn;rw[List.pairwise_map];exact hv.dn
 .rw[e] at hu;obtain⟨v,hvm,rfl⟩:=LC.1 hu;have h1:=hv.co v hvm;have:=sH hx.pr (show 1<=v.c by omega) h1.2 hi.1 hi.2.1;simp only[dz];omega
 .rw[e] at hu;obtain⟨v,hvm,rfl⟩:=LC.1 hu;exact aM.alk _ v ⟨rfl,rfl,rfl,rfl,rfl,rfl⟩ (hv.gd v hvm)
theorem Dq{p:Int}{dg:Nat->Int}{N R:Nat}(hx:aP p dg N R){D:Int}(hD:D<=16000){t:Ft}{ts:List Ft}(hv:cP p dg N R D (t::ts)):aF R (Gb.dl (ag R t)) (t::ts)=t.c/\∀s,(Gb.aD (dR dg R)).lt (ag R t) s->aF R (Gb.dl s) (t::ts)=0:=by
 have low:∀u∈ts,(Gb.aD (dR dg R)).lt (ag R u) (ag R t):=λu hu=>mw hx hD (hv.gd u (by simp[hu])) (hv.gd t (by simp)) (hv.dn.head u hu);refine⟨?_,λs hs=>?_⟩
 .rw[gG];have e1:aF R (Gb.dl (ag R t)) ts=0:=Gb.iY λx hx2=>by obtain⟨u,hu,rfl⟩:=LC.1 hx2;unfold Gb.dl;rw[LH];intro e;have:=low u hu;simp only at e;rw[e] at this;exact(Gb.aD (dR dg R)).irr _ this
  have e2:Gb.dl (ag R t) (ag R t)=1:=by unfold Gb.dl;rw[LI rfl]
  rw[e1,e2];omega
 .refine Gb.iY λx hx2=>?_;obtain⟨u,hu,rfl⟩:=LC.1 hx2;unfold Gb.dl;rw[LH];intro e;simp only at e;rcases LL.1 hu with rfl|hu
  .rw[e] at hs;exact(Gb.aD (dR dg R)).irr _ hs
  .have:=(Gb.aD (dR dg R)).trans (low u hu) hs;rw[e] at this;exact(Gb.aD (dR dg R)).irr _ this
def fm(ms:List Mm):List (List Ft):=ms.map λx=>x.L::x.r
theorem iE(ms:List Mm):(fm ms).length=ms.length:=by simp[fm]
theorem mz{ms:List Mm}{i:Nat}(h:i<ms.length):(fm ms)[i]?=some (ms[i].L::ms[i].r):=by unfold fm;rw[List.getElem?_map,Ls h];rfl
theorem gH(p:Int)(dg:Nat->Int)(R:Nat)(ms:List Mm)(i:Nat):(au p dg R (fm ms)).ld i=bZ R ms i:=by
 show gF R ((fm ms).getD i [])=_;by_cases h:i<ms.length
 .rw[dw (mz h),ce h];rfl
 .rw[Lr,Lu (by rw[iE];omega)];unfold bZ;rw[Lu (by omega)];rfl
theorem aM.ldb{dg:Nat->Int}{N R:Nat}{D:Int}{t:Ft}(g:aM dg N R D t):dL R t:=⟨g.a,g.b,g.d,g.z,g.pl0,g.pl⟩
structure Cp(p:Int)(dg:Nat->Int)(N R:Nat)(vs:List (List Ft))(ms:List Mm)(qs:List Pq)(E:Nat->Nat->Prop)(T:Int):Prop where
 inv:Gb.fF Gb.aW (bZ R ms) ms.length (λi j=>kI ms qs i j\/E i j) (mA ms)
 nd:(ms.map Mm.blk).Nodup
 pr:∀q∈qs,∃x y,x∈ms/\y∈ms/\q.b1=x.blk/\q.b2=y.blk/\dM x.L y.L q/\q.dg=q.a+q.b+q.d+dg x.L.pl.toNat/\T<=q.dg
 mb:∀x∈ms,∃D,D<=T/\D<=901/\iD p dg N R D x.L x.r
 ng:∀x∈ms,x.gone=false
 anti:ms.Pairwise λx y=>¬Gb.aW.dv (ag R x.L) (ag R y.L)/\¬Gb.aW.dv (ag R y.L) (ag R x.L)
 vb:iC p dg N R 9 vs
 mx:∀x∈ms,∀D,iD p dg N R D x.L x.r->Gb.Vb (au p dg R vs) (λs=>aL dg R s=D.toNat) λφ=>aF R φ (x.L::x.r)
 my:∀v∈vs,∀D,cP p dg N R D v->Gb.Vb (au p dg R (fm ms)) (λs=>aL dg R s=D.toNat) λφ=>aF R φ v
 ql:qs.length<=407253*ms.length
def dF(p:Int)(dg:Nat->Int)(R:Nat)(ms:List Mm)(E:Nat->Nat->Prop):Prop:=∀i j,E i j->i<ms.length/\j<ms.length/\∃a b,Gb.aA a (bZ R ms i)=Gb.aW.lc (bZ R ms i) (bZ R ms j)/\Gb.aA b (bZ R ms j)=Gb.aW.lc (bZ R ms i) (bZ R ms j)/\Gb.Rl (au p dg R (fm ms)) i a j b
theorem Cp.nil(p:Int)(dg:Nat->Int)(N R:Nat):Cp p dg N R [] [] [] (λ_ _=>False) 0:=
 ⟨⟨λt i j hi=>by simp at hi,λx hx=>by simp at hx,λi j h=>(h:kI [] [] i j\/False).elim (fun⟨hi,_⟩=>by simp at hi) False.elim⟩,by simp,λq hq=>by simp at hq,λx hx=>by simp at hx,λx hx=>by simp at hx,by simp,λv hv=>by simp at hv,λx hx=>by simp at hx,λv hv=>by simp at hv,by simp⟩
theorem dF.nil(p:Int)(dg:Nat->Int)(R:Nat):dF p dg R [] (λ_ _=>False):=λ_ _ h=>h.elim
theorem Cp.msh{p:Int}{dg:Nat->Int}{N R:Nat}{vs:List (List Ft)}{ms:List Mm}{qs:List Pq}{E:Nat->Nat->Prop}{T:Int}(h:Cp p dg N R vs ms qs E T):iC p dg N R 901 (fm ms):=λv hv=>by obtain⟨x,hx,rfl⟩:=LC.1 hv;obtain⟨D,_,h2,h3⟩:=h.mb x hx;exact⟨D,h2,by simp,h3.vch⟩
theorem Cp.msk{p:Int}{dg:Nat->Int}{N R:Nat}(hx:aP p dg N R){vs:List (List Ft)}{ms:List Mm}{qs:List Pq}{E:Nat->Nat->Prop}{T:Int}(h:Cp p dg N R vs ms qs E T):sI (au p dg R (fm ms)) N ms:=λx hxm=>by obtain⟨i,hi,e⟩:=L8.1 hxm;obtain⟨D,_,h2,h3⟩:=h.mb x hxm;have hf:=mz hi;rw[e] at hf;exact⟨i,D,by omega,sJ hx (by omega) hf h3⟩
theorem Dr{p:Int}{dg:Nat->Int}{N R:Nat}(hx:aP p dg N R){x y:Ft}{q:Pq}(h:dM x y q)(lx:dL R x)(ly:dL R y):aL dg R (Gb.aW.lc (ag R x) (ag R y))=(q.a+q.b+q.d+dg x.pl.toNat).toNat:=by
 obtain⟨n1,n2,n3,_⟩:=h.nn lx ly;rw[h.lc lx ly];have h1:=lx.pl;have g1:=hx.dg x.pl.toNat (by omega);have e1:dR dg R (R-1-x.pl.toNat)=(dg x.pl.toNat).toNat:=by unfold dR;rw[show R-1-(R-1-x.pl.toNat)=x.pl.toNat by omega]
 unfold aL Gb.bK;simp only;rw[e1];omega
theorem Cp.allA{p:Int}{dg:Nat->Int}{N R:Nat}(hx:aP p dg N R){vs:List (List Ft)}{ms:List Mm}{qs:List Pq}{E:Nat->Nat->Prop}{T:Int}(h:Cp p dg N R vs ms qs E T)(hE:dF p dg R ms E)(P:Gb.Te->Prop)(hP:∀{s t:Gb.Te},Gb.aW.dv s t->P t->P s)(hq:∀q∈qs,∀s,P s->aL dg R s<q.dg.toNat):Gb.nX (au p dg R (fm ms)) P:=by
 refine Gb.CF (Gb.CH _) (D:=Gb.aW) (Gb.pA _) (P:=λi j=>kI ms qs i j\/E i j) (λt i j hi hj d1 d2=>?_) (A:=P) hP (λi j t hp d1 d2 hA=>?_)
 .have hi:=jv hi;have hj:=jv hj;rw[iE] at hi hj;rw[gH] at d1 d2;refine(h.inv.con t i j hi hj d1 d2).mono λa b e=>?_;obtain⟨e1,e2,e3,e4⟩:=e;exact⟨e1,by rw[gH];exact e2,by rw[gH];exact e3,by rw[gH,gH];exact e4⟩
 .rw[gH,gH] at hA⊢;rcases hp with ⟨hi,hj,q,hqm,e1,e2⟩|hp
  .exfalso;obtain⟨x,y,x1,y1,f1,f2,f3,f4,f5⟩:=h.pr q hqm;have ex:x=ms[i]:=jX h.nd x1 (Lo hi) (f1.symm.trans e1);have ey:y=ms[j]:=jX h.nd y1 (Lo hj) (f2.symm.trans e2);subst ex ey;obtain⟨Dx,_,_,mx⟩:=h.mb _ x1;obtain⟨Dy,_,_,my⟩:=h.mb _ y1;have:=hq q hqm _ hA;rw[ce hi,ce hj,Dr hx f3 (mx.gd _ (by simp)).ldb (my.gd _ (by simp)).ldb,<-f4] at this;omega
  .obtain⟨_,_,a,b,h1,h2,h3⟩:=hE i j hp;exact⟨a,b,h1,h2,h3⟩
theorem Cp.no_dv{p:Int}{dg:Nat->Int}{N R:Nat}{vs:List (List Ft)}{ms:List Mm}{qs:List Pq}{E:Nat->Nat->Prop}{T:Int}(h:Cp p dg N R vs ms qs E T){t:Ft}(ht:dL R t)(hf:gO ms t=none):∀x∈ms,¬Gb.aW.dv (ag R x.L) (ag R t):=λx hx hd=>by
 obtain⟨D,_,_,h3⟩:=h.mb x hx;have hl:=(h3.gd x.L (by simp)).ldb;have h1:=(xv hl ht).2 hd;have h2:=List.find?_eq_none.1 hf x (LR.2 ⟨hx,by
  have:=(xw h1).1;have:=ht.pl;simp only[decide_eq_true_eq];omega⟩)
 apply h2;unfold fH;rw[h.ng x hx,h1];rfl
theorem Cp.small{p:Int}{dg:Nat->Int}{N R:Nat}(hx:aP p dg N R){vs:List (List Ft)}{ms:List Mm}{qs:List Pq}{E:Nat->Nat->Prop}{T:Int}(h:Cp p dg N R vs ms qs E T)(hE:dF p dg R ms E){D:Int}(hD:D<=16000)(hq:∀q∈qs,D<=q.dg){t:Ft}{ts:List Ft}(hv:cP p dg N R D (t::ts))(hm:Gb.Vb (au p dg R (fm ms)) (λs=>aL dg R s=D.toNat) λφ=>aF R φ (t::ts))(hf:gO ms t=none):D<=901:=by
 have gt:=hv.gd t (by simp);have hts:=gt.ts hx;have hA:=h.allA hx hE (λu=>aL dg R u<D.toNat) (fun {s u} hd hs=>by
  have:=Gb.CJ (d:=dR dg R) hd;unfold aL at hs⊢;omega) (λq hqm s hs=>by have:=hq q hqm;omega)
 have h0:=pQ hx (by omega) h.vb;have h1:=pQ hx (by omega) h.msh;have hmx:∀i,(au p dg R (fm ms)).live i->Gb.Vb (au p dg R vs) (λs=>aL dg R s=aL dg R ((au p dg R (fm ms)).ld i)) λφ=>Gb.ln φ ((au p dg R (fm ms)).g i):=λi hi=>by
  have hi:=jv hi;rw[iE] at hi;obtain⟨D2,_,_,h3⟩:=h.mb ms[i] (Lo hi);have h4:=h.mx ms[i] (Lo hi) D2 h3;have e1:(au p dg R (fm ms)).ld i=ag R ms[i].L:=by rw[gH,ce hi]
  have e2:(au p dg R (fm ms)).g i=cV R (ms[i].L::ms[i].r):=by show cV R _=_;rw[dw (mz hi)]
  rw[e1,e2,((h3.gd _ (by simp)).ts hx).1];exact h4
 obtain⟨rp,r1,r2⟩:=xr (pP hmx hm);have htop:=Dq hx hD hv;have hsm:=Cn.CO (xq hx.pr) (sG hx.pr) hx.r (d:=dR dg R) (λi hi=>by
  unfold dR;have:=hx.dg (R-1-i) (by omega);omega) (G0:=au p dg R vs) (G1:=au p dg R (fm ms)) h0 h1 (λi hi=>by
  obtain⟨D2,u,r,a1,a2,a3⟩:=h.vb.at hi;have e1:(au p dg R vs).ld i=ag R u:=by show gF R _=_;rw[dw a2];rfl
  rw[e1,((a3.gd u (by simp)).ts hx).1];omega) (λi hi=>rfl) (λi hi=>by
  obtain⟨D2,u,r,a1,a2,a3⟩:=h.vb.at hi;have e1:(au p dg R vs).ld i=ag R u:=by show gF R _=_;rw[dw a2];rfl
  have e2:(au p dg R vs).g i=cV R (u::r):=by show cV R _=_;rw[dw a2]
  have hmem:(u::r)∈vs:=List.mem_of_getElem? a2;have h4:=h.my _ hmem D2 a3;rw[e1,e2,((a3.gd u (by simp)).ts hx).1];have:=xr h4;exact this) hA (X:=λφ=>aF R φ (t::ts)) r1 r2 (s:=ag R t) (Cn.iA.2 ⟨hts.2,hts.1⟩) (λhd=>by
   have hd:p∣aF R (Gb.dl (ag R t)) (t::ts):=hd;rw[htop.1] at hd;have:=hv.co t (by simp);exact Ds hd (by omega) this.2) (λu hu hl=>by
   have:aF R (Gb.dl u) (t::ts)=0:=htop.2 u hl;show p∣aF R (Gb.dl u) (t::ts);rw[this];exact⟨0,by simp⟩) (λi hi hd=>by
   have hi:=jv hi;rw[iE] at hi;rw[gH,ce hi] at hd;exact h.no_dv gt.ldb hf _ (Lo hi) hd)
 have e:Cn.aG (ag R t).2+dR dg R (ag R t).1=D.toNat:=by have:=hts.1;unfold aL at this;have e2:Gb.bK (ag R t)=Cn.aG (ag R t).2:=rfl;omega
 omega
theorem Dt{R:Nat}{ms:List Mm}{qs srt:List Pq}{f:Mm}{k0 k1 k2:Int}{dg:Nat->Int}{E:Nat->Nat->Prop}(hinv:Gb.fF Gb.aW (bZ R ms) ms.length (λi j=>kI ms qs i j\/E i j) (mA ms))(hnd:(ms.map Mm.blk).Nodup)(hld0:∀x∈ms,dL R x.L)(hpr0:∀q∈qs,∃x y,x∈ms/\y∈ms/\q.b1=x.blk/\q.b2=y.blk/\dM x.L y.L q)(hf:dL R f.L)(hg:f.gone=false)(hne:∀x∈ms,x.blk≠f.blk)(hs:srt.Perm ((gQ ms f.L.pl.toNat).map λx=>cW k0 k1 k2 dg x f)):Gb.fF Gb.aW (bZ R (ms.map (bo f.L)++[f])) (ms.length+1) (λi j=>kI (ms.map (bo f.L)++[f]) (qs.filter (λq=>!eC ms f.L q)++bh [] srt) i j\/E i j) (mA (ms.map (bo f.L)++[f])):=by
 have hlen:(ms.map (bo f.L)++[f]).length=ms.length+1:=by simp
 have hlt:∀i (hi:i<ms.length) (hi2:i<(ms.map (bo f.L)++[f]).length),(ms.map (bo f.L)++[f])[i]=bo f.L ms[i]:=λi hi hi2=>by rw[List.getElem_append_left (by simpa using hi),List.getElem_map]
 have hla:∀(hi2:ms.length<(ms.map (bo f.L)++[f]).length),(ms.map (bo f.L)++[f])[ms.length]=f:=λhi2=>by rw[List.getElem_append_right (by simp)];simp
 have hld:∀i,i<ms.length->bZ R (ms.map (bo f.L)++[f]) i=bZ R ms i:=λi hi=>by rw[ce hi,ce (by omega),hlt i hi (by omega),(eY f.L _).1]
 have hln:bZ R (ms.map (bo f.L)++[f]) ms.length=ag R f.L:=by rw[ce (by omega),hla (by omega)]
 have hal:∀q∈srt,∃(i:Nat)(hi:i<ms.length),ms[i].L.pl=f.L.pl/\ms[i].gone=false/\q=cW k0 k1 k2 dg ms[i] f:=λq hq=>by
  obtain⟨x,hx,e⟩:=LC.1 (hs.mem_iff.1 hq);have hx2:=LR.1 hx;have hx3:=LR.1 hx2.1;obtain⟨i,hi,e2⟩:=L8.1 hx3.1;have hp:=hf.pl;refine⟨i,hi,?_,?_,by rw[e2];exact e.symm⟩
  .rw[e2];have:=hx3.2;simp only[decide_eq_true_eq] at this;omega
  .rw[e2];simpa using hx2.2
 have hmem:∀q,q∈bh [] srt->q∈srt:=λq hq=>(og srt [] q hq).elim (λh=>by simp at h) id;have hpr:∀(i:Nat)(hi:i<ms.length),ms[i].L.pl=f.L.pl->dM ms[i].L f.L (cW k0 k1 k2 dg ms[i] f):=λi hi e=>⟨e,rfl,rfl,rfl,rfl⟩;have inj:∀(i j:Nat)(hi:i<ms.length)(hj:j<ms.length),ms[i].blk=ms[j].blk->i=j:=λi j hi hj e=>by
  have h1:(ms.map Mm.blk)[i]'(by simpa using hi)=(ms.map Mm.blk)[j]'(by simpa using hj):=by simp[e]
  exact(List.getElem_inj hnd).1 h1
 have blk':∀i (hi2:i<(ms.map (bo f.L)++[f]).length),(∃hi:i<ms.length,(ms.map (bo f.L)++[f])[i].blk=ms[i].blk)\/(i=ms.length/\(ms.map (bo f.L)++[f])[i].blk=f.blk):=λi hi2=>by
  by_cases hi:i<ms.length
  .exact L0 ⟨hi,by rw[hlt i hi hi2,(eY f.L _).2.1]⟩
  .have e:i=ms.length:=by omega
   subst e;exact L3 ⟨rfl,by rw[hla hi2]⟩
 have h0:Gb.fF Gb.aW (bZ R (ms.map (bo f.L)++[f])) ms.length (λi j=>kI ms qs i j\/E i j) (mA ms):=sL hinv hld (λ_ _=>Iff.rfl) λ_ _=>Iff.rfl;refine h0.step (kept:=λi=>∃(hi:i<ms.length),∃q∈bh [] srt,q.b1=ms[i].blk) (λx hx=>hx.1) (λx t hx hgx d1 d2=>?_) (λi j hp=>?_) (λi hi=>?_) (λi j hp=>?_) (λx=>?_)
 .rw[hld x hx,ce hx] at d1;rw[hln] at d2;have lx:=hld0 ms[x] (Lo hx);have hpl:ms[x].L.pl=f.L.pl:=by have e1:(ag R ms[x].L).1=(ag R f.L).1:=d1.1.trans d2.1.symm;have p1:=lx.pl;have p2:=hf.pl;unfold ag at e1;simp only at e1;omega
  have hgx2:ms[x].gone=false:=by
   cases e:ms[x].gone with
   |true=>exact absurd ⟨hx,e⟩ hgx
   |false=>rfl
  have hin:cW k0 k1 k2 dg ms[x] f∈srt:=by refine hs.mem_iff.2 (LC.2 ⟨ms[x],LR.2 ⟨LR.2 ⟨Lo hx,?_⟩,by simp[hgx2]⟩,rfl⟩);have p2:=hf.pl;simp only[decide_eq_true_eq];omega
  rcases pS srt [] _ hin with h1|⟨q,hq,h1⟩
  .exact L0 ⟨hx,_,h1,rfl⟩
  .obtain⟨y,hy,ypl,ygo,rfl⟩:=hal q (hmem q hq);have ly:=hld0 ms[y] (Lo hy);have hlc:Gb.aW.dv (Gb.aW.lc (ag R ms[y].L) (ag R f.L)) (Gb.aW.lc (ag R ms[x].L) (ag R f.L)):=by rw[lC ly hf,lC lx hf,ypl,hpl];unfold jy fI at h1;simp only[Bool.and_eq_true,decide_eq_true_eq] at h1;obtain⟨⟨⟨a1,a2⟩,a3⟩,_⟩:=h1;exact⟨rfl,Int.toNat_le_toNat a1,Int.toNat_le_toNat a2,Int.toNat_le_toNat a3⟩
   refine L3 ⟨y,⟨hy,_,hq,rfl⟩,?_,?_⟩
   .rw[hld y hy,ce hy];exact Gb.aW.trans (xy _ (ag R f.L)) (Gb.aW.trans hlc (Gb.aW.lci d1 d2))
   .rw[hld y hy,ce hy,hln,hld x hx,ce hx];exact hlc
 .rcases Or.symm hp with hp|hp
  .exact L0 (L3 hp)
  obtain⟨hi2,hj2,q,hq,e1,e2⟩:=hp;rcases Lv.1 hq with hq|hq
  .have hq2:=(LR.1 hq).1;obtain⟨x,y,hx,hy,f1,f2,_⟩:=hpr0 q hq2;rcases blk' i hi2 with ⟨hi,b1⟩|⟨_,b1⟩
   .rcases blk' j hj2 with ⟨hj,b2⟩|⟨_,b2⟩
    .exact L0 (L0 ⟨hi,hj,q,hq2,by rw[e1,b1],by rw[e2,b2]⟩)
    .exact absurd (f2.symm.trans (e2.trans b2)) (hne y hy)
   .exact absurd (f1.symm.trans (e1.trans b1)) (hne x hx)
  .obtain⟨x,hx,_,_,rfl⟩:=hal q (hmem q hq);rcases blk' i hi2 with ⟨hi,b1⟩|⟨_,b1⟩
   .rcases blk' j hj2 with ⟨hj,b2⟩|⟨ej,b2⟩
    .exact absurd (e2.trans b2).symm (hne ms[j] (Lo hj))
    .exact L3 ⟨ej,hi,_,hq,by rw[e1,b1]⟩
   .exact absurd (e1.trans b1) (hne ms[x] (Lo hx))
 .obtain⟨hi2,q,hq,e⟩:=hi;obtain⟨x,hx,_,_,rfl⟩:=hal q (hmem q hq);refine L0 ⟨by omega,by omega,_,Lv.2 (L3 hq),?_,?_⟩
  .rw[e,hlt i hi2 (by omega),(eY f.L _).2.1]
  .rw[hla (by omega)];rfl
 .rcases Or.symm hp with hp|hp
  .exact L0 (L3 hp)
  obtain⟨hi,hj,q,hq,e1,e2⟩:=hp;cases ht:eC ms f.L q with
  |false=>
   refine L0 (L0 ⟨by omega,by omega,q,Lv.2 (L0 (LR.2 ⟨hq,by simp[ht]⟩)),?_,?_⟩)
   .rw[e1,hlt i hi (by omega),(eY f.L _).2.1]
   .rw[e2,hlt j hj (by omega),(eY f.L _).2.1]
  |true=>obtain⟨x,y,hx,hy,f1,f2,hp2⟩:=hpr0 q hq;have ex:x=ms[i]:=jX hnd hx (Lo hi) (f1.symm.trans e1);have ey:y=ms[j]:=jX hnd hy (Lo hj) (f2.symm.trans e2);subst ex ey;unfold eC at ht;rw[f1,f2,mB hnd hx,mB hnd hy] at ht;refine L3 ?_;rw[hld i hi,hld j hj,ce hi,ce hj,hln];exact xA hp2 (hld0 _ hx) (hld0 _ hy) hf ht
 .constructor
  .rintro ⟨hx,hgx⟩;rcases (by omega:x<ms.length\/x=ms.length) with hx2|rfl
   .rw[hlt x hx2 hx] at hgx;refine⟨hx2,?_⟩;rw[hln,hld x hx2,ce hx2];rcases (oh hf (hld0 _ (Lo hx2))).1 hgx with h1|h1
    .exact L0 ⟨hx2,h1⟩
    .exact L3 h1
   .rw[hla hx,hg] at hgx;simp at hgx
  .rintro ⟨hx2,h1⟩;refine⟨by omega,?_⟩;rw[hlt x hx2 (by omega)];rw[hln,hld x hx2,ce hx2] at h1;refine(oh hf (hld0 _ (Lo hx2))).2 ?_;rcases h1 with ⟨_,h1⟩|h1
   .exact L0 h1
   .exact L3 h1
def tri:Nat->Nat
 |0=>0
 |n+1=>tri n+n+1
theorem xB:∀n,2*tri n=n*(n+1)
 |0=>rfl
 |n+1=>by have:=xB n;simp only[tri];grind
theorem xC{m n:Nat}(h:m<=n):tri m<=tri n:=by
 obtain⟨k,rfl⟩:∃k,n=m+k:=⟨n-m,by omega⟩;induction k with
 |zero=>exact Lc _
 |succ k ih=>have:=ih (by omega);show _<=tri (m+k)+(m+k)+1;omega
theorem Du{a b c d:Nat}(h:tri (a+b)+b=tri (c+d)+d):a=c/\b=d:=by
 have fp:∀{s u x y:Nat},x<=s->s<u->tri s+x=tri u+y->False:=fun {s u x y} hx hs e=>by have h1:=xC (show s+1<=u from hs);have h2:tri (s+1)=tri s+s+1:=rfl;omega
 rcases Nat.lt_trichotomy (a+b) (c+d) with h1|h1|h1
 .exact(fp (by omega) h1 h).elim
 .rw[h1] at h;omega
 .exact(fp (by omega) h1 h.symm).elim
theorem Dw{K:Nat}{l:List Cn.Mt}(hb:∀y∈l,y.1+y.2.1<K)(ha:l.Pairwise λx y=>¬Cn.dr x y/\¬Cn.dr y x):l.length<=tri K:=by
 have h:=Cn.lp (l.map λy=>tri (y.1+y.2.1)+y.2.1) (List.range (tri K)) (List.pairwise_map.2 (ha.imp_of_mem fun {x y} hx hy hxy e=>?_)) λz hz=>?_
 .simpa using h
 .obtain⟨e1,e2⟩:=Du e;rcases Nat.le_total x.2.2 y.2.2 with h|h
  .exact hxy.1 ⟨by omega,by omega,h⟩
  .exact hxy.2 ⟨by omega,by omega,h⟩
 .obtain⟨y,hy,rfl⟩:=LC.1 hz;have h1:=hb y hy;rw[List.mem_range];have h2:=xC (show y.1+y.2.1+1<=K from h1);have h3:tri (y.1+y.2.1+1)=tri (y.1+y.2.1)+(y.1+y.2.1)+1:=rfl;omega
theorem xD{B:Nat}:∀(R:Nat)(l:List Mm),(∀x∈l,0<=x.L.pl/\x.L.pl<R)->(∀pl:Nat,pl<R->(aS l pl).length<=B)->l.length<=R*B
 |0,l,h,_=>by
  cases l with
  |nil=>simp
  |cons x l=>have:=h x (by simp);omega
 |R+1,l,h,hB=>by
  have h1:=xD R (l.filter λx=>!decide (x.L.pl=(R:Int))) (λx hx=>by
   obtain⟨a,b⟩:=LR.1 hx;have:=h x a;simp only[Bool.not_eq_true',decide_eq_false_iff_not] at b;omega) (λpl hp=>by
   refine Lk ?_ (hB pl (by omega));exact List.Sublist.length_le (List.Sublist.filter _ List.filter_sublist))
  have h2:=hB R (by omega);have h3:l.length=(aS l R).length+(l.filter λx=>!decide (x.L.pl=(R:Int))).length:=by unfold aS;rw[<-List.countP_eq_length_filter,<-List.countP_eq_length_filter];have:=List.length_eq_countP_add_countP (λx:Mm=>decide (x.L.pl=(R:Int))) (l:=l);simpa using this
  rw[Nat.add_mul];omega
theorem Cp.len{p:Int}{dg:Nat->Int}{N R:Nat}(hx:aP p dg N R){vs:List (List Ft)}{ms:List Mm}{qs:List Pq}{E:Nat->Nat->Prop}{T:Int}(h:Cp p dg N R vs ms qs E T):(∀pl:Nat,(aS ms pl).length<=407253)/\ms.length<=1221759/\qs.length<=500000000000:=by
 have h1:∀pl:Nat,(aS ms pl).length<=407253:=λpl=>by
  have e:tri 902=407253:=by have:=xB 902;omega
  rw[<-e];have hpw:(aS ms pl).Pairwise λx y=>¬Gb.aW.dv (ag R x.L) (ag R y.L)/\¬Gb.aW.dv (ag R y.L) (ag R x.L):=h.anti.sublist List.filter_sublist;have:=Dw (K:=902) (l:=(aS ms pl).map λx=>(ag R x.L).2) (λy hy=>?_) (List.pairwise_map.2 (hpw.imp_of_mem fun {x y} hx1 hy1 hxy=>?_))
  .simpa using this
  .obtain⟨x,hxm,rfl⟩:=LC.1 hy;obtain⟨D,_,h2,h3⟩:=h.mb x (LR.1 hxm).1;have g:=h3.gd x.L (by simp);have hb:=g.bd hx;have g1:=g.a;have g2:=g.b;have g3:=g.d;unfold ag;simp only;omega
  .have ex:=(LR.1 hx1).2;have ey:=(LR.1 hy1).2;simp only[decide_eq_true_eq] at ex ey;have e1:(ag R x.L).1=(ag R y.L).1:=by unfold ag;simp only;rw[ex,ey]
   exact⟨λhl=>hxy.1 ⟨e1,hl.1,hl.2.1,hl.2.2⟩,λhl=>hxy.2 ⟨e1.symm,hl.1,hl.2.1,hl.2.2⟩⟩
 have h2:ms.length<=1221759:=by
  have:=xD R ms (λx hxm=>by
   obtain⟨D,_,_,h3⟩:=h.mb x hxm;have g:=h3.gd x.L (by simp);exact⟨g.pl0,g.pl⟩) λpl _=>h1 pl
  have hr:=hx.r;have:=L5 407253 hr;omega
 have h3:=h.ql;have h4:=Nat.mul_le_mul_left 407253 h2;exact⟨h1,h2,by omega⟩
theorem Cp.raise{p:Int}{dg:Nat->Int}{N R:Nat}{vs:List (List Ft)}{ms:List Mm}{qs:List Pq}{E:Nat->Nat->Prop}{T T2:Int}(h:Cp p dg N R vs ms qs E T)(hT:T<=T2)(hq:∀q∈qs,T2<=q.dg):Cp p dg N R vs ms qs E T2:=
 ⟨h.inv,h.nd,λq hqm=>by
  obtain⟨x,y,a1,a2,a3,a4,a5,a6,_⟩:=h.pr q hqm;exact⟨x,y,a1,a2,a3,a4,a5,a6,hq q hqm⟩,λx hxm=>by
  obtain⟨D,h1,h2,h3⟩:=h.mb x hxm;exact⟨D,by omega,h2,h3⟩,h.ng,h.anti,h.vb,h.mx,h.my,h.ql⟩
theorem sM{α:Type}{l:List α}{k:Nat}(hk:k<l.length){x:α}:x∈l↔x=l[k]\/x∈l.take k++l.drop (k+1):=by
 have e:l=l.take k++l[k]::l.drop (k+1):=by rw[<-LY hk,List.take_append_drop]
 constructor
 .intro h;rw[e] at h;rcases Lv.1 h with h|h
  .exact L3 (Lv.2 (L0 h))
  .rcases LL.1 h with h|h
   .exact L0 h
   .exact L3 (Lv.2 (L3 h))
 .rintro (h|h)
  .rw[h];exact Lo hk
  .rcases Lv.1 h with h|h
   .exact L6 h
   .exact List.mem_of_mem_drop h
theorem Cp.pop{p:Int}{dg:Nat->Int}{N R:Nat}{vs:List (List Ft)}{ms:List Mm}{qs:List Pq}{E:Nat->Nat->Prop}{T:Int}(h:Cp p dg N R vs ms qs E T){k:Nat}(hk:k<qs.length)(hmin:∀q∈qs,qs[k].dg<=q.dg):∃(i j:Nat)(hi:i<ms.length)(hj:j<ms.length),qs[k].b1=ms[i].blk/\qs[k].b2=ms[j].blk/\dM ms[i].L ms[j].L qs[k]/\qs[k].dg=qs[k].a+qs[k].b+qs[k].d+dg ms[i].L.pl.toNat/\T<=qs[k].dg/\Cp p dg N R vs ms (qs.take k++qs.drop (k+1)) (λa b=>E a b\/(a=i/\b=j)) qs[k].dg:=by
 obtain⟨x,y,a1,a2,a3,a4,a5,a6,a7⟩:=h.pr qs[k] (Lo hk);obtain⟨i,hi,rfl⟩:=L8.1 a1;obtain⟨j,hj,rfl⟩:=L8.1 a2;have inj:∀(a b:Nat)(ha:a<ms.length)(hb:b<ms.length),ms[a].blk=ms[b].blk->a=b:=λa b ha hb e=>by
  have h1:(ms.map Mm.blk)[a]'(by simpa using ha)=(ms.map Mm.blk)[b]'(by simpa using hb):=by simp[e]
  exact(List.getElem_inj h.nd).1 h1
 refine⟨i,j,hi,hj,a3,a4,a5,a6,a7,sL h.inv (λ_ _=>rfl) (λa b=>?_) λ_ _=>Iff.rfl,h.nd,λq hq=>?_,λz hz=>?_,h.ng,h.anti,h.vb,h.mx,h.my,?_⟩
 .constructor
  .rintro (⟨ha,hb,q,hq,e1,e2⟩|hE|⟨rfl,rfl⟩)
   .exact L0 ⟨ha,hb,q,(sM hk).2 (L3 hq),e1,e2⟩
   .exact L3 hE
   .exact L0 ⟨hi,hj,_,Lo hk,a3,a4⟩
  .rintro (⟨ha,hb,q,hq,e1,e2⟩|hE)
   .rcases (sM hk).1 hq with e|hq
    .refine L3 (L3 ⟨inj _ _ ha hi ?_,inj _ _ hb hj ?_⟩)
     .rw[<-e1,e,a3]
     .rw[<-e2,e,a4]
    .exact L0 ⟨ha,hb,q,hq,e1,e2⟩
   .exact L3 (L0 hE)
 .have hq2:=(sM hk).2 (L3 hq);obtain⟨x,y,c1,c2,c3,c4,c5,c6,_⟩:=h.pr q hq2;exact⟨x,y,c1,c2,c3,c4,c5,c6,hmin q hq2⟩
 .obtain⟨D,h1,h2,h3⟩:=h.mb z hz;exact⟨D,by omega,h2,h3⟩
 .have:=h.ql;simp only[Lx,LU,List.length_drop];omega
theorem oj(ms:List Mm)(f:Mm):fm (ms++[f])=fm ms++[f.L::f.r]:=by simp[fm]
theorem cP.deg{p:Int}{dg:Nat->Int}{N R:Nat}{D E:Int}{t:Ft}{ts:List Ft}(h:cP p dg N R D (t::ts))(k:cP p dg N R E (t::ts)):D=E:=by have a:=(h.gd t (by simp)).deg;have b:=(k.gd t (by simp)).deg;omega
theorem Cp.add{p:Int}{dg:Nat->Int}{N R:Nat}(hx:aP p dg N R){vs us:List (List Ft)}{ms:List Mm}{qs srt:List Pq}{E:Nat->Nat->Prop}{T k0 k1 k2:Int}{f:Mm}(h:Cp p dg N R vs ms qs E T)(hT:T<=901)(hf:iD p dg N R T f.L f.r)(hg:f.gone=false)(hne:∀x∈ms,x.blk≠f.blk)(hs:srt.Perm ((gQ ms f.L.pl.toNat).map λx=>cW k0 k1 k2 dg x f))(hno:∀x∈ms,¬Gb.aW.dv (ag R x.L) (ag R f.L))(hus:iC p dg N R 9 us)(hmx:Gb.Vb (au p dg R (vs++us)) (λs=>aL dg R s=T.toNat) λφ=>aF R φ (f.L::f.r))(hmy:∀v∈us,∀D,cP p dg N R D v->Gb.Vb (au p dg R (fm (ms++[f]))) (λs=>aL dg R s=D.toNat) λφ=>aF R φ v):ms.map (bo f.L)=ms/\Cp p dg N R (vs++us) (ms++[f]) (qs.filter (λq=>!eC ms f.L q)++bh [] srt) E T:=by
 have gf:=hf.gd f.L (by simp);have lf:=gf.ldb;have hld:∀x∈ms,dL R x.L:=λx hxm=>by obtain⟨D,_,_,h3⟩:=h.mb x hxm;exact(h3.gd x.L (by simp)).ldb
 have hno2:∀x∈ms,¬Gb.aW.dv (ag R f.L) (ag R x.L):=λx hxm hd=>by obtain⟨D,h1,_,h3⟩:=h.mb x hxm;have g:=h3.gd x.L (by simp);have t1:=(gf.ts hx).1;have t2:=(g.ts hx).1;have hd2:(ag R f.L).1=(ag R x.L).1/\(ag R f.L).2.1<=(ag R x.L).2.1/\(ag R f.L).2.2.1<=(ag R x.L).2.2.1/\(ag R f.L).2.2.2<=(ag R x.L).2.2.2:=hd;unfold aL Gb.bK at t1 t2;rw[hd2.1] at t1;exact hno x hxm ⟨hd2.1.symm,by omega,by omega,by omega⟩
 have hgo:ms.map (bo f.L)=ms:=by
  have:∀x∈ms,bo f.L x=x:=λx hxm=>by
   have h1:=h.ng x hxm;have h2:(bo f.L x).gone=false:=by
    cases e:(bo f.L x).gone with
    |false=>rfl
    |true=>
     rcases (oh lf (hld x hxm)).1 e with h3|h3
     .rw[h1] at h3;simp at h3
     .exact absurd h3 (hno2 x hxm)
   unfold bo kJ at h2⊢;by_cases hpl:x.L.pl=f.L.pl
   .rw[LI hpl] at h2⊢;simp only at h2;rw[h2];obtain⟨b,L,rv,r,g⟩:=x;simp only at h1;rw[h1]
   .rw[LH hpl]
  rw[List.map_congr_left this,List.map_id']
 have hpr2:∀q∈qs,∃x y,x∈ms/\y∈ms/\q.b1=x.blk/\q.b2=y.blk/\dM x.L y.L q:=λq hq=>by obtain⟨x,y,a1,a2,a3,a4,a5,_⟩:=h.pr q hq;exact⟨x,y,a1,a2,a3,a4,a5⟩
 have hinv:=Dt h.inv h.nd hld hpr2 lf hg hne hs;rw[hgo] at hinv;have hex1:=lD p dg R vs us;have hex2:=lD p dg R (fm ms) [f.L::f.r];rw[<-oj] at hex2;have hal:∀q∈bh [] srt,∃x∈ms,x.L.pl=f.L.pl/\q=cW k0 k1 k2 dg x f:=λq hq=>by have hq2:=(og srt [] q hq).elim (λh=>by simp at h) id;obtain⟨x,hxm,e⟩:=LC.1 (hs.mem_iff.1 hq2);have h2:=LR.1 (LR.1 hxm).1;have h3:=h2.2;have hp:=lf.pl;simp only[decide_eq_true_eq] at h3;exact⟨x,h2.1,by omega,e.symm⟩
 refine⟨hgo,by rw[Lx];exact hinv,?_,λq hq=>?_,λx hxm=>?_,λx hxm=>?_,?_,λv hv=>?_,λx hxm D hD=>?_,λv hv D hD=>?_,?_⟩
 .rw[LO];refine List.nodup_append.2 ⟨h.nd,by simp,λa ha b hb=>?_⟩;simp at hb;obtain⟨x,hxm,rfl⟩:=LC.1 ha;rw[hb];exact hne x hxm
 .rcases Lv.1 hq with hq|hq
  .obtain⟨x,y,a1,a2,a3⟩:=h.pr q (LR.1 hq).1;exact⟨x,y,by simp[a1],by simp[a2],a3⟩
  .obtain⟨x,hxm,hpl,rfl⟩:=hal q hq;have z1:=(hld x hxm).z;have z2:=lf.z;have gd:=gf.deg;refine⟨x,f,by simp[hxm],by simp,rfl,rfl,⟨hpl,rfl,rfl,rfl,rfl⟩,?_,?_⟩
   .show mC x.L f.L+dg x.L.pl.toNat=dA x.L f.L+dB x.L f.L+dC x.L f.L+dg x.L.pl.toNat;unfold mC dD;rw[z1,z2];omega
   .show T<=mC x.L f.L+dg x.L.pl.toNat;rw[hpl];unfold mC dA dB dC dD;rw[z1,z2];omega
 .rcases Lv.1 hxm with hxm|hxm
  .exact h.mb x hxm
  .rw[Lw] at hxm;subst hxm;exact⟨T,Int.le_refl _,hT,hf⟩
 .rcases Lv.1 hxm with hxm|hxm
  .exact h.ng x hxm
  .rw[Lw] at hxm;subst hxm;exact hg
 .refine List.pairwise_append.2 ⟨h.anti,by simp,λx hxm y hy=>?_⟩;rw[Lw] at hy;subst hy;exact⟨hno x hxm,hno2 x hxm⟩
 .rcases Lv.1 hv with hv|hv
  .exact h.vb v hv
  .exact hus v hv
 .rcases Lv.1 hxm with hxm|hxm
  .exact lE hex1 (h.mx x hxm D hD)
  .rw[Lw] at hxm;subst hxm;rw[hD.vch.deg hf.vch];exact hmx
 .rcases Lv.1 hv with hv|hv
  .exact lE hex2 (h.my v hv D hD)
  .exact hmy v hv D hD
 .have h1:=h.ql;have h2:(bh [] srt).length<=srt.length:=by
   have:∀(xs kept:List Pq),(bh kept xs).length<=kept.length+xs.length:=by
    intro xs;induction xs with
    |nil=>intro kept;simp[bh]
    |cons x xs ih=>
     intro kept;unfold bh;split
     .have:=ih kept;simp only[LN];omega
     .have:=ih (kept++[x]);simp only[Lx,LN,List.length_nil] at this⊢;omega
   have:=this srt [];simpa using this
  have h3:=hs.length_eq;rw[LD] at h3;have h4:(gQ ms f.L.pl.toNat).length<=(aS ms f.L.pl.toNat).length:=LX _ _;have h5:=(h.len hx).1 f.L.pl.toNat;have h6:=LX (λq=>!eC ms f.L q) qs;simp only[Lx,LN,List.length_nil];omega
theorem Cp.putv{p:Int}{dg:Nat->Int}{N R:Nat}{vs:List (List Ft)}{ms:List Mm}{qs:List Pq}{E:Nat->Nat->Prop}{T:Int}{v:List Ft}(h:Cp p dg N R vs ms qs E T){D:Int}(hD:D<=9)(hv:cP p dg N R D v)(hne:v≠[])(hm:Gb.Vb (au p dg R (fm ms)) (λs=>aL dg R s=D.toNat) λφ=>aF R φ v):Cp p dg N R (vs++[v]) ms qs E T:=by
 refine⟨h.inv,h.nd,h.pr,h.mb,h.ng,h.anti,λu hu=>?_,λx hxm D2 hD2=>lE (lD p dg R vs [v]) (h.mx x hxm D2 hD2),λu hu D2 hD2=>?_,h.ql⟩
 .rcases Lv.1 hu with hu|hu
  .exact h.vb u hu
  .rw[Lw] at hu;subst hu;exact⟨D,hD,hne,hv⟩
 .rcases Lv.1 hu with hu|hu
  .exact h.my u hu D2 hD2
  .rw[Lw] at hu;subst hu;cases u with
   |nil=>exact absurd rfl hne
   |cons t ts=>rw[hD2.deg hv];exact hm
theorem dF.ext{p:Int}{dg:Nat->Int}{N R:Nat}(hx:aP p dg N R){vs:List (List Ft)}{ms:List Mm}{qs:List Pq}{E E2:Nat->Nat->Prop}{T:Int}(h:Cp p dg N R vs ms qs E2 T)(hE:dF p dg R ms E)(f:Mm):dF p dg R (ms++[f]) E:=λi j hij=>by
 obtain⟨hi,hj,a,b,h1,h2,h3⟩:=hE i j hij;have e:∀k,k<ms.length->bZ R (ms++[f]) k=bZ R ms k:=λk hk=>by rw[ce hk,ce (by simp;omega),List.getElem_append_left hk]
 have hl:=pQ hx (by omega) h.msh;refine⟨by simp;omega,by simp;omega,a,b,by rw[e i hi,e j hj];exact h1,by rw[e i hi,e j hj];exact h2,?_⟩;have hex:=lD p dg R (fm ms) [f.L::f.r];rw[<-oj] at hex;exact Dz hex (hl.live i (by rw[iE];exact hi)) (hl.live j (by rw[iE];exact hj)) h3
end Go.Proofs.YteimdcndjjclnaaGreat
namespace Go.Proofs.YteimdcndjjclnaaGreat
open Go.Proofs.Tryz
set_option linter.all false
def nT(N:Nat)(s:Gb.Te):Prop:=(N<=1->s.2.2.1=0)/\(N<=2->s.2.2.2=0)
def nM(N:Nat)(m:Gb.Mo):Prop:=(N<=1->m.2.1=0)/\(N<=2->m.2.2=0)
theorem aM.nt{dg:Nat->Int}{N R:Nat}{D:Int}{t:Ft}(g:aM dg N R D t):nT N (ag R t):=⟨λh=>by have:=g.n1 h;unfold ag;simp only;omega,λh=>by have:=g.n2 h;unfold ag;simp only;omega⟩
theorem sN{N:Nat}{m:Gb.Mo}{s:Gb.Te}:nT N (Gb.aA m s)↔nM N m/\nT N s:=by
 unfold nT nM Gb.aA;simp only;constructor
 .exact λh=>⟨⟨λk=>by have:=h.1 k;omega,λk=>by have:=h.2 k;omega⟩,⟨λk=>by have:=h.1 k;omega,λk=>by have:=h.2 k;omega⟩⟩
 .exact fun⟨h,k⟩=>⟨λj=>by have:=h.1 j;have:=k.1 j;omega,λj=>by have:=h.2 j;have:=k.2 j;omega⟩
theorem iC.term{p:Int}{dg:Nat->Int}{N R:Nat}(hx:aP p dg N R){Q:Int}{fss:List (List Ft)}(h:iC p dg N R Q fss){i:Nat}(hi:i<fss.length):∀x∈(au p dg R fss).g i,nT N x.2/\x.2.1<R/\aL dg R x.2=aL dg R ((au p dg R fss).ld i):=by
 obtain⟨D,t,r,h1,h2,h3⟩:=h.at hi;have hg:(au p dg R fss).g i=cV R (t::r):=by show cV R _=_;rw[dw h2]
 have hl:(au p dg R fss).ld i=ag R t:=by show gF R _=_;rw[dw h2];rfl
 intro x hxg;rw[hg] at hxg;obtain⟨u,hu,rfl⟩:=LC.1 hxg;have a:=(h3.gd u hu).ts hx;have b:=(h3.gd t (by simp)).ts hx;exact⟨(h3.gd u hu).nt,a.2,by rw[hl,a.1,b.1]⟩
def lF{p:Int}{dg:Nat->Int}{R:Nat}(G:Gb.aV (Gb.aD (dR dg R)) p)(N n t:Nat)(rp:Gb.Rp Gb.Mo):Prop:=∀r∈rp,r.2.2<n/\nM N r.2.1/\aL dg R (G.ld r.2.2)+(r.2.1.1+r.2.1.2.1+r.2.1.2.2)=t
theorem xE{p:Int}{dg:Nat->Int}{N R:Nat}(hx:aP p dg N R){Q:Int}{fss:List (List Ft)}(h:iC p dg N R Q fss){t:Nat}{u:Gb.Te}(hu:¬(u.1<R/\aL dg R u=t/\nT N u)):∀{rp:Gb.Rp Gb.Mo},lF (au p dg R fss) N fss.length t rp->Gb.ev (au p dg R fss) (Gb.dl u) rp=0
 |[],_=>rfl
 |r::rp,hr=>by
  have h1:=hr r (by simp);simp only[Gb.ev];rw[xE hx h hu λy hy=>hr y (by simp[hy])];rw[Gb.iY (φ:=λs=>Gb.dl u ((Gb.aD (dR dg R)).act r.2.1 s)) λx hxg=>?_]
  .simp
  .have hT:=h.term hx h1.1 x hxg;show Gb.dl u (Gb.aA r.2.1 x.2)=0;unfold Gb.dl;rw[LH];intro e;apply hu;rw[<-e];refine⟨hT.2.1,?_,sN.2 ⟨h1.2.1,hT.1⟩⟩;rw[jW,hT.2.2];exact h1.2.2
theorem DA{τ M:Type}{S:Gb.bY τ M}{p:Int}{G:Gb.aV S p}{A:τ->Prop}{X:Gb.Fn τ}(h:Gb.Vb G A X):(∀φ,p∣X φ)\/∃T,A T/\Gb.Vb G (λs=>S.lt s T\/s=T) X:=by
 obtain⟨rp,h1,h2⟩:=h;have hmax:∀l:Gb.Rp M,l=[]\/∃r∈l,∀y∈l,S.lt (S.act y.2.1 (G.ld y.2.2)) (S.act r.2.1 (G.ld r.2.2))\/S.act y.2.1 (G.ld y.2.2)=S.act r.2.1 (G.ld r.2.2):=by
  intro l;induction l with
  |nil=>exact L0 rfl
  |cons a l ih=>
   refine L3 ?_;rcases ih with rfl|⟨r,r1,r2⟩
   .exact⟨a,by simp,λy hy=>by rw[Lw] at hy;rw[hy];exact L3 rfl⟩
   .rcases S.tri (S.act a.2.1 (G.ld a.2.2)) (S.act r.2.1 (G.ld r.2.2)) with h|h|h
    .exact⟨r,by simp[r1],λy hy=>(LL.1 hy).elim (λe=>by rw[e];exact L0 h) (r2 y)⟩
    .exact⟨r,by simp[r1],λy hy=>(LL.1 hy).elim (λe=>by rw[e];exact L3 h) (r2 y)⟩
    .refine⟨a,by simp,λy hy=>(LL.1 hy).elim (λe=>by rw[e];exact L3 rfl) λhy=>L0 ?_⟩;rcases r2 y hy with h3|h3
     .exact S.trans h3 h
     .rw[h3];exact h
 rcases hmax rp with rfl|⟨r,r1,r2⟩
 .exact L0 λφ=>by simpa [Gb.ev] using h2 φ
 .exact L3 ⟨_,(h1 r r1).2,rp,λy hy=>⟨(h1 y hy).1,r2 y hy⟩,h2⟩
def ol{p:Int}{dg:Nat->Int}{R:Nat}(G:Gb.aV (Gb.aD (dR dg R)) p)(N n t:Nat)(T:List Gb.Te)(f:Gb.Te->Int):Prop:=∃rp,lF G N n t rp/\∀s∈T,p∣f s-Gb.ev G (Gb.dl s) rp
theorem xF{p:Int}{dg:Nat->Int}{N R:Nat}(hx:aP p dg N R){Q:Int}(hQ:Q<=16000){fss:List (List Ft)}(h:iC p dg N R Q fss){i:Nat}(hi:i<fss.length):(au p dg R fss).live i:=by obtain⟨D,t,r,h1,h2,h3⟩:=h.at hi;exact oe hx (by omega) h2 h3
theorem Cp.toMs{p:Int}{dg:Nat->Int}{N R:Nat}(hx:aP p dg N R){vs:List (List Ft)}{ms:List Mm}{qs:List Pq}{E:Nat->Nat->Prop}{T:Int}(h:Cp p dg N R vs ms qs E T):∀i,(au p dg R vs).live i->Gb.Vb (au p dg R (fm ms)) (λs=>aL dg R s=aL dg R ((au p dg R vs).ld i)) λφ=>Gb.ln φ ((au p dg R vs).g i):=λi hi=>by
 obtain⟨D2,u,r,a1,a2,a3⟩:=h.vb.at (jv hi);have e1:(au p dg R vs).ld i=ag R u:=by show gF R _=_;rw[dw a2];rfl
 have e2:(au p dg R vs).g i=cV R (u::r):=by show cV R _=_;rw[dw a2]
 rw[e1,e2,((a3.gd u (by simp)).ts hx).1];exact h.my _ (List.mem_of_getElem? a2) D2 a3
theorem DB{p a b:Int}(h:p∣a-b)(hb:p∣b):p∣a:=by obtain⟨x,hx⟩:=h;obtain⟨y,hy⟩:=hb;exact⟨x+y,by rw[Int.mul_add];omega⟩
theorem Cp.leads{p:Int}{dg:Nat->Int}{N R:Nat}(hx:aP p dg N R){vs:List (List Ft)}{ms:List Mm}{E:Nat->Nat->Prop}{D:Int}(h:Cp p dg N R vs ms [] E D)(hE:dF p dg R ms E){t:Nat}{T:List Gb.Te}(hT:∀s,s∈T↔s.1<R/\aL dg R s=t/\nT N s)(s:Gb.Te):Cn.Ld (Cn.fG (dR dg R)) p T (ol (au p dg R vs) N vs.length t T) s↔s∈T/\∃x∈ms,Gb.aW.dv (ag R x.L) s:=by
 have hA:=h.allA hx hE (λ_=>True) (λ_ _=>trivial) (λq hq=>by simp at hq);constructor
 .rintro ⟨f,⟨rp,r1,r2⟩,hl⟩;have hl2:Cn.ic (Cn.fG (dR dg R)) p T (λu=>Gb.ev (au p dg R vs) (Gb.dl u) rp) s:=Cn.nZ hl λv hv=>by obtain⟨a,ha⟩:=r2 v hv;exact⟨-a,by rw[Int.mul_neg];omega⟩
  refine⟨hl.1,?_⟩;have hv0:Gb.Vb (au p dg R vs) (λs=>aL dg R s=t) λφ=>Gb.ev (au p dg R vs) φ rp:=⟨rp,λr hr=>⟨xF hx (by omega) h.vb (r1 r hr).1,by
   show aL dg R (Gb.aA r.2.1 _)=t;rw[jW];exact(r1 r hr).2.2⟩,λφ=>⟨0,by simp⟩⟩
  rcases DA (pP (h.toMs hx) hv0) with h0|⟨T0,_,hv1⟩
  .exact absurd (h0 _) hl2.2.1
  .rcases Gb.wE hA (λ_ _=>trivial) T0 trivial _ hv1 with h0|⟨i,a,v,i1,i2,i3,i4⟩
   .exact absurd (h0 _) hl2.2.1
   .have hvT:v∈T:=LP λhc=>i3 (by rw[xE hx h.vb (λhu=>hc ((hT v).2 hu)) r1];exact⟨0,by simp⟩);have e:v=s:=Cn.n4 (O:=Cn.fG (dR dg R)) (f:=λv=>Gb.ev (au p dg R vs) (Gb.dl v) rp) ⟨hvT,i3,λw _ hw=>i4 w hw⟩ hl2;have hi:=jv i1;rw[iE] at hi;refine⟨ms[i],Lo hi,?_⟩;rw[<-ce hi,<-gH p dg R];exact(Gb.pA (dR dg R) _ _).2 ⟨a,by rw[i2,e]⟩
 .rintro ⟨hs,x,hxm,hd⟩;obtain⟨a,ha⟩:=(Gb.pA (dR dg R) _ _).1 hd;have ha:Gb.aA a (ag R x.L)=s:=ha;obtain⟨D2,_,d901,hm⟩:=h.mb x hxm;have hgL:=hm.gd x.L (by simp);have hsT:=(hT s).1 hs;have hnm:nM N a:=(sN.1 (by rw[ha];exact hsT.2.2)).1;have hdeg:D2.toNat+(a.1+a.2.1+a.2.2)=t:=by rw[<-hsT.2.1,<-ha,jW,(hgL.ts hx).1]
  obtain⟨rp,r1,r2⟩:=Gb.Vb.shift (B:=λu=>aL dg R u=t) a (h.mx x hxm D2 hm) (λu hu=>by
   show aL dg R (Gb.aA a u)=t;rw[jW,hu];exact hdeg)
  have low:∀u∈x.r,(Gb.aD (dR dg R)).lt (ag R u) (ag R x.L):=λu hu=>mw hx (by omega) (hm.gd u (by simp[hu])) hgL (hm.dn.head u hu);have htop:∀v,(v=s\/(Gb.aD (dR dg R)).lt s v)->aF R (λu=>Gb.dl v (Gb.aA a u)) (x.L::x.r)=Gb.dl v s:=λv hv=>by
   rw[gG,hm.c1,ha];have e1:aF R (λu=>Gb.dl v (Gb.aA a u)) x.r=0:=Gb.iY λy hy=>by
    obtain⟨u,hu,rfl⟩:=LC.1 hy;have hlt:=(Gb.aD (dR dg R)).mono a (low u hu);have hlt:(Gb.aD (dR dg R)).lt (Gb.aA a (ag R u)) s:=by rw[<-ha];exact hlt
    show Gb.dl v (Gb.aA a (ag R u))=0;unfold Gb.dl;rw[LH];intro e;rw[e] at hlt;rcases hv with rfl|hv
    .exact(Gb.aD (dR dg R)).irr _ hlt
    .exact(Gb.aD (dR dg R)).irr _ ((Gb.aD (dR dg R)).trans hlt hv)
   rw[e1];omega
  refine⟨λv=>aF R (λu=>Gb.dl v (Gb.aA a u)) (x.L::x.r),⟨rp.filter λr=>@decide (nM N r.2.1) (Classical.propDecidable _),λr hr=>?_,λv hv=>?_⟩,hs,?_,λv hv hlt=>?_⟩
  .obtain⟨h1,h2⟩:=LR.1 hr;have h3:=r1 r h1;refine⟨jv h3.1,by simpa using h2,?_⟩;have h4:aL dg R (Gb.aA r.2.1 _)=t:=h3.2;rw[jW] at h4;exact h4
  .have hvT:=(hT v).1 hv;have key:∀l:Gb.Rp Gb.Mo,(∀r∈l,r.2.2<vs.length)->Gb.ev (au p dg R vs) (Gb.dl v) (l.filter λr=>@decide (nM N r.2.1) (Classical.propDecidable _))=Gb.ev (au p dg R vs) (Gb.dl v) l:=by
    intro l;induction l with
    |nil=>exact λ_=>rfl
    |cons r l ih=>
     intro hl;have ih:=ih λy hy=>hl y (by simp[hy]);by_cases hn:nM N r.2.1
     .rw[List.filter_cons_of_pos (by simpa using hn)];simp only[Gb.ev];rw[ih]
     .rw[List.filter_cons_of_neg (by simpa using hn),ih];simp only[Gb.ev];rw[Gb.iY (φ:=λs=>Gb.dl v ((Gb.aD (dR dg R)).act r.2.1 s)) λy hy=>?_]
      .simp
      .show Gb.dl v (Gb.aA r.2.1 y.2)=0;unfold Gb.dl;rw[LH];intro e;exact hn (sN.1 (by rw[e];exact hvT.2.2)).1
   rw[key rp λr hr=>jv (r1 r hr).1];exact r2 (Gb.dl v)
  .show¬p∣aF R (λu=>Gb.dl s (Gb.aA a u)) (x.L::x.r);rw[htop s (L0 rfl)];unfold Gb.dl;rw[LI rfl];exact sG hx.pr
  .show p∣aF R (λu=>Gb.dl v (Gb.aA a u)) (x.L::x.r);rw[htop v (L3 hlt)];unfold Gb.dl;rw[LH]
   .exact⟨0,by simp⟩
   .rintro rfl;exact(Gb.aD (dR dg R)).irr _ hlt
theorem DC{τ M:Type}{S:Gb.bY τ M}{p:Int}(G:Gb.aV S p)(φ:τ->Int)(r:Int×M×Nat)(rp:Gb.Rp M):Gb.ev G φ (r::rp)=r.1*Gb.ev G φ [(1,r.2)]+Gb.ev G φ rp:=by simp[Gb.ev]
theorem pT{p:Int}{dg:Nat->Int}{R:Nat}(G:Gb.aV (Gb.aD (dR dg R)) p)(N n t:Nat)(T:List Gb.Te):Cn.gC p T (ol G N n t T) where
 zero:=⟨[],λr hr=>by simp at hr,λs _=>⟨0,by simp[Gb.ev]⟩⟩
 add:=fun {f g} ⟨a,a1,a2⟩ ⟨b,b1,b2⟩=>⟨a++b,λr hr=>(Lv.1 hr).elim (a1 r) (b1 r),λs hs=>by
  obtain⟨x,hx⟩:=a2 s hs;obtain⟨y,hy⟩:=b2 s hs;rw[Gb.nR];refine⟨x+y,?_⟩;show f s+g s-_=_;rw[Int.mul_add];omega⟩
 mul:=λc {f} ⟨a,a1,a2⟩=>⟨Gb.dI c a,λr hr=>by
  obtain⟨r0,h0,rfl⟩:=LC.1 hr;exact a1 r0 h0,λs hs=>by
  obtain⟨x,hx⟩:=a2 s hs;rw[Gb.pu];exact⟨c*x,by rw[<-Int.mul_sub,hx,<-Int.mul_assoc,<-Int.mul_assoc,Int.mul_comm c p]⟩⟩
 con:=fun {f g} e ⟨a,a1,a2⟩=>⟨a,a1,λs hs=>by
  obtain⟨x,hx⟩:=a2 s hs;obtain⟨y,hy⟩:=e s hs;exact⟨x+y,by rw[Int.mul_add];omega⟩⟩
theorem pU{τ:Type}(p:Int)(T:List τ):Cn.gC p T λf:τ->Int=>∀t∈T,p∣f t where
 zero:=λ_ _=>⟨0,by simp⟩
 add:=λh k s hs=>Int.dvd_add (h s hs) (k s hs)
 mul:=λc f h s hs=>Int.dvd_mul_of_dvd_right (h s hs)
 con:=λe h s hs=>DB (e s hs) (h s hs)
theorem sO{τ:Type}(a:Nat->Int)(φ:Nat->τ->Int)(t:τ):∀n,Cn.sm (List.range n) a φ t=aq n λk=>a k*φ k t
 |0=>rfl
 |n+1=>by have ih:=sO a φ t n;unfold Cn.sm at ih⊢;rw[List.range_succ,LO,List.sum_append,ih];simp[aq]
theorem sP{τ:Type}{p:Int}{T:List τ}{V:(τ->Int)->Prop}(hV:Cn.gC p T V)(a:Nat->Int)(φ:Nat->τ->Int):∀n,(∀k,k<n->V (φ k))->V λt=>aq n λk=>a k*φ k t
 |0,_=>hV.zero
 |n+1,h=>hV.add (sP hV a φ n λk hk=>h k (by omega)) (hV.mul (a n) (h n (by omega)))
theorem xG{α:Type}:∀{T:List α},T.Nodup->∀{i j:Nat}(hi:i<T.length)(hj:j<T.length),T[i]=T[j]->i=j
 |x::T,hn,0,0,_,_,_=>rfl
 |x::T,hn,0,j+1,_,hj,e=>by
  have e2:x=T[j]'(by simpa using hj):=by simpa using e
  exact absurd (e2 ▸ Lo _) (List.nodup_cons.1 hn).1
 |x::T,hn,i+1,0,hi,_,e=>by
  have e2:T[i]'(by simpa using hi)=x:=by simpa using e
  exact absurd (e2 ▸ Lo _) (List.nodup_cons.1 hn).1
 |x::T,hn,i+1,j+1,hi,hj,e=>congrArg (·+1) (xG (T:=T) (List.nodup_cons.1 hn).2 (i:=i) (j:=j) (by simpa using hi) (by simpa using hj) (by simpa using e))
theorem xH{α:Type}(P:α->Bool):∀T:List α,(T.filter P).length+(T.filter λs=>!P s).length=T.length
 |[]=>rfl
 |x::T=>by have:=xH P T;cases h:P x<;>simp[List.filter_cons,h]<;>omega
theorem xI{T:List Gb.Te}(hn:T.Nodup){c:Nat}(hc:c<T.length):T.idxOf T[c]=c:=by have hm:T[c]∈T:=Lo hc;have hi:=List.idxOf_lt_length_of_mem hm;have he:T[T.idxOf T[c]]=T[c]:=List.getElem_idxOf hi;exact xG hn hi hc he
structure sQ{p:Int}{dg:Nat->Int}{R:Nat}(G:Gb.aV (Gb.aD (dR dg R)) p)(N n t:Nat)(T:List Gb.Te)(idx:List (Nat×Gb.Mo))(rows:List (List Int)):Prop where
 len:rows.length=idx.length
 is:∀k (h:k<idx.length),lF G N n t [(1,idx[k].2,idx[k].1)]
 all:∀i y,lF G N n t [(1,y,i)]->(i,y)∈idx
 at_:∀k (h:k<idx.length) j (hj:j<T.length),p∣Uf rows k j-Gb.ev G (Gb.dl T[j]) [(1,idx[k].2,idx[k].1)]
theorem DD{q:Nat}(hq2:2<=q)(hq:q<=101)(hqr:dH q q=true){dg:Nat->Int}{R N n t:Nat}{G:Gb.aV (Gb.aD (dR dg R)) (q:Int)}{T:List Gb.Te}(hT:T.Nodup){idx:List (Nat×Gb.Mo)}{rows:List (List Int)}(h:sQ G N n t T idx rows)(hr:∀r∈rows,cU q T.length r):Cn.bI (Cn.Ld (Cn.fG (dR dg R)) q T (ol G N n t T)) (lA q rows).length:=by
 have hI:=Dl (p:=q) (n:=T.length) hq2 hq hqr hr;have hp0:bm (q:Int)=0:=rE hq2 hq hqr;generalize lA (q:Int) rows=fs at hI⊢;have hst:=Cn.CP (Cn.fG (dR dg R)) (xq hp0) (sG hp0) T fs.length (λk s=>Vf fs k (T.idxOf s)) (λk=>T.getD (fs.getD k (0,[])).1 (0,0,0,0)) ?_ ?_ ?_
 .refine hst.congr λs=>Cn.rY (λf=>?_) s;rw[Cn.jt _ (pU (q:Int) T) List.nodup_range];have hback:∀k,k<fs.length->ol G N n t T λs=>Vf fs k (T.idxOf s):=λk hk=>by
   have hm:fs.getD k (0,[])∈fs:=by rw[Lr,Ls hk];exact Lo hk
   obtain⟨a,ha⟩:=hI.made _ hm;have hrow:∀i,i<rows.length->ol G N n t T λs=>Uf rows i (T.idxOf s):=λi hi=>by rw[h.len] at hi;refine⟨[(1,idx[i].2,idx[i].1)],h.is i hi,λs hs=>?_⟩;have hj:=List.idxOf_lt_length_of_mem hs;have:=h.at_ i hi _ hj;rw[List.getElem_idxOf hj] at this;exact this
   refine(pT G N n t T).con (λs hs=>?_) (sP (pT G N n t T) a (λi s=>Uf rows i (T.idxOf s)) rows.length hrow);exact ha _ (List.idxOf_lt_length_of_mem hs)
  constructor
  .rintro ⟨a,g,g1,g2⟩;refine(pT G N n t T).con (λs hs=>?_) (sP (pT G N n t T) a _ fs.length hback);obtain⟨x,hx⟩:=g1 s hs;obtain⟨y,hy⟩:=g2 s hs;rw[sO] at hy;exact⟨x+y,by rw[Int.mul_add];omega⟩
  .rintro ⟨rp,r1,r2⟩;have hS:=Cn.pD (ws:=(List.range fs.length).map λk s=>Vf fs k (T.idxOf s)) (pU (q:Int) T);have key:∀rp:Gb.Rp Gb.Mo,lF G N n t rp->Cn.eX (q:Int) T (λf=>∀s∈T,(q:Int)∣f s) ((List.range fs.length).map λk s=>Vf fs k (T.idxOf s)) λs=>Gb.ev G (Gb.dl s) rp:=by
    intro rp;induction rp with
    |nil=>exact λ_=>hS.con (λs hs=>⟨0,by simp[Gb.ev]⟩) hS.zero
    |cons r rp ih=>
     intro hr;have h1:Cn.eX (q:Int) T (λf=>∀s∈T,(q:Int)∣f s) ((List.range fs.length).map λk s=>Vf fs k (T.idxOf s)) λs=>Gb.ev G (Gb.dl s) [(1,r.2)]:=by
      have hmem:=h.all r.2.2 r.2.1 λy hy=>by rw[Lw] at hy;subst hy;exact hr r (by simp)
      obtain⟨k,hk,e⟩:=L8.1 hmem;have hkr:k<rows.length:=by rw[h.len];exact hk
      obtain⟨a,ha⟩:=hI.makes rows[k] (Lo hkr);rw[Cn.jt _ (pU (q:Int) T) List.nodup_range];refine⟨a,λ_=>0,λ_ _=>⟨0,by simp⟩,λs hs=>?_⟩;have hj:=List.idxOf_lt_length_of_mem hs;obtain⟨x,hx⟩:=ha _ hj;obtain⟨y,hy⟩:=h.at_ k hk _ hj;rw[List.getElem_idxOf hj,e] at hy;have e3:Uf rows k (T.idxOf s)=rows[k].getD (T.idxOf s) 0:=by unfold Uf;rw[Lr (l:=rows),Ls hkr];rfl
      rw[sO];rw[e3] at hy;refine⟨x-y,?_⟩;rw[Int.mul_sub];simp only[Prod.eta] at hy hx⊢;omega
     refine hS.con (λs hs=>⟨0,?_⟩) (hS.add (hS.mul r.1 h1) (ih λy hy=>hr y (by simp[hy])));rw[DC];simp
   rw[<-Cn.jt _ (pU (q:Int) T) List.nodup_range];exact hS.con r2 (key rp r1)
 .intro k hk;have hm:fs.getD k (0,[])∈fs:=by rw[Lr,Ls hk];exact Lo hk
  have hc:=(hI.piv _ hm).1;rw[Lr (l:=T),Ls hc];exact Lo hc
 .intro k hk;have hm:fs.getD k (0,[])∈fs:=by rw[Lr,Ls hk];exact Lo hk
  have hc:=(hI.piv _ hm).1;rw[Lr (l:=T),Ls hc,Option.getD_some,xI hT hc];exact xg fs k hI.stair hk
 .intro j k hjk hk;have hm:fs.getD j (0,[])∈fs:=by rw[Lr,Ls (by omega)];exact Lo _
  have hc:=(hI.piv _ hm).1;rw[Lr (l:=T),Ls hc,Option.getD_some,xI hT hc];exact xh fs j k hI.stair hjk hk
theorem DE{q:Nat}(hq2:2<=q)(hq:q<=101)(hqr:dH q q=true){dg:Nat->Int}{N R:Nat}(hx:aP q dg N R){vs:List (List Ft)}{ms:List Mm}{E:Nat->Nat->Prop}{D:Int}(h:Cp q dg N R vs ms [] E D)(hE:dF q dg R ms E){t:Nat}{T:List Gb.Te}(hT:∀s,s∈T↔s.1<R/\aL dg R s=t/\nT N s)(hnd:T.Nodup){idx:List (Nat×Gb.Mo)}{rows:List (List Int)}(hw:sQ (au q dg R vs) N vs.length t T idx rows)(hr:∀r∈rows,cU q T.length r)(P:Gb.Te->Bool)(hP:∀s,P s=true↔¬∃x∈ms,Gb.aW.dv (ag R x.L) s):(T.filter P).length+(lA q rows).length=T.length:=by
 have h1:Cn.bI (λs=>s∈T/\∃x∈ms,Gb.aW.dv (ag R x.L) s) (lA q rows).length:=(DD hq2 hq hqr hnd hw hr).congr λs=>h.leads hx hE hT s;have h2:Cn.bI (λs=>s∈T/\∃x∈ms,Gb.aW.dv (ag R x.L) s) (T.filter λs=>!P s).length:=⟨_,hnd.filter _,λs=>by
  rw[LR,Bool.not_eq_true',<-Bool.not_eq_true,hP,Classical.not_not],rfl⟩
 rw[h1.uniq h2];exact xH P T
end Go.Proofs.YteimdcndjjclnaaGreat
namespace Go.Proofs.YteimdcndjjclnaaGreat
set_option linter.all false
open Go.Proofs.Tryz Go.RowKit
def gI(dg:Nat->Int)(N:Nat)(q:Pq)(pl:Int):Ft:=⟨kK dg pl (aE N ⟨0,q.a,q.b,q.d,0,pl,1⟩),q.a,q.b,q.d,0,pl,1⟩
theorem dM.gdG{dg:Nat->Int}{N R:Nat}{D1 D2:Int}{x y:Ft}{q:Pq}(h:dM x y q)(gx:aM dg N R D1 x)(gy:aM dg N R D2 y):aM dg N R (q.a+q.b+q.d+dg x.pl.toNat) (gI dg N q x.pl):=by
 have h1:=h.a;have h2:=h.b;have h3:=h.d;unfold dA at h1;unfold dB at h2;unfold dC at h3;have x1:=gx.a;have x2:=gx.b;have x3:=gx.d;have y1:=gy.a;have y2:=gy.b;have y3:=gy.d;refine⟨rfl,?_,?_,?_,rfl,rfl,gx.pl0,gx.pl,λh=>?_,λh=>?_⟩
 .show 0<=q.a;omega
 .show 0<=q.b;omega
 .show 0<=q.d;omega
 .show q.b=0;have:=gx.n1 h;have:=gy.n1 h;omega
 .show q.d=0;have:=gx.n2 h;have:=gy.n2 h;omega
theorem dM.btbG{p:Int}{dg:Nat->Int}{N R:Nat}(hx:aP p dg N R){D1 D2:Int}{x y:Ft}{q:Pq}(h:dM x y q)(gx:aM dg N R D1 x)(gy:aM dg N R D2 y)(h1:D1<=901)(h2:D2<=901):mD q x/\mD q y/\q.a+q.b+q.d<=2703:=by have h1:=h.a;have h2:=h.b;have h3:=h.d;have h4:=h.z;unfold dA at h1;unfold dB at h2;unfold dC at h3;unfold dD at h4;have x1:=gx.a;have x2:=gx.b;have x3:=gx.d;have x4:=gx.bd hx;have x5:=gx.z;have y1:=gy.a;have y2:=gy.b;have y3:=gy.d;have y4:=gy.bd hx;have y5:=gy.z;exact⟨⟨by omega,by omega,by omega,by omega⟩,⟨by omega,by omega,by omega,by omega⟩,by omega⟩
theorem dM.byxG{p:Int}{dg:Nat->Int}{N R:Nat}(hx:aP p dg N R){D1 D2:Int}{x y:Ft}{q:Pq}{c:Int}(h:dM x y q)(gx:aM dg N R D1 x)(gy:aM dg N R D2 y)(h1:D1<=901)(h2:D2<=901):i7 N (gI dg N q x.pl) x (bi q x c)/\i7 N (gI dg N q x.pl) y (bi q y c):=by
 obtain⟨b1,b2,_⟩:=h.btbG hx gx gy h1 h2;have hz:q.z=0:=by have h4:=h.z;unfold dD at h4;have:=gx.z;have:=gy.z;omega
 have x5:=gx.z;have y5:=gy.z;have gP:=h.gdG gx gy;constructor
 .refine pV gP gx ?_ rfl rfl rfl (by show q.z-x.z=0-x.z;omega);have h1:=b1.a;have h2:=b1.b;have h3:=b1.d;unfold dZ fI gI;simp only[Bool.and_eq_true,decide_eq_true_eq];exact⟨trivial,⟨⟨by omega,by omega⟩,by omega⟩,by omega⟩
 .refine pV gP gy ?_ rfl rfl rfl (by show q.z-y.z=0-y.z;omega);have h1:=b2.a;have h2:=b2.b;have h3:=b2.d;unfold dZ fI gI;simp only[Bool.and_eq_true,decide_eq_true_eq];exact⟨h.pl.symm,⟨⟨by omega,by omega⟩,by omega⟩,by omega⟩
theorem DF{dg:Nat->Int}{N R:Nat}{x y:Ft}{q:Pq}(h:dM x y q)(lx:dL R x)(ly:dL R y):ag R (gI dg N q x.pl)=Gb.aW.lc (ag R x) (ag R y):=by rw[h.lc lx ly];rfl
structure PL{p:Int}{dg:Nat->Int}{R:Nat}(G:Gb.aV (Gb.aD (dR dg R)) p)(N:Nat)(D:Int)(A:Gb.Te->Prop)(X:Gb.Fn Gb.Te)(K:Int)(ms:List Mm)(acc:List Ft):Prop where
 vc:cP p dg N R D acc
 no:∀t∈acc,gO ms t=none
 lt:∀t∈acc,t.k<K
 vb:Gb.Vb G (λs=>A s/\aL dg R s=D.toNat) λφ=>X φ-aF R φ acc
theorem Cp.to_vs{p:Int}{dg:Nat->Int}{N R:Nat}(hx:aP p dg N R){vs:List (List Ft)}{ms:List Mm}{qs:List Pq}{E:Nat->Nat->Prop}{T:Int}(h:Cp p dg N R vs ms qs E T){D:Nat}{X:Gb.Fn Gb.Te}(hv:Gb.Vb (au p dg R (fm ms)) (λs=>aL dg R s=D) X):Gb.Vb (au p dg R vs) (λs=>aL dg R s=D) X:=by
 refine pP (λi hi=>?_) hv;have hi:=jv hi;rw[iE] at hi;obtain⟨D2,_,_,h3⟩:=h.mb ms[i] (Lo hi);have h4:=h.mx ms[i] (Lo hi) D2 h3;have e1:(au p dg R (fm ms)).ld i=ag R ms[i].L:=by rw[gH,ce hi]
 have e2:(au p dg R (fm ms)).g i=cV R (ms[i].L::ms[i].r):=by show cV R _=_;rw[dw (mz hi)]
 rw[e1,e2,((h3.gd _ (by simp)).ts hx).1];exact h4
theorem xJ{p:Int}{dg:Nat->Int}{R:Nat}{G:Gb.aV (Gb.aD (dR dg R)) p}{i:Nat}{a:Gb.Mo}(hi:G.live i){D:Nat}(hD:aL dg R (Gb.aA a (G.ld i))=D):Gb.Vb G (λs=>aL dg R s=D) (Gb.Hm G i a):=
 ⟨[(G.iv i,a,i)],λr hr=>by rw[Lw] at hr;rw[hr];exact⟨hi,hD⟩,λφ=>⟨0,by unfold Gb.Hm;simp only[Gb.ev];omega⟩⟩
theorem xK{p:Int}{dg:Nat->Int}{N R:Nat}(hx:aP p dg N R){D:Int}{t:Ft}{ts:List Ft}(hv:cP p dg N R D (t::ts))(φ:Gb.Te->Int):p∣aF R φ (t::ts)-t.c*aF R φ (dz p (aN p t.c) t::ts.map (dz p (aN p t.c))):=by
 obtain⟨z,hz⟩:=pR (p:=p) (i:=aN p t.c) (R:=R) φ (t::ts);obtain⟨y,hy⟩:=pO hx.pr (hv.co t (by simp));rw[List.map_cons] at hz;generalize aF R φ (dz p (aN p t.c) t::ts.map (dz p (aN p t.c)))=A at*;generalize aF R φ (t::ts)=B at*;generalize aN p t.c=i at*;have e:A=i*B+p*z:=by omega
 have e2:t.c*i=1+p*y:=by omega
 refine⟨-(y*B)-t.c*z,?_⟩;rw[e];have e3:t.c*(i*B+p*z)=(t.c*i)*B+t.c*(p*z):=by grind
 rw[e3,e2];grind
theorem xL{p:Int}{dg:Nat->Int}{N R:Nat}(hx:aP p dg N R){D:Int}(hD:D<=16000){ms:List Mm}{f:Mm}(hf:iD p dg N R D f.L f.r){A:Gb.Te->Prop}(hA:A (ag R f.L))(c:Int):Gb.Vb (au p dg R (fm (ms++[f]))) (λs=>A s/\aL dg R s=D.toNat) λφ=>c*aF R φ (f.L::f.r):=by
 have hl:(fm (ms++[f]))[ms.length]?=some (f.L::f.r):=by rw[oj,LW (by rw[iE];exact Lc _),iE];simp
 have hlive:=oe hx hD hl hf.vch;have eld:(au p dg R (fm (ms++[f]))).ld ms.length=ag R f.L:=by show gF R _=_;rw[dw hl];rfl
 have eg:(au p dg R (fm (ms++[f]))).g ms.length=cV R (f.L::f.r):=by show cV R _=_;rw[dw hl]
 have ez:∀s:Gb.Te,Gb.aA (0,0,0) s=s:=λs=>rfl;refine⟨[(c,(0,0,0),ms.length)],λr hr=>?_,λφ=>⟨0,?_⟩⟩
 .rw[Lw] at hr;rw[hr];refine⟨hlive,?_⟩;show A (Gb.aA (0,0,0) _)/\aL dg R (Gb.aA (0,0,0) _)=_;rw[ez,eld];exact⟨hA,((hf.gd f.L (by simp)).ts hx).1⟩
 .simp only[Gb.ev];rw[eg];have e:Gb.ln (λt=>φ ((Gb.aD (dR dg R)).act (0,0,0) t)) (cV R (f.L::f.r))=aF R φ (f.L::f.r):=rfl;rw[e];omega
theorem DG{p:Int}{dg:Nat->Int}{N R:Nat}{ms:List Mm}{E:Nat->Nat->Prop}(hE:dF p dg R ms E){i j:Nat}(hi:i<ms.length)(hj:j<ms.length){D K:Int}{P:Ft}{a b:Gb.Mo}(e1:Gb.aA a (bZ R ms i)=ag R P)(e2:Gb.aA b (bZ R ms j)=ag R P)(e3:ag R P=Gb.aW.lc (bZ R ms i) (bZ R ms j))(hl:PL (au p dg R (fm ms)) N D (λs=>(Gb.aD (dR dg R)).lt s (ag R P)) (λφ=>Gb.Hm (au p dg R (fm ms)) i a φ-Gb.Hm (au p dg R (fm ms)) j b φ) K ms []):dF p dg R ms (λx y=>E x y\/(x=i/\y=j)):=by
 rintro x y (h|⟨rfl,rfl⟩)
 .exact hE x y h
 .refine⟨hi,hj,a,b,by rw[e1,e3],by rw[e2,e3],?_⟩;unfold Gb.Rl;have e4:(Gb.aD (dR dg R)).act a ((au p dg R (fm ms)).ld x)=ag R P:=by rw[gH];exact e1
  rw[e4];exact(hl.vb.mono λs hs=>hs.1).congr λφ=>⟨0,by rw[kH];omega⟩
theorem DH{p:Int}{dg:Nat->Int}{N R:Nat}(hx:aP p dg N R){vs:List (List Ft)}{ms:List Mm}{qs qs2 srt:List Pq}{E:Nat->Nat->Prop}{T D k0 k1 k2:Int}(h:Cp p dg N R vs ms qs E T)(hE:dF p dg R ms E)(hq:∀q∈qs,D<=q.dg){i j:Nat}(hi:i<ms.length)(hj:j<ms.length)(h2:Cp p dg N R vs ms qs2 (λx y=>E x y\/(x=i/\y=j)) D){P:Ft}(hD:D<=16000)(gP:aM dg N R D P){a b:Gb.Mo}(e1:Gb.aA a (bZ R ms i)=ag R P)(e2:Gb.aA b (bZ R ms j)=ag R P)(e3:ag R P=Gb.aW.lc (bZ R ms i) (bZ R ms j)){t:Ft}{ts:List Ft}(hl:PL (au p dg R (fm ms)) N D (λs=>(Gb.aD (dR dg R)).lt s (ag R P)) (λφ=>Gb.Hm (au p dg R (fm ms)) i a φ-Gb.Hm (au p dg R (fm ms)) j b φ) P.k ms (t::ts)){f:Mm}(f1:f.L=dz p (aN p t.c) t)(f2:f.r=ts.map (dz p (aN p t.c)))(hg:f.gone=false)(hne:∀x∈ms,x.blk≠f.blk)(hs:srt.Perm ((gQ ms f.L.pl.toNat).map λx=>cW k0 k1 k2 dg x f)):ms.map (bo f.L)=ms/\Cp p dg N R vs (ms++[f]) (qs2.filter (λq=>!eC ms f.L q)++bh [] srt) (λx y=>E x y\/(x=i/\y=j)) D/\dF p dg R (ms++[f]) (λx y=>E x y\/(x=i/\y=j)):=by
 have hlive:=(pQ hx (by omega) h.msh).live;have li:=hlive i (by rw[iE];exact hi);have lj:=hlive j (by rw[iE];exact hj);have hP:=(gP.ts hx).1;have d1:aL dg R (Gb.aA a ((au p dg R (fm ms)).ld i))=D.toNat:=by rw[gH,e1,hP]
 have d2:aL dg R (Gb.aA b ((au p dg R (fm ms)).ld j))=D.toNat:=by rw[gH,e2,hP]
 have hm:Gb.Vb (au p dg R (fm ms)) (λs=>aL dg R s=D.toNat) λφ=>aF R φ (t::ts):=
  (Gb.Vb.add (Gb.Vb.add (xJ li d1) (Gb.Vb.scl (-1) (xJ lj d2))) (Gb.Vb.scl (-1) (hl.vb.mono λs hs=>hs.2))).congr λφ=>⟨0,by omega⟩
 have hsm:=h.small hx hE hD hq hl.vc hm (hl.no t (by simp));have hmb:=xt hx hl.vc;have hf:iD p dg N R D f.L f.r:=by rw[f1,f2];exact hmb
 have lt:=(hl.vc.gd t (by simp)).ldb;have ete:ag R f.L=ag R t:=by rw[f1];rfl
 have hno:∀x∈ms,¬Gb.aW.dv (ag R x.L) (ag R f.L):=λx hxm=>by rw[ete];exact h.no_dv lt (hl.no t (by simp)) x hxm
 have hmx:Gb.Vb (au p dg R (vs++[])) (λs=>aL dg R s=D.toNat) λφ=>aF R φ (f.L::f.r):=by rw[List.append_nil];refine(Gb.Vb.scl (aN p t.c) (h.to_vs hx hm)).congr λφ=>?_;have:=pR (p:=p) (i:=aN p t.c) (R:=R) φ (t::ts);rw[f1,f2];exact this
 obtain⟨hgo,hcp⟩:=h2.add hx (us:=[]) hsm hf hg hne hs hno (λv hv=>by simp at hv) hmx (λv hv=>by simp at hv);rw[List.append_nil] at hcp;refine⟨hgo,hcp,?_⟩;rintro x y (h3|⟨rfl,rfl⟩)
 .exact dF.ext hx h hE f x y h3
 .have e:∀k,k<ms.length->bZ R (ms++[f]) k=bZ R ms k:=λk hk=>by rw[ce hk,ce (by simp;omega),List.getElem_append_left hk]
  refine⟨by simp;omega,by simp;omega,a,b,by rw[e x hi,e y hj,e1,e3],by rw[e x hi,e y hj,e2,e3],?_⟩;have hex:=lD p dg R (fm ms) [f.L::f.r];rw[<-oj] at hex;unfold Gb.Rl;have e4:(Gb.aD (dR dg R)).act a ((au p dg R (fm (ms++[f]))).ld x)=ag R P:=by rw[gH,e x hi];exact e1
  rw[e4];have hA:(Gb.aD (dR dg R)).lt (ag R f.L) (ag R P):=by rw[ete];exact mw hx hD (hl.vc.gd t (by simp)) gP (hl.lt t (by simp))
  refine((Gb.Vb.add (lE hex hl.vb) (xL hx hD hf (A:=λs=>(Gb.aD (dR dg R)).lt s (ag R P)) hA t.c)).mono λs hs=>hs.1).congr λφ=>?_;obtain⟨z,hz⟩:=xK hx hl.vc φ;rw[<-f1,<-f2] at hz;refine⟨z,?_⟩;have q1:Gb.Hm (au p dg R (fm (ms++[f]))) x a φ=Gb.Hm (au p dg R (fm ms)) x a φ:=by unfold Gb.Hm;rw[hex.g _ li,hex.iv _ li]
  have q2:Gb.Hm (au p dg R (fm (ms++[f]))) y b φ=Gb.Hm (au p dg R (fm ms)) y b φ:=by unfold Gb.Hm;rw[hex.g _ lj,hex.iv _ lj]
  rw[q1,q2];omega
theorem DI{p:Int}{dg:Nat->Int}{N R:Nat}{vs:List (List Ft)}{ms:List Mm}{qs:List Pq}{E:Nat->Nat->Prop}{T D K:Int}{v:List Ft}(h:Cp p dg N R vs ms qs E T)(hD:D<=9)(hv:cP p dg N R D v)(hne:v≠[])(hl:PL (au p dg R (fm ms)) N D (λ_=>True) (λφ=>aF R φ v) K ms []):Cp p dg N R (vs++[v]) ms qs E T:=
 h.putv hD hv hne ((hl.vb.mono λs hs=>hs.2).congr λφ=>⟨0,by rw[kH];omega⟩)
theorem DJ{p:Int}{dg:Nat->Int}{N R:Nat}(hx:aP p dg N R){vs:List (List Ft)}{ms:List Mm}{qs srt:List Pq}{E:Nat->Nat->Prop}{D K k0 k1 k2:Int}{v:List Ft}(h:Cp p dg N R vs ms qs E D)(hE:dF p dg R ms E)(hD:D<=9)(hv:cP p dg N R D v)(hnv:v≠[]){t:Ft}{ts:List Ft}(hl:PL (au p dg R (fm ms)) N D (λ_=>True) (λφ=>aF R φ v) K ms (t::ts)){f:Mm}(f1:f.L=dz p (aN p t.c) t)(f2:f.r=ts.map (dz p (aN p t.c)))(hg:f.gone=false)(hne:∀x∈ms,x.blk≠f.blk)(hs:srt.Perm ((gQ ms f.L.pl.toNat).map λx=>cW k0 k1 k2 dg x f)):ms.map (bo f.L)=ms/\Cp p dg N R (vs++[v]) (ms++[f]) (qs.filter (λq=>!eC ms f.L q)++bh [] srt) E D/\dF p dg R (ms++[f]) E:=by
 have hmb:=xt hx hl.vc;have hf:iD p dg N R D f.L f.r:=by rw[f1,f2];exact hmb
 have lt:=(hl.vc.gd t (by simp)).ldb;have ete:ag R f.L=ag R t:=by rw[f1];rfl
 have hno:∀x∈ms,¬Gb.aW.dv (ag R x.L) (ag R f.L):=λx hxm=>by rw[ete];exact h.no_dv lt (hl.no t (by simp)) x hxm
 have hlv:(vs++[v])[vs.length]?=some v:=by simp
 have hvv:Gb.Vb (au p dg R (vs++[v])) (λs=>aL dg R s=D.toNat) λφ=>aF R φ v:=by
  cases v with
  |nil=>exact absurd rfl hnv
  |cons u us=>
   have hlive:=oe hx (by omega) hlv hv;have eld:(au p dg R (vs++[u::us])).ld vs.length=ag R u:=by show gF R _=_;rw[dw hlv];rfl
   have eg:(au p dg R (vs++[u::us])).g vs.length=cV R (u::us):=by show cV R _=_;rw[dw hlv]
   refine⟨[(1,(0,0,0),vs.length)],λr hr=>?_,λφ=>⟨0,?_⟩⟩
   .rw[Lw] at hr;rw[hr];refine⟨hlive,?_⟩;show aL dg R (Gb.aA (0,0,0) _)=_;have ez:∀s:Gb.Te,Gb.aA (0,0,0) s=s:=λs=>rfl;rw[ez,eld];exact((hv.gd u (by simp)).ts hx).1
   .simp only[Gb.ev];rw[eg];have e:Gb.ln (λt=>φ ((Gb.aD (dR dg R)).act (0,0,0) t)) (cV R (u::us))=aF R φ (u::us):=rfl;rw[e];omega
 have hmx:Gb.Vb (au p dg R (vs++[v])) (λs=>aL dg R s=D.toNat) λφ=>aF R φ (f.L::f.r):=by
  have h1:=lE (lD p dg R vs [v]) (h.to_vs hx (hl.vb.mono λs hs=>hs.2));refine(Gb.Vb.scl (aN p t.c) (Gb.Vb.add hvv (Gb.Vb.scl (-1) h1))).congr λφ=>?_;obtain⟨z,hz⟩:=pR (p:=p) (i:=aN p t.c) (R:=R) φ (t::ts);rw[f1,f2];refine⟨z,?_⟩;rw[<-hz,List.map_cons];have e:aF R φ v+-1*(aF R φ v-aF R φ (t::ts))=aF R φ (t::ts):=by omega
  rw[e]
 have hex:=lD p dg R (fm ms) [f.L::f.r];rw[<-oj] at hex;obtain⟨hgo,hcp⟩:=h.add hx (us:=[v]) (by omega) hf hg hne hs hno (λu hu=>by rw[Lw] at hu;subst hu;exact⟨D,hD,hnv,hv⟩) hmx (λu hu D2 hD2=>by
  rw[Lw] at hu;subst hu;have e:D2=D:=by
   cases u with
   |nil=>exact absurd rfl hnv
   |cons a xs=>exact hD2.deg hv
  rw[e];refine((Gb.Vb.add (lE hex hl.vb) (xL hx (by omega) hf (A:=λ_=>True) trivial t.c)).mono λs hs=>hs.2).congr λφ=>?_;obtain⟨z,hz⟩:=xK hx hl.vc φ;rw[<-f1,<-f2] at hz;exact⟨z,by omega⟩)
 exact⟨hgo,hcp,dF.ext hx h hE f⟩
end Go.Proofs.YteimdcndjjclnaaGreat
