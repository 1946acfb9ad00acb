/- A completion of what is. -/
import Derived.Test.YtjkalahhpobefaaGreatKZ
set_option maxHeartbeats 1000000
namespace Go.Proofs.YtjkalahhpobefaaGreat
set_option linter.all false
open Go.Proofs.Tryz Go.RowKit
variable{E:Nat->Nat->Prop}{dg:Nat->Int}{k0 k1 k2:Int}{f:Mm}{qs srt:OM}{ms:OK}{R:Nat}
theorem Fa(hinv:Gb.iB C4.bT (cH ms) ms.length (λi j=>kQ ms qs i j\/E i j) (mW ms))(hnd:(ms.map Mm.blk).Nodup)(hld0:∀x∈ms,eF R x.L)(hpr0:∀q∈qs,∃x y,x∈ms/\y∈ms/\q.b1=x.blk/\q.b2=y.blk/\dp x.L y.L q)(hf:eF R f.L)(hg:f.gone=false)(hne:∀x∈ms,x.blk≠f.blk)(hs:srt.Perm ((ie ms f.L.pl.toNat).map λx=>dq k0 k1 k2 dg x f)):Gb.iB C4.bT (cH (ms.map (aV f.L)++[f])) (ms.length+1) (λi j=>kQ (ms.map (aV f.L)++[f]) (qs.filter (λq=>!fK ms f.L q)++bQ [] srt) i j\/E i j) (mW (ms.map (aV f.L)++[f])):=by
 have hlen:(ms.map (aV f.L)++[f]).length=ms.length+1:=by simp
 have hlt:∀i (hi:i<ms.length) (hi2:i<(ms.map (aV f.L)++[f]).length),(ms.map (aV f.L)++[f])[i]=aV f.L ms[i]:=λi hi hi2=>by rw[List.getElem_append_left (by simpa using hi),List.getElem_map]
 have hla:∀(hi2:ms.length<(ms.map (aV f.L)++[f]).length),(ms.map (aV f.L)++[f])[ms.length]=f:=λhi2=>by rw[List.getElem_append_right (by simp)];simp
 have hld:∀i,i<ms.length->cH (ms.map (aV f.L)++[f]) i=cH ms i:=λi hi=>by rw[dM hi,dM (by omega),hlt i hi (by omega),(cP f.L _).1]
 have hln:cH (ms.map (aV f.L)++[f]) ms.length=ah f.L:=by rw[dM (by omega),hla (by omega)]
 have hal:∀q∈srt,∃(i:Nat)(hi:i<ms.length),ms[i].L.pl=f.L.pl/\ms[i].gone=false/\q=dq k0 k1 k2 dg ms[i] f:=λq hq=>by
  obtain⟨x,hx,e⟩:=N9.1 (hs.mem_iff.1 hq);have hx2:=Om.1 hx;have hx3:=Om.1 hx2.1;obtain⟨i,hi,e2⟩:=OC.1 hx3.1;have hp:=hf.pl;refine⟨i,hi,?_,?_,by rw[e2];exact e.symm⟩
  .rw[e2];have:=hx3.2;simp only[decide_eq_true_eq] at this;omega
  .rw[e2];simpa using hx2.2
 have hmem:∀q,q∈bQ [] srt->q∈srt:=λq hq=>(oQ srt [] q hq).elim (λh=>by simp at h) id;have hpr:∀(i:Nat)(hi:i<ms.length),ms[i].L.pl=f.L.pl->dp ms[i].L f.L (dq k0 k1 k2 dg ms[i] f):=λi hi e=>⟨e,rfl,rfl,rfl,rfl⟩;have inj:∀(i j:Nat)(hi:i<ms.length)(hj:j<ms.length),ms[i].blk=ms[j].blk->i=j:=λi j hi hj e=>by
  have h1:(ms.map Mm.blk)[i]'(by simpa using hi)=(ms.map Mm.blk)[j]'(by simpa using hj):=by simp[e]
  exact(List.getElem_inj hnd).1 h1
 have blk':∀i (hi2:i<(ms.map (aV f.L)++[f]).length),(∃hi:i<ms.length,(ms.map (aV f.L)++[f])[i].blk=ms[i].blk)\/(i=ms.length/\(ms.map (aV f.L)++[f])[i].blk=f.blk):=λi hi2=>by
  by_cases hi:i<ms.length
  .exact Ox ⟨hi,by rw[hlt i hi hi2,(cP f.L _).2.1]⟩
  .have e:i=ms.length:=by omega
   subst e;exact Oy ⟨rfl,by rw[hla hi2]⟩
 have h0:Gb.iB C4.bT (cH (ms.map (aV f.L)++[f])) ms.length (λi j=>kQ ms qs i j\/E i j) (mW ms):=zf hinv hld (λ_ _=>Iff.rfl) λ_ _=>Iff.rfl;refine h0.step (kept:=λi=>∃(hi:i<ms.length),∃q∈bQ [] srt,q.b1=ms[i].blk) (λx hx=>hx.1) (λx t hx hgx d1 d2=>?_) (λi j hp=>?_) (λi hi=>?_) (λi j hp=>?_) (λx=>?_)
 .rw[hld x hx,dM hx] at d1;rw[hln] at d2;have lx:=hld0 ms[x] (NV hx);have hpl:ms[x].L.pl=f.L.pl:=by have e1:(ah ms[x].L).1=(ah f.L).1:=d1.1.trans d2.1.symm;have p1:=lx.pl;have p2:=hf.pl;unfold ah at e1;simp only at e1;omega
  have hgx2:ms[x].gone=false:=by
   cases e:ms[x].gone with
   |true=>exact absurd ⟨hx,e⟩ hgx
   |false=>rfl
  have hin:dq k0 k1 k2 dg ms[x] f∈srt:=by refine hs.mem_iff.2 (N9.2 ⟨ms[x],Om.2 ⟨Om.2 ⟨NV hx,?_⟩,by simp[hgx2]⟩,rfl⟩);have p2:=hf.pl;simp only[decide_eq_true_eq];omega
  rcases qG srt [] _ hin with h1|⟨q,hq,h1⟩
  .exact Ox ⟨hx,_,h1,rfl⟩
  .obtain⟨y,hy,ypl,ygo,rfl⟩:=hal q (hmem q hq);have ly:=hld0 ms[y] (NV hy);have hlc:C4.bT.dv (C4.bT.lc (ah ms[y].L) (ah f.L)) (C4.bT.lc (ah ms[x].L) (ah f.L)):=by rw[oR ly hf,oR lx hf,ypl,hpl];unfold jL eM at h1;simp only[Bool.and_eq_true,decide_eq_true_eq] at h1;obtain⟨⟨⟨a1,a2⟩,a3⟩,a4⟩:=h1;exact⟨rfl,Int.toNat_le_toNat a1,Int.toNat_le_toNat a2,Int.toNat_le_toNat a3,Int.toNat_le_toNat a4⟩
   refine Oy ⟨y,⟨hy,_,hq,rfl⟩,?_,?_⟩
   .rw[hld y hy,dM hy];exact C4.bT.trans (Fb _ (ah f.L)) (C4.bT.trans hlc (C4.bT.lci d1 d2))
   .rw[hld y hy,dM hy,hln,hld x hx,dM hx];exact hlc
 .rcases Or.symm hp with hp|hp
  .exact Ox (Oy hp)
  obtain⟨hi2,hj2,q,hq,e1,e2⟩:=hp;rcases N1.1 hq with hq|hq
  .have hq2:=(Om.1 hq).1;obtain⟨x,y,hx,hy,f1,f2,_⟩:=hpr0 q hq2;rcases blk' i hi2 with ⟨hi,b1⟩|⟨_,b1⟩
   .rcases blk' j hj2 with ⟨hj,b2⟩|⟨_,b2⟩
    .exact Ox (Ox ⟨hi,hj,q,hq2,by rw[e1,b1],by rw[e2,b2]⟩)
    .exact absurd (f2.symm.trans (e2.trans b2)) (hne y hy)
   .exact absurd (f1.symm.trans (e1.trans b1)) (hne x hx)
  .obtain⟨x,hx,_,_,rfl⟩:=hal q (hmem q hq);rcases blk' i hi2 with ⟨hi,b1⟩|⟨_,b1⟩
   .rcases blk' j hj2 with ⟨hj,b2⟩|⟨ej,b2⟩
    .exact absurd (e2.trans b2).symm (hne ms[j] (NV hj))
    .exact Oy ⟨ej,hi,_,hq,by rw[e1,b1]⟩
   .exact absurd (e1.trans b1) (hne ms[x] (NV hx))
 .obtain⟨hi2,q,hq,e⟩:=hi;obtain⟨x,hx,_,_,rfl⟩:=hal q (hmem q hq);refine Ox ⟨by omega,by omega,_,N1.2 (Oy hq),?_,?_⟩
  .rw[e,hlt i hi2 (by omega),(cP f.L _).2.1]
  .rw[hla (by omega)];rfl
 .rcases Or.symm hp with hp|hp
  .exact Ox (Oy hp)
  obtain⟨hi,hj,q,hq,e1,e2⟩:=hp;cases ht:fK ms f.L q with
  |false=>
   refine Ox (Ox ⟨by omega,by omega,q,N1.2 (Ox (Om.2 ⟨hq,by simp[ht]⟩)),?_,?_⟩)
   .rw[e1,hlt i hi (by omega),(cP f.L _).2.1]
   .rw[e2,hlt j hj (by omega),(cP f.L _).2.1]
  |true=>obtain⟨x,y,hx,hy,f1,f2,hp2⟩:=hpr0 q hq;have ex:x=ms[i]:=km hnd hx (NV hi) (f1.symm.trans e1);have ey:y=ms[j]:=km hnd hy (NV hj) (f2.symm.trans e2);subst ex ey;unfold fK at ht;rw[f1,f2,mX hnd hx,mX hnd hy] at ht;refine Oy ?_;rw[hld i hi,hld j hj,dM hi,dM hj,hln];exact Fc hp2 (hld0 _ hx) (hld0 _ hy) hf ht
 .constructor
  .rintro ⟨hx,hgx⟩;rcases (by omega:x<ms.length\/x=ms.length) with hx2|rfl
   .rw[hlt x hx2 hx] at hgx;refine⟨hx2,?_⟩;rw[hln,hld x hx2,dM hx2];rcases (zg hf (hld0 _ (NV hx2))).1 hgx with h1|h1
    .exact Ox ⟨hx2,h1⟩
    .exact Oy h1
   .rw[hla hx,hg] at hgx;simp at hgx
  .rintro ⟨hx2,h1⟩;refine⟨by omega,?_⟩;rw[hlt x hx2 (by omega)];rw[hln,hld x hx2,dM hx2] at h1;refine(zg hf (hld0 _ (NV hx2))).2 ?_;rcases h1 with ⟨_,h1⟩|h1
   .exact Ox h1
   .exact Oy h1
variable{vs:OJ}{N w n:Nat}{p:Int}
theorem t7(hx:bF p dg N w n)(hU:oS p dg w n vs)(hf:kR p dg w n vs ms):ms.length<=2000005:=by
 obtain⟨k,k1,k2,k3⟩:=hf;obtain⟨_,us,u1,u2⟩:=hU;have hd:∀i,i<w+n->dN dg i<=3:=λi hi=>by have:=hx.dg i hi;unfold dN;omega
 have:=C4.EP (C4.ic w (dN dg)) (λx {_ _} h=>(C4.aN w (dN dg)).mono x h) C4.yo (zh hx.pr) (zi hx.pr) hx.hw hx.hn (λi hi=>by unfold dN;rw[hx.d0 i hi];rfl) hd u1 u2 k2 (λs hs=>by
  obtain⟨x,h1,rfl⟩:=N9.1 hs;exact k3 x h1)
 rw[Oa,List.length_drop] at this;have:=hx.hn;omega
theorem zj{m q:Nat}(h:2*q<=m*m)(hm:m<=2000005):q<=2100000000000:=by have:=Nat.mul_le_mul hm hm;omega
variable{T:Int}
theorem Cs.raise{T2:Int}(h:Cs p dg N w n vs ms qs E T)(hq:∀q∈qs,T2<=q.dg):Cs p dg N w n vs ms qs E T2:=
 ⟨h.inv,h.nd,λq hqm=>by
  obtain⟨x,y,a1,a2,a3,a4,a5,a6,_⟩:=h.pr q hqm;exact⟨x,y,a1,a2,a3,a4,a5,a6,hq q hqm⟩,h.mb,h.vb,h.mx,h.my,h.ql⟩
variable{k:Nat}
theorem t8{α:Type}{l:List α}(hk:k<l.length){x:α}:x∈l↔x=l[k]\/x∈l.take k++l.drop (k+1):=by
 have e:l=l.take k++l[k]::l.drop (k+1):=by rw[<-Ov hk,List.take_append_drop]
 constructor
 .intro h;rw[e] at h;rcases N1.1 h with h|h
  .exact Oy (N1.2 (Ox h))
  .rcases Og.1 h with h|h
   .exact Ox h
   .exact Oy (N1.2 (Oy h))
 .rintro (h|h)
  .rw[h];exact NV hk
  .rcases N1.1 h with h|h
   .exact OA h
   .exact List.mem_of_mem_drop h
theorem Cs.pop(h:Cs p dg N w n vs ms qs E T)(hk:k<qs.length)(hmin:∀q∈qs,qs[k].dg<=q.dg):∃(i j:Nat)(hi:i<ms.length)(hj:j<ms.length),qs[k].b1=ms[i].blk/\qs[k].b2=ms[j].blk/\dp ms[i].L ms[j].L qs[k]/\qs[k].dg=qs[k].a+qs[k].b+qs[k].d+qs[k].z+dg ms[i].L.pl.toNat/\T<=qs[k].dg/\Cs p dg N w n vs ms (qs.take k++qs.drop (k+1)) (λa b=>E a b\/(a=i/\b=j)) qs[k].dg:=by
 obtain⟨x,y,a1,a2,a3,a4,a5,a6,a7⟩:=h.pr qs[k] (NV hk);obtain⟨i,hi,rfl⟩:=OC.1 a1;obtain⟨j,hj,rfl⟩:=OC.1 a2;have inj:∀(a b:Nat)(ha:a<ms.length)(hb:b<ms.length),ms[a].blk=ms[b].blk->a=b:=λa b ha hb e=>by
  have h1:(ms.map Mm.blk)[a]'(by simpa using ha)=(ms.map Mm.blk)[b]'(by simpa using hb):=by simp[e]
  exact(List.getElem_inj h.nd).1 h1
 refine⟨i,j,hi,hj,a3,a4,a5,a6,a7,zf h.inv (λ_ _=>rfl) (λa b=>?_) λ_ _=>Iff.rfl,h.nd,λq hq=>?_,h.mb,h.vb,h.mx,h.my,?_⟩
 .constructor
  .rintro (⟨ha,hb,q,hq,e1,e2⟩|hE|⟨rfl,rfl⟩)
   .exact Ox ⟨ha,hb,q,(t8 hk).2 (Oy hq),e1,e2⟩
   .exact Oy hE
   .exact Ox ⟨hi,hj,_,NV hk,a3,a4⟩
  .rintro (⟨ha,hb,q,hq,e1,e2⟩|hE)
   .rcases (t8 hk).1 hq with e|hq
    .refine Oy (Oy ⟨inj _ _ ha hi ?_,inj _ _ hb hj ?_⟩)
     .rw[<-e1,e,a3]
     .rw[<-e2,e,a4]
    .exact Ox ⟨ha,hb,q,hq,e1,e2⟩
   .exact Oy (Ox hE)
 .have hq2:=(t8 hk).2 (Oy hq);obtain⟨x,y,c1,c2,c3,c4,c5,c6,_⟩:=h.pr q hq2;exact⟨x,y,c1,c2,c3,c4,c5,c6,hmin q hq2⟩
 .have:=h.ql;simp only[N3,Oo,List.length_drop];omega
theorem jm(ms:OK)(f:Mm):fm (ms++[f])=fm ms++[f.L::f.r]:=by simp[fm]
theorem t9(L:Ft)(ms:OK):fm (ms.map (aV L))=fm ms:=by unfold fm;rw[List.map_map];refine List.map_congr_left λx _=>?_;have h:=cP L x;simp only[Function.comp];rw[h.1,h.2.2]
variable{ts:OI}{t:Ft}{D:Int}
theorem dU.deg{E:Int}(h:dU p dg N w n D (t::ts))(k:dU p dg N w n E (t::ts)):D=E:=by have a:=(h.gd t (by simp)).deg;have b:=(k.gd t (by simp)).deg;omega
theorem Cs.add(hx:bF p dg N w n){us:OJ}(h:Cs p dg N w n vs ms qs E T)(hTD:T<=D)(hD:D<=4801)(hf:iF p dg N w n D f.L f.r)(hg:f.gone=false)(hne:∀x∈ms,x.blk≠f.blk)(hs:srt.Perm ((ie ms f.L.pl.toNat).map λx=>dq k0 k1 k2 dg x f))(hus:mY p dg N w n 3 us)(hmx:Gb.Vb (aE p dg w (vs++us)) (λs=>aY dg s=D.toNat) λφ=>au φ (f.L::f.r))(hmy:∀v∈us,∀D,dU p dg N w n D v->Gb.Vb (aE p dg w (fm (ms++[f]))) (λs=>aY dg s=D.toNat) λφ=>au φ v):Cs p dg N w n (vs++us) (ms.map (aV f.L)++[f]) (qs.filter (λq=>!fK ms f.L q)++bQ [] srt) E T:=by
 have gf:=hf.gd f.L (by simp);have lf:=gf.ld4;have hld:∀x∈ms,eF (w+n) x.L:=λx hxm=>by obtain⟨D,_,h3⟩:=h.mb x hxm;exact(h3.gd x.L (by simp)).ld4
 have hpr2:∀q∈qs,∃x y,x∈ms/\y∈ms/\q.b1=x.blk/\q.b2=y.blk/\dp x.L y.L q:=λq hq=>by obtain⟨x,y,a1,a2,a3,a4,a5,_⟩:=h.pr q hq;exact⟨x,y,a1,a2,a3,a4,a5⟩
 have hinv:=Fa h.inv h.nd hld hpr2 lf hg hne hs;have hex1:=l5 p dg w vs us;have hex2:=l5 p dg w (fm ms) [f.L::f.r];rw[<-jm] at hex2;have efm:fm (ms.map (aV f.L)++[f])=fm (ms++[f]):=by rw[jm,jm,t9]
 have hal:∀q∈bQ [] srt,∃x∈ms,x.L.pl=f.L.pl/\q=dq k0 k1 k2 dg x f:=λq hq=>by have hq2:=(oQ srt [] q hq).elim (λh=>by simp at h) id;obtain⟨x,hxm,e⟩:=N9.1 (hs.mem_iff.1 hq2);have h2:=Om.1 (Om.1 hxm).1;have h3:=h2.2;have hp:=lf.pl;simp only[decide_eq_true_eq] at h3;exact⟨x,h2.1,by omega,e.symm⟩
 have hmg:∀x∈ms.map (aV f.L),∃y∈ms,x=aV f.L y:=λx hx=>by obtain⟨y,h1,h2⟩:=N9.1 hx;exact⟨y,h1,h2.symm⟩
 refine⟨by rw[N3,Oa];exact hinv,?_,λq hq=>?_,λx hxm=>?_,λv hv=>?_,λx hxm D2 hD2=>?_,λv hv D2 hD2=>?_,?_⟩
 .rw[Oi,List.map_map];have e:(Mm.blk∘aV f.L)=Mm.blk:=by funext x;exact(cP f.L x).2.1
  rw[e];refine List.nodup_append.2 ⟨h.nd,by simp,λa ha b hb=>?_⟩;simp at hb;obtain⟨x,hxm,rfl⟩:=N9.1 ha;rw[hb];exact hne x hxm
 .rcases N1.1 hq with hq|hq
  .obtain⟨x,y,a1,a2,a3,a4,a5,a6,a7⟩:=h.pr q (Om.1 hq).1;refine⟨aV f.L x,aV f.L y,by simp only[N1,N9];exact Ox ⟨x,a1,rfl⟩,by simp only[N1,N9];exact Ox ⟨y,a2,rfl⟩,?_,?_,?_,?_,a7⟩
   .rw[(cP f.L x).2.1];exact a3
   .rw[(cP f.L y).2.1];exact a4
   .rw[(cP f.L x).1,(cP f.L y).1];exact a5
   .rw[(cP f.L x).1];exact a6
  .obtain⟨x,hxm,hpl,rfl⟩:=hal q hq;have gd:=gf.deg;refine⟨aV f.L x,f,by simp only[N1,N9];exact Ox ⟨x,hxm,rfl⟩,by simp,by rw[(cP f.L x).2.1];rfl,rfl,?_,?_,?_⟩
   .rw[(cP f.L x).1];exact⟨hpl,rfl,rfl,rfl,rfl⟩
   .rw[(cP f.L x).1];show mZ x.L f.L+dg x.L.pl.toNat=dr x.L f.L+dw x.L f.L+dy x.L f.L+dz x.L f.L+dg x.L.pl.toNat;unfold mZ;omega
   .show T<=mZ x.L f.L+dg x.L.pl.toNat;rw[hpl];unfold mZ dr dw dy dz;omega
 .rcases N1.1 hxm with hxm|hxm
  .obtain⟨y,hy,rfl⟩:=hmg x hxm;rw[(cP f.L y).1,(cP f.L y).2.2];exact h.mb y hy
  .rw[N2] at hxm;subst hxm;exact⟨D,hD,hf⟩
 .rcases N1.1 hv with hv|hv
  .exact h.vb v hv
  .exact hus v hv
 .rcases N1.1 hxm with hxm|hxm
  .obtain⟨y,hy,rfl⟩:=hmg x hxm;rw[(cP f.L y).1,(cP f.L y).2.2] at hD2⊢;exact l6 hex1 (h.mx y hy D2 hD2)
  .rw[N2] at hxm;subst hxm;rw[hD2.vch.deg hf.vch];exact hmx
 .rw[efm];rcases N1.1 hv with hv|hv
  .exact l6 hex2 (h.my v hv D2 hD2)
  .exact hmy v hv D2 hD2
 .have h1:=h.ql;have h2:(bQ [] srt).length<=srt.length:=by
   have:∀(xs kept:OM),(bQ kept xs).length<=kept.length+xs.length:=by
    intro xs;induction xs with
    |nil=>intro kept;simp[bQ]
    |cons x xs ih=>
     intro kept;unfold bQ;split
     .have:=ih kept;simp only[Oh];omega
     .have:=ih (kept++[x]);simp only[N3,Oh,List.length_nil] at this⊢;omega
   have:=this srt [];simpa using this
  have h3:=hs.length_eq;rw[Oa] at h3;have h4:(ie ms f.L.pl.toNat).length<=(aZ ms f.L.pl.toNat).length:=Ou _ _;have h5:(aZ ms f.L.pl.toNat).length<=ms.length:=Ou _ _;have h6:=Ou (λq=>!fK ms f.L q) qs;simp only[N3,Oh,List.length_nil,Oa];have h7:(ms.length+(0+1))*(ms.length+(0+1))=ms.length*ms.length+2*ms.length+1:=by grind
  omega
variable{v:OI}
theorem Cs.putv(h:Cs p dg N w n vs ms qs E T)(hD:D<=3)(hv:dU p dg N w n D v)(hne:v≠[])(hm:Gb.Vb (aE p dg w (fm ms)) (λs=>aY dg s=D.toNat) λφ=>au φ v):Cs p dg N w n (vs++[v]) ms qs E T:=by
 refine⟨h.inv,h.nd,h.pr,h.mb,λu hu=>?_,λx hxm D2 hD2=>l6 (l5 p dg w vs [v]) (h.mx x hxm D2 hD2),λu hu D2 hD2=>?_,h.ql⟩
 .rcases N1.1 hu with hu|hu
  .exact h.vb u hu
  .rw[N2] at hu;subst hu;exact⟨D,hD,hne,hv⟩
 .rcases N1.1 hu with hu|hu
  .exact h.my u hu D2 hD2
  .rw[N2] at hu;subst hu;cases u with
   |nil=>exact absurd rfl hne
   |cons t ts=>rw[hD2.deg hv];exact hm
theorem oT(L:Ft)(ms:OK)(f:Mm)(hk:k<ms.length):cH (ms.map (aV L)++[f]) k=cH ms k:=by rw[dM hk,dM (by simp;omega),List.getElem_append_left (by simpa using hk),List.getElem_map,(cP L _).1]
theorem eN.ext(hx:bF p dg N w n){E2:Nat->Nat->Prop}(h:Cs p dg N w n vs ms qs E2 T)(hE:eN p dg w ms E)(L:Ft)(f:Mm):eN p dg w (ms.map (aV L)++[f]) E:=λi j hij=>by obtain⟨hi,hj,a,b,h1,h2,h3⟩:=hE i j hij;have hl:=m5 hx (by omega) h.msh;refine⟨by simp;omega,by simp;omega,a,b,by rw[oT L ms f hi,oT L ms f hj];exact h1,by rw[oT L ms f hi,oT L ms f hj];exact h2,?_⟩;have hex:=l5 p dg w (fm ms) [f.L::f.r];rw[<-jm] at hex;rw[jm,t9,<-jm];exact Fd hex (hl.live i (by rw[iW];exact hi)) (hl.live j (by rw[iW];exact hj)) h3
def gM(N w:Nat)(q:Pq)(pl:Int):Ft:=⟨gm w pl (aD N ⟨0,q.a,q.b,q.d,q.z,pl,1⟩),q.a,q.b,q.d,q.z,pl,1⟩
variable{q:Pq}{x y:Ft}{D1 D2:Int}
theorem dp.gdS(h:dp x y q)(gx:aT dg N w n D1 x)(gy:aT dg N w n D2 y):aT dg N w n (q.a+q.b+q.d+q.z+dg x.pl.toNat) (gM N w q x.pl):=by
 have h1:=h.a;have h2:=h.b;have h3:=h.d;have h4:=h.z;unfold dr at h1;unfold dw at h2;unfold dy at h3;unfold dz at h4;have x1:=gx.a;have x2:=gx.b;have x3:=gx.d;have x4:=gx.z;have y1:=gy.a;have y2:=gy.b;have y3:=gy.d;have y4:=gy.z;refine⟨rfl,?_,?_,?_,?_,rfl,gx.pl0,gx.pl,λh=>?_,λh=>?_⟩
 .show 0<=q.a;omega
 .show 0<=q.b;omega
 .show 0<=q.d;omega
 .show 0<=q.z;omega
 .show q.b=0;have:=gx.n1 h;have:=gy.n1 h;omega
 .show q.d=0;have:=gx.n2 h;have:=gy.n2 h;omega
theorem dp.btbS(hx:bF p dg N w n)(h:dp x y q)(gx:aT dg N w n D1 x)(gy:aT dg N w n D2 y)(h1:D1<=4801)(h2:D2<=4801):m6 q x/\m6 q y/\q.a+q.b+q.d+q.z+dg x.pl.toNat<=9602:=by have h1:=h.a;have h2:=h.b;have h3:=h.d;have h4:=h.z;have h5:=h.pl;unfold dr at h1;unfold dw at h2;unfold dy at h3;unfold dz at h4;have x1:=gx.a;have x2:=gx.b;have x3:=gx.d;have x4:=gx.bd hx;have x5:=gx.z;have x6:=gx.deg;have y1:=gy.a;have y2:=gy.b;have y3:=gy.d;have y4:=gy.bd hx;have y5:=gy.z;exact⟨⟨by omega,by omega,by omega,by omega⟩,⟨by omega,by omega,by omega,by omega⟩,by omega⟩
variable{c:Int}
theorem dp.byxS(hx:bF p dg N w n)(h:dp x y q)(gx:aT dg N w n D1 x)(gy:aT dg N w n D2 y)(h1:D1<=4801)(h2:D2<=4801):jn N (gM N w q x.pl) x (bL q x c)/\jn N (gM N w q x.pl) y (bL q y c):=by
 obtain⟨b1,b2,_⟩:=h.btbS hx gx gy h1 h2;have gP:=h.gdS gx gy;constructor
 .refine qH gP gx ?_ rfl rfl rfl rfl;have h1:=b1.a;have h2:=b1.b;have h3:=b1.d;have h4:=b1.z;unfold cF eM gM;simp only[Bool.and_eq_true,decide_eq_true_eq];exact⟨trivial,⟨⟨by omega,by omega⟩,by omega⟩,by omega⟩
 .refine qH gP gy ?_ rfl rfl rfl rfl;have h1:=b2.a;have h2:=b2.b;have h3:=b2.d;have h4:=b2.z;unfold cF eM gM;simp only[Bool.and_eq_true,decide_eq_true_eq];exact⟨h.pl.symm,⟨⟨by omega,by omega⟩,by omega⟩,by omega⟩
theorem Fe(h:dp x y q)(lx:eF R x)(ly:eF R y):ah (gM N w q x.pl)=C4.bT.lc (ah x) (ah y):=by rw[h.lc4 lx ly];rfl
structure PS{p:Int}{dg:Nat->Int}{w:Nat}(G:Gb.bB (C4.aN w (dN dg)) p)(N n:Nat)(D:Int)(A:C4.Tt->Prop)(X:Gb.Fn C4.Tt)(K:Int)(ms:OK)(acc:OI):Prop where
 vc:dU p dg N w n D acc
 no:∀t∈acc,eO ms t=none
 lt:∀t∈acc,t.k<K
 vb:Gb.Vb G (λs=>A s/\aY dg s=D.toNat) λφ=>X φ-au φ acc
variable{X:Gb.Fn C4.Tt}
theorem Cs.to_vs(hx:bF p dg N w n)(h:Cs p dg N w n vs ms qs E T){D:Nat}(hv:Gb.Vb (aE p dg w (fm ms)) (λs=>aY dg s=D) X):Gb.Vb (aE p dg w vs) (λs=>aY dg s=D) X:=by
 refine zk (λi hi=>?_) hv;have hi:=kn hi;rw[iW] at hi;obtain⟨D2,_,h3⟩:=h.mb ms[i] (NV hi);have h4:=h.mx ms[i] (NV hi) D2 h3;have e1:(aE p dg w (fm ms)).ld i=ah ms[i].L:=by rw[gN,dM hi]
 have e2:(aE p dg w (fm ms)).g i=aK (ms[i].L::ms[i].r):=by show aK _=_;rw[fo (m7 hi)]
 rw[e1,e2,((h3.gd _ (by simp)).ts hx).1];exact h4
variable{a:C4.Mt}{i:Nat}
theorem zl{G:Gb.bB (C4.aN w (dN dg)) p}(hi:G.live i){D:Nat}(hD:aY dg (C4.aw a (G.ld i))=D):Gb.Vb G (λs=>aY dg s=D) (Gb.Hm G i a):=
 ⟨[(G.iv i,a,i)],λr hr=>by rw[N2] at hr;rw[hr];exact⟨hi,hD⟩,λφ=>⟨0,by unfold Gb.Hm;simp only[Gb.ev];omega⟩⟩
theorem zn(hx:bF p dg N w n)(hv:dU p dg N w n D (t::ts))(φ:C4.Tt->Int):p∣au φ (t::ts)-t.c*au φ (dO p (aW p t.c) t::ts.map (dO p (aW p t.c))):=by
 obtain⟨z,hz⟩:=qI (p:=p) (i:=aW p t.c) φ (t::ts);obtain⟨y,hy⟩:=qJ hx.pr (hv.co t (by simp));rw[List.map_cons] at hz;generalize au φ (dO p (aW p t.c) t::ts.map (dO p (aW p t.c)))=A at*;generalize au φ (t::ts)=B at*;generalize aW p t.c=i at*;have e:A=i*B+p*z:=by omega
 have e2:t.c*i=1+p*y:=by omega
 refine⟨-(y*B)-t.c*z,?_⟩;rw[e];have e3:t.c*(i*B+p*z)=(t.c*i)*B+t.c*(p*z):=by grind
 rw[e3,e2];grind
theorem oU(s:C4.Tt):C4.aw (0,0,0,0) s=s:=by obtain⟨i,a,b,c,e⟩:=s;simp[C4.aw,C4.bK]
variable{A:C4.Tt->Prop}
theorem zo(hx:bF p dg N w n)(hD:D<=9700)(hf:iF p dg N w n D f.L f.r)(hA:A (ah f.L))(c:Int):Gb.Vb (aE p dg w (fm (ms++[f]))) (λs=>A s/\aY dg s=D.toNat) λφ=>c*au φ (f.L::f.r):=by
 have hl:(fm (ms++[f]))[ms.length]?=some (f.L::f.r):=by rw[jm,Ot (by rw[iW];exact NL _),iW];simp
 have hlive:=qK hx hD hl hf.vch;have eld:(aE p dg w (fm (ms++[f]))).ld ms.length=ah f.L:=by show ig _=_;rw[fo hl];rfl
 have eg:(aE p dg w (fm (ms++[f]))).g ms.length=aK (f.L::f.r):=by show aK _=_;rw[fo hl]
 have ez:∀s:C4.Tt,C4.aw (0,0,0,0) s=s:=oU;refine⟨[(c,(0,0,0,0),ms.length)],λr hr=>?_,λφ=>⟨0,?_⟩⟩
 .rw[N2] at hr;rw[hr];refine⟨hlive,?_⟩;show A (C4.aw (0,0,0,0) _)/\aY dg (C4.aw (0,0,0,0) _)=_;rw[ez,eld];exact⟨hA,((hf.gd f.L (by simp)).ts hx).1⟩
 .simp only[Gb.ev];rw[eg];have e:Gb.ln (λt=>φ ((C4.aN w (dN dg)).act (0,0,0,0) t)) (aK (f.L::f.r))=au φ (f.L::f.r):=by
   have e2:(λt=>φ ((C4.aN w (dN dg)).act (0,0,0,0) t))=φ:=by funext t;show φ (C4.aw (0,0,0,0) t)=φ t;rw[oU]
   rw[e2];rfl
  rw[e];omega
variable{b:C4.Mt}{P:Ft}{K:Int}{j:Nat}
theorem Ff(hE:eN p dg w ms E)(hi:i<ms.length)(hj:j<ms.length)(e1:C4.aw a (cH ms i)=ah P)(e2:C4.aw b (cH ms j)=ah P)(e3:ah P=C4.bT.lc (cH ms i) (cH ms j))(hl:PS (aE p dg w (fm ms)) N n D (λs=>(C4.aN w (dN dg)).lt s (ah P)) (λφ=>Gb.Hm (aE p dg w (fm ms)) i a φ-Gb.Hm (aE p dg w (fm ms)) j b φ) K ms []):eN p dg w ms (λx y=>E x y\/(x=i/\y=j)):=by
 rintro x y (h|⟨rfl,rfl⟩)
 .exact hE x y h
 .refine⟨hi,hj,a,b,by rw[e1,e3],by rw[e2,e3],?_⟩;unfold Gb.Rl;have e4:(C4.aN w (dN dg)).act a ((aE p dg w (fm ms)).ld x)=ah P:=by rw[gN];exact e1
  rw[e4];exact(hl.vb.mono λs hs=>hs.1).congr λφ=>⟨0,by rw[fp];omega⟩
theorem Fg(hx:bF p dg N w n){qs2:OM}(h:Cs p dg N w n vs ms qs E T)(hE:eN p dg w ms E)(hU:oS p dg w n vs)(hfw:kR p dg w n vs ms)(hq:∀q∈qs,D<=q.dg)(hi:i<ms.length)(hj:j<ms.length)(h2:Cs p dg N w n vs ms qs2 (λx y=>E x y\/(x=i/\y=j)) D)(hD:D<=9700)(gP:aT dg N w n D P)(e1:C4.aw a (cH ms i)=ah P)(e2:C4.aw b (cH ms j)=ah P)(e3:ah P=C4.bT.lc (cH ms i) (cH ms j))(hl:PS (aE p dg w (fm ms)) N n D (λs=>(C4.aN w (dN dg)).lt s (ah P)) (λφ=>Gb.Hm (aE p dg w (fm ms)) i a φ-Gb.Hm (aE p dg w (fm ms)) j b φ) P.k ms (t::ts))(f1:f.L=dO p (aW p t.c) t)(f2:f.r=ts.map (dO p (aW p t.c)))(hg:f.gone=false)(hne:∀x∈ms,x.blk≠f.blk)(hs:srt.Perm ((ie ms f.L.pl.toNat).map λx=>dq k0 k1 k2 dg x f)):Cs p dg N w n vs (ms.map (aV f.L)++[f]) (qs2.filter (λq=>!fK ms f.L q)++bQ [] srt) (λx y=>E x y\/(x=i/\y=j)) D/\eN p dg w (ms.map (aV f.L)++[f]) (λx y=>E x y\/(x=i/\y=j))/\kR p dg w n vs (ms.map (aV f.L)++[f]):=by
 have hlive:=(m5 hx (by omega) h.msh).live;have li:=hlive i (by rw[iW];exact hi);have lj:=hlive j (by rw[iW];exact hj);have hP:=(gP.ts hx).1;have d1:aY dg (C4.aw a ((aE p dg w (fm ms)).ld i))=D.toNat:=by rw[gN,e1,hP]
 have d2:aY dg (C4.aw b ((aE p dg w (fm ms)).ld j))=D.toNat:=by rw[gN,e2,hP]
 have hm:Gb.Vb (aE p dg w (fm ms)) (λs=>aY dg s=D.toNat) λφ=>au φ (t::ts):=
  (Gb.Vb.add (Gb.Vb.add (zl li d1) (Gb.Vb.scl (-1) (zl lj d2))) (Gb.Vb.scl (-1) (hl.vb.mono λs hs=>hs.2))).congr λφ=>⟨0,by omega⟩
 have gt:=hl.vc.gd t (by simp);have hml:=h.ml hx hE hD hq hl.vc hm (hl.no t (by simp)) hU.1;have hmb:=zp hx hl.vc;have hf:iF p dg N w n D f.L f.r:=by rw[f1,f2];exact hmb
 have lt:=gt.ld4;have ete:ah f.L=ah t:=by rw[f1];rfl
 have hsm:D<=4801:=by
  obtain⟨_,us,u1,u2⟩:=hU;have hd:∀i,i<w+n->dN dg i<=3:=λi hi=>by have:=hx.dg i hi;unfold dN;omega
  have hts:=gt.ts hx;have hb:=C4.yx (C4.ic w (dN dg)) (λx {_ _} h=>(C4.aN w (dN dg)).mono x h) C4.yo (zh hx.pr) (zi hx.pr) hx.hw (λi hi=>by unfold dN;rw[hx.d0 i hi];rfl) hd u1 u2 (s:=ah t) hts.2 hml.1 hml.2;have e:=hts.1;unfold aY at e;omega
 have hno:∀x∈ms,¬C4.bT.dv (ah x.L) (ah f.L):=λx hxm=>by rw[ete];exact h.no_dv lt (hl.no t (by simp)) x hxm
 have hmx:Gb.Vb (aE p dg w (vs++[])) (λs=>aY dg s=D.toNat) λφ=>au φ (f.L::f.r):=by rw[List.append_nil];refine(Gb.Vb.scl (aW p t.c) (h.to_vs hx hm)).congr λφ=>?_;have:=qI (p:=p) (i:=aW p t.c) φ (t::ts);rw[f1,f2];exact this
 have hcp:=h2.add hx (us:=[]) (Int.le_refl _) hsm hf hg hne hs (λv hv=>by simp at hv) hmx (λv hv=>by simp at hv);rw[List.append_nil] at hcp;refine⟨hcp,?_,?_⟩
 .rintro x y (h3|⟨rfl,rfl⟩)
  .exact eN.ext hx h hE f.L f x y h3
  .have e:∀k,k<ms.length->cH (ms.map (aV f.L)++[f]) k=cH ms k:=λk hk=>oT f.L ms f hk;refine⟨by simp;omega,by simp;omega,a,b,by rw[e x hi,e y hj,e1,e3],by rw[e x hi,e y hj,e2,e3],?_⟩;have hex:=l5 p dg w (fm ms) [f.L::f.r];rw[<-jm] at hex;unfold Gb.Rl;have e4:(C4.aN w (dN dg)).act a ((aE p dg w (fm (ms.map (aV f.L)++[f]))).ld x)=ah P:=by rw[gN,e x hi];exact e1
   rw[e4,jm,t9,<-jm];have hA:(C4.aN w (dN dg)).lt (ah f.L) (ah P):=by rw[ete];exact qL hx hD gt gP (hl.lt t (by simp))
   refine((Gb.Vb.add (l6 hex hl.vb) (zo hx hD hf (A:=λs=>(C4.aN w (dN dg)).lt s (ah P)) hA t.c)).mono λs hs=>hs.1).congr λφ=>?_;obtain⟨z,hz⟩:=zn hx hl.vc φ;rw[<-f1,<-f2] at hz;refine⟨z,?_⟩;have q1:Gb.Hm (aE p dg w (fm (ms++[f]))) x a φ=Gb.Hm (aE p dg w (fm ms)) x a φ:=by unfold Gb.Hm;rw[hex.g _ li,hex.iv _ li]
   have q2:Gb.Hm (aE p dg w (fm (ms++[f]))) y b φ=Gb.Hm (aE p dg w (fm ms)) y b φ:=by unfold Gb.Hm;rw[hex.g _ lj,hex.iv _ lj]
   rw[q1,q2];omega
 .obtain⟨k,k1,k2,k3⟩:=hfw;by_cases hk:k<=ms.length
  .have ed:(ms.map (aV f.L)++[f]).drop k=(ms.drop k).map (aV f.L)++[f]:=by rw[List.drop_append_of_le_length (by simpa using hk),List.map_drop]
   have em:((ms.drop k).map (aV f.L)).map (λx=>ah x.L)=(ms.drop k).map λx=>ah x.L:=by rw[List.map_map];refine List.map_congr_left λx _=>?_;simp only[Function.comp];rw[(cP f.L x).1]
   refine⟨k,k1,?_,λx hxm=>?_⟩
   .rw[ed,Oi,em];refine List.nodup_append.2 ⟨k2,by simp,λu hu v hv e=>?_⟩;simp only[List.map_cons,List.map_nil,N2] at hv;obtain⟨x,x1,rfl⟩:=N9.1 hu;refine hno x (List.mem_of_mem_drop x1) ?_;have e:ah x.L=ah f.L:=e.trans hv;rw[e];exact C4.bT.refl _
   .rw[ed] at hxm;rcases N1.1 hxm with hxm|hxm
    .obtain⟨y,y1,rfl⟩:=N9.1 hxm;rw[(cP f.L y).1];exact k3 y y1
    .rw[N2] at hxm;subst hxm;rw[ete];refine⟨?_,hml⟩;have:=(hf.gd x.L (by simp)).pl;have:=(hf.gd x.L (by simp)).pl0;omega
  .refine⟨k,k1,?_,λx hxm=>?_⟩
   .rw[Ow (by simp;omega)];simp
   .rw[Ow (by simp;omega)] at hxm;simp at hxm
theorem Fh(h:Cs p dg N w n vs ms qs E T)(hD:D<=3)(hv:dU p dg N w n D v)(hne:v≠[])(hl:PS (aE p dg w (fm ms)) N n D (λ_=>True) (λφ=>au φ v) K ms []):Cs p dg N w n (vs++[v]) ms qs E T:=
 h.putv hD hv hne ((hl.vb.mono λs hs=>hs.2).congr λφ=>⟨0,by rw[fp];omega⟩)
theorem Fi(hx:bF p dg N w n)(h:Cs p dg N w n vs ms qs E T)(hE:eN p dg w ms E)(hTD:T<=D)(hD:D<=3)(hv:dU p dg N w n D v)(hnv:v≠[])(hl:PS (aE p dg w (fm ms)) N n D (λ_=>True) (λφ=>au φ v) K ms (t::ts))(f1:f.L=dO p (aW p t.c) t)(f2:f.r=ts.map (dO p (aW p t.c)))(hg:f.gone=false)(hne:∀x∈ms,x.blk≠f.blk)(hs:srt.Perm ((ie ms f.L.pl.toNat).map λx=>dq k0 k1 k2 dg x f)):Cs p dg N w n (vs++[v]) (ms.map (aV f.L)++[f]) (qs.filter (λq=>!fK ms f.L q)++bQ [] srt) E T/\eN p dg w (ms.map (aV f.L)++[f]) E:=by
 have hmb:=zp hx hl.vc;have hf:iF p dg N w n D f.L f.r:=by rw[f1,f2];exact hmb
 have hlv:(vs++[v])[vs.length]?=some v:=by simp
 have hvv:Gb.Vb (aE p dg w (vs++[v])) (λs=>aY dg s=D.toNat) λφ=>au φ v:=by
  cases v with
  |nil=>exact absurd rfl hnv
  |cons u us=>
   have hlive:=qK hx (by omega) hlv hv;have eld:(aE p dg w (vs++[u::us])).ld vs.length=ah u:=by show ig _=_;rw[fo hlv];rfl
   have eg:(aE p dg w (vs++[u::us])).g vs.length=aK (u::us):=by show aK _=_;rw[fo hlv]
   refine⟨[(1,(0,0,0,0),vs.length)],λr hr=>?_,λφ=>⟨0,?_⟩⟩
   .rw[N2] at hr;rw[hr];refine⟨hlive,?_⟩;show aY dg (C4.aw (0,0,0,0) _)=_;rw[oU,eld];exact((hv.gd u (by simp)).ts hx).1
   .simp only[Gb.ev];rw[eg];have e:Gb.ln (λt=>φ ((C4.aN w (dN dg)).act (0,0,0,0) t)) (aK (u::us))=au φ (u::us):=by
     have e2:(λt=>φ ((C4.aN w (dN dg)).act (0,0,0,0) t))=φ:=by funext t;show φ (C4.aw (0,0,0,0) t)=φ t;rw[oU]
     rw[e2];rfl
    rw[e];omega
 have hmx:Gb.Vb (aE p dg w (vs++[v])) (λs=>aY dg s=D.toNat) λφ=>au φ (f.L::f.r):=by
  have h1:=l6 (l5 p dg w vs [v]) (h.to_vs hx (hl.vb.mono λs hs=>hs.2));refine(Gb.Vb.scl (aW p t.c) (Gb.Vb.add hvv (Gb.Vb.scl (-1) h1))).congr λφ=>?_;obtain⟨z,hz⟩:=qI (p:=p) (i:=aW p t.c) φ (t::ts);rw[f1,f2];refine⟨z,?_⟩;rw[<-hz,List.map_cons];have e:au φ v+-1*(au φ v-au φ (t::ts))=au φ (t::ts):=by omega
  rw[e]
 have hex:=l5 p dg w (fm ms) [f.L::f.r];rw[<-jm] at hex;have hcp:=h.add hx (us:=[v]) hTD (by omega) hf hg hne hs (λu hu=>by rw[N2] at hu;subst hu;exact⟨D,hD,hnv,hv⟩) hmx (λu hu D2 hD2=>by
  rw[N2] at hu;subst hu;have e:D2=D:=by
   cases u with
   |nil=>exact absurd rfl hnv
   |cons a xs=>exact hD2.deg hv
  rw[e];refine((Gb.Vb.add (l6 hex hl.vb) (zo hx (by omega) hf (A:=λ_=>True) trivial t.c)).mono λs hs=>hs.2).congr λφ=>?_;obtain⟨z,hz⟩:=zn hx hl.vc φ;rw[<-f1,<-f2] at hz;exact⟨z,by omega⟩)
 exact⟨hcp,eN.ext hx h hE f.L f⟩
def zt(s:C4.Tt):C4.Tt:=(s.1,s.2.1,s.2.2.1,s.2.2.2.1,0)
def zm(m:C4.Mt):C4.Mt:=(m.1,m.2.1,m.2.2.1,0)
theorem Fj(m:C4.Mt)(s:C4.Tt):zt (C4.aw m s)=C4.aw (zm m) (zt s):=rfl
def cU(ra:List (List (Int×C4.Tt)))(φ:C4.Tt->Int):List (Int×C4.Mt×Nat)->Int
 |[]=>0
 |r::rp=>r.1*Gb.ln (λt=>φ (C4.aw r.2.1 t)) (ra.getD r.2.2 [])+cU ra φ rp
theorem zq(ra:List (List (Int×C4.Tt)))(φ:C4.Tt->Int):∀rp rq,cU ra φ (rp++rq)=cU ra φ rp+cU ra φ rq
 |[],rq=>by simp[cU]
 |r::rp,rq=>by rw[List.cons_append];simp only[cU];rw[zq ra φ rp rq];omega
def bq(p:Int)(ra:List (List (Int×C4.Tt)))(X:Gb.Fn C4.Tt):Prop:=∃rp:List (Int×C4.Mt×Nat),(∀r∈rp,r.2.1.2.2.2=0/\r.2.2<ra.length)/\∀φ,p∣X φ-cU ra φ rp
variable{ra:List (List (Int×C4.Tt))}
theorem bq.zero(h:∀φ,p∣X φ):bq p ra X:=⟨[],λr hr=>by simp at hr,λφ=>by simpa [cU] using h φ⟩
variable{Y:Gb.Fn C4.Tt}
theorem bq.congr(h:bq p ra X)(e:∀φ,p∣Y φ-X φ):bq p ra Y:=by obtain⟨rp,h1,h2⟩:=h;refine⟨rp,h1,λφ=>?_⟩;obtain⟨a,ha⟩:=h2 φ;obtain⟨b,hb⟩:=e φ;exact⟨a+b,by rw[Int.mul_add];omega⟩
theorem bq.add(h:bq p ra X)(k:bq p ra Y):bq p ra λφ=>X φ+Y φ:=by obtain⟨rp,h1,h2⟩:=h;obtain⟨rq,k1,k2⟩:=k;refine⟨rp++rq,λr hr=>(N1.1 hr).elim (h1 r) (k1 r),λφ=>?_⟩;rw[zq];obtain⟨a,ha⟩:=h2 φ;obtain⟨b,hb⟩:=k2 φ;show p∣X φ+Y φ-_;exact⟨a+b,by rw[Int.mul_add];omega⟩
theorem zr(c:Int)(ra:List (List (Int×C4.Tt)))(φ:C4.Tt->Int):∀rp,cU ra φ (rp.map λr=>(c*r.1,r.2))=c*cU ra φ rp
 |[]=>by simp[cU]
 |r::rp=>by simp only[List.map_cons,cU];rw[zr c ra φ rp];grind
theorem bq.scl(c:Int)(h:bq p ra X):bq p ra λφ=>c*X φ:=by
 obtain⟨rp,h1,h2⟩:=h;refine⟨rp.map λr=>(c*r.1,r.2),λr hr=>?_,λφ=>?_⟩
 .obtain⟨x,hx,rfl⟩:=N9.1 hr;exact h1 x hx
 .rw[zr];obtain⟨a,ha⟩:=h2 φ;exact⟨c*a,by rw[<-Int.mul_sub,ha];grind⟩
theorem Fk(a b:C4.Mt)(t:C4.Tt):C4.aw (C4.bK a b) t=C4.aw a (C4.aw b t):=by obtain⟨a1,a2,a3,a4⟩:=a;obtain⟨b1,b2,b3,b4⟩:=b;obtain⟨t0,t1,t2,t3,t4⟩:=t;simp only[C4.aw,C4.bK,Prod.mk.injEq,true_and];omega
theorem zu(m:C4.Mt)(ra:List (List (Int×C4.Tt)))(φ:C4.Tt->Int):∀rp,cU ra φ (rp.map λr=>(r.1,C4.bK m r.2.1,r.2.2))=cU ra (λt=>φ (C4.aw m t)) rp
 |[]=>rfl
 |r::rp=>by
  simp only[List.map_cons,cU];rw[zu m ra φ rp];have e:(λt=>φ (C4.aw (C4.bK m r.2.1) t))=λt=>φ (C4.aw m (C4.aw r.2.1 t)):=by funext t;rw[Fk]
  rw[e]
theorem bq.shift{m:C4.Mt}(hm:m.2.2.2=0)(h:bq p ra X):bq p ra λφ=>X λt=>φ (C4.aw m t):=by
 obtain⟨rp,h1,h2⟩:=h;refine⟨rp.map λr=>(r.1,C4.bK m r.2.1,r.2.2),λr hr=>?_,λφ=>?_⟩
 .obtain⟨x,hx,rfl⟩:=N9.1 hr;exact⟨by show m.2.2.2+x.2.1.2.2.2=0;have:=(h1 x hx).1;omega,(h1 x hx).2⟩
 .rw[zu];exact h2 _
theorem bq.row(hi:i<ra.length):bq p ra λφ=>Gb.ln φ (ra.getD i []):=
 ⟨[(1,(0,0,0,0),i)],λr hr=>by rw[N2] at hr;rw[hr];exact⟨rfl,hi⟩,λφ=>⟨0,by
  have e:(λt=>φ (C4.aw (0,0,0,0) t))=φ:=by funext t;rw[oU]
  simp only[cU];rw[e];omega⟩⟩
def bM(t:Ft):Ft:={t with z:=0}
theorem ud(t:Ft):ah (bM t)=zt (ah t):=rfl
theorem ug(φ:C4.Tt->Int):∀fs:OI,au φ (fs.map bM)=au (λs=>φ (zt s)) fs
 |[]=>rfl
 |t::fs=>by rw[List.map_cons,cY,cY,ug φ fs,ud];rfl
def fr(vs:OJ):List (List (Int×C4.Tt)):=vs.map λv=>aK (v.map bM)
theorem uh(vs:OJ):(fr vs).length=vs.length:=by simp[fr]
theorem zv(h:i<vs.length):(fr vs).getD i []=aK (vs[i].map bM):=by unfold fr;rw[NY,List.getElem?_map,NZ h];rfl
theorem qM(h:i<vs.length):(aE p dg w vs).g i=aK vs[i]:=by show aK (vs.getD i [])=_;rw[NY,NZ h];rfl
theorem Fl(h:Gb.Vb (aE p dg w vs) A X):bq p (fr vs) λφ=>X λs=>φ (zt s):=by
 obtain⟨rp,h1,h2⟩:=h;refine⟨rp.map λr=>(r.1,zm r.2.1,r.2.2),λr hr=>?_,λφ=>?_⟩
 .obtain⟨x,hx,rfl⟩:=N9.1 hr;exact⟨rfl,by rw[uh];exact kn (h1 x hx).1⟩
 .have e:∀rp:Gb.Rp C4.Mt,(∀r∈rp,r.2.2<vs.length)->cU (fr vs) φ (rp.map λr=>(r.1,zm r.2.1,r.2.2))=Gb.ev (aE p dg w vs) (λs=>φ (zt s)) rp:=by
   intro rp;induction rp with
   |nil=>intro _;rfl
   |cons r rp ih=>
    intro hr;have hi:=hr r (by simp);simp only[List.map_cons,cU,Gb.ev];rw[ih λx hx=>hr x (by simp[hx]),zv hi,qM hi];have e2:Gb.ln (λt=>φ (C4.aw (zm r.2.1) t)) (aK (vs[r.2.2].map bM))=Gb.ln (λt=>φ (zt ((C4.aN w (dN dg)).act r.2.1 t))) (aK vs[r.2.2]):=by have:=ug (λt=>φ (C4.aw (zm r.2.1) t)) vs[r.2.2];exact this
    rw[e2]
  rw[e rp λr hr=>kn (h1 r hr).1];exact h2 _
theorem zw:∀(rp:List (Int×C4.Mt×Nat)) (c0:Nat->Nat),∃D,∀r∈rp,c0 r.2.2+C4.aC r.2.1<=D
 |[],_=>⟨0,by simp⟩
 |r::rp,c0=>by
  obtain⟨D,h⟩:=zw rp c0;refine⟨c0 r.2.2+C4.aC r.2.1+D,λx hx=>?_⟩;rcases Og.1 hx with rfl|hx
  .omega
  .have:=h x hx;omega
theorem Fm{d:Nat->Nat}{D:Nat}{s u:C4.Tt}(hs:s∈C4.Ts R d D)(hu:u∈C4.Ts R d D)(h:zt s=zt u):s=u:=by obtain⟨_,h1⟩:=C4.dk.1 hs;obtain⟨_,h2⟩:=C4.dk.1 hu;obtain⟨s0,s1,s2,s3,s4⟩:=s;obtain⟨u0,u1,u2,u3,u4⟩:=u;unfold zt at h;simp only[Prod.mk.injEq] at h;obtain⟨rfl,rfl,rfl,rfl,_⟩:=h;unfold C4.aC at h1 h2;simp only at h1 h2;simp only[Prod.mk.injEq,true_and];omega
theorem Fo(hx:bF p dg N w n)(h:Cs p dg N w n vs ms [] E T)(hE:eN p dg w ms E)(hvl:vs.length=n)(hY:bq p (fr vs) Y){t:C4.Tt}(hz:t.2.2.2.2=0)(ht:t.1<w)(hn:¬p∣Y (Gb.dl t))(hab:∀u:C4.Tt,u.2.2.2.2=0->u.1<w->gq w t u->p∣Y (Gb.dl u)):∃x∈ms,x.gone=false/\C4.bT.dv (zt (ah x.L)) t:=by
 obtain⟨rp,h1,h2⟩:=hY;have h0:=m5 hx (by omega) h.vb;obtain⟨D0,hD0⟩:=zw rp λi=>aY dg ((aE p dg w vs).ld i);obtain⟨D,hDD⟩:∃D,D=D0+dN dg t.1+C4.aC t.2:=⟨_,rfl⟩;have hD:∀r∈rp,aY dg ((aE p dg w vs).ld r.2.2)+C4.aC r.2.1<=D:=λr hr=>by have:=hD0 r hr;omega
 -- filled up
 obtain⟨fu,hfu⟩:∃fu:(Int×C4.Mt×Nat)->(Int×C4.Mt×Nat),∀r,fu r=(r.1,(r.2.1.1,r.2.1.2.1,r.2.1.2.2.1,D-aY dg ((aE p dg w vs).ld r.2.2)-C4.aC r.2.1),r.2.2):=⟨_,λ_=>rfl⟩;have hfd:∀r∈rp,aY dg ((aE p dg w vs).ld r.2.2)+C4.aC (fu r).2.1=D:=λr hr=>by have a:=hD r hr;have b:=(h1 r hr).1;rw[hfu];obtain⟨c,⟨m1,m2,m3,m4⟩,i⟩:=r;simp only[C4.aC] at a b⊢;omega
 have hHr:C4.Hr vs.length (λi=>aY dg ((aE p dg w vs).ld i)) D (rp.map fu):=λr hr=>by
  obtain⟨x,hx1,rfl⟩:=N9.1 hr;have e:(fu x).2.2=x.2.2:=by rw[hfu]
  refine⟨by rw[e];have:=(h1 x hx1).2;rwa [uh] at this,?_⟩;have:=hfd x hx1;rw[<-e] at this;exact this
 have hev:∀s∈C4.Ts (w+n) (dN dg) D,∀l:List (Int×C4.Mt×Nat),(∀r∈l,r∈rp)->Gb.ev (aE p dg w vs) (Gb.dl s) (l.map fu)=cU (fr vs) (Gb.dl (zt s)) l:=by
  intro s hs l;induction l with
  |nil=>intro _;rfl
  |cons r l ih=>
   intro hl;have hr:=hl r (by simp);have hi:r.2.2<vs.length:=by have:=(h1 r hr).2;rwa [uh] at this
   simp only[List.map_cons,cU,Gb.ev];rw[ih λx hx=>hl x (by simp[hx])];have e1:(fu r).1=r.1:=by rw[hfu]
   have e2:(fu r).2.2=r.2.2:=by rw[hfu]
   rw[e1,e2,zv hi,qM hi];have key:∀fs:OI,(∀x∈aK fs,x.2∈C4.Ts (w+n) (dN dg) (aY dg ((aE p dg w vs).ld r.2.2)))->Gb.ln (λt=>Gb.dl s ((C4.aN w (dN dg)).act (fu r).2.1 t)) (aK fs)=Gb.ln (λt=>Gb.dl (zt s) (C4.aw r.2.1 t)) (aK (fs.map bM)):=by
    intro fs;induction fs with
    |nil=>intro _;rfl
    |cons u fs ihf=>
     intro hf;have hu:ah u∈C4.Ts (w+n) (dN dg) (aY dg ((aE p dg w vs).ld r.2.2)):=hf (u.c,ah u) (by simp[aK]);have ih2:=ihf λx hx=>hf x (by simp only[aK,List.map_cons,Og] at hx⊢;exact Oy hx);show u.c*Gb.dl s (C4.aw (fu r).2.1 (ah u))+Gb.ln _ (aK fs)=u.c*Gb.dl (zt s) (C4.aw r.2.1 (ah (bM u)))+Gb.ln _ (aK (fs.map bM));rw[ih2];have hmem:C4.aw (fu r).2.1 (ah u)∈C4.Ts (w+n) (dN dg) D:=by rw[<-hfd r hr,C4.lY];exact hu
     have hzz:C4.aw r.2.1 (ah (bM u))=zt (C4.aw (fu r).2.1 (ah u)):=by rw[Fj,ud];congr 1;have b:=(h1 r hr).1;rw[hfu];obtain⟨c,⟨m1,m2,m3,m4⟩,i⟩:=r;simp only at b;rw[b];rfl
     rw[hzz];congr 2;unfold Gb.dl;by_cases hc:C4.aw (fu r).2.1 (ah u)=s
     .rw[Oe hc,Oe (by rw[hc])]
     .rw[Oc hc,Oc λe=>hc (Fm hmem hs e)]
   rw[key vs[r.2.2] λx hx2=>by
    have:=h0.hom r.2.2 hi x (by rw[qM hi];exact hx2);exact this]
 -- the lead
 obtain⟨s,hsd⟩:∃s:C4.Tt,s=(t.1,t.2.1,t.2.2.1,t.2.2.2.1,D0):=⟨_,rfl⟩;have hst:zt s=t:=by rw[hsd];obtain⟨t0,t1,t2,t3,t4⟩:=t;simp only at hz;rw[hz];rfl
 have hsT:s∈C4.Ts (w+n) (dN dg) D:=by rw[C4.dk,hsd];refine⟨by show t.1<w+n;omega,?_⟩;rw[hDD];unfold C4.aC;simp only;omega
 have hLM:C4.LM (C4.ic w (dN dg)) p (w+n) (dN dg) (C4.gl (aE p dg w vs) (λi=>aY dg ((aE p dg w vs).ld i)) n) s:=by
  unfold C4.LM;rw[(C4.dk.1 hsT).2];have hv:=C4.tQ (p:=p) (R:=w+n) (nb:=w) (d:=dN dg) (G:=aE p dg w vs) hHr;rw[hvl] at hv;refine⟨_,hv,hsT,?_,λu hu hl=>?_⟩
  .show¬p∣Gb.ev (aE p dg w vs) (Gb.dl s) (rp.map fu);rw[hev s hsT rp λ_ h=>h,hst];intro hc;obtain⟨a,ha⟩:=hc;obtain⟨b,hb⟩:=h2 (Gb.dl t);exact hn ⟨a+b,by rw[Int.mul_add];omega⟩
  .show p∣Gb.ev (aE p dg w vs) (Gb.dl u) (rp.map fu);rw[hev u hu rp λ_ h=>h];have hl:C4.L6 (C4.fS w (dN dg) s) (C4.fS w (dN dg) u):=hl;have e1:=(C4.dk.1 hsT).2;have e2:=(C4.dk.1 hu).2;have hlt:gq w t (zt u):=by
    rw[<-hst];rcases hl with h9|⟨_,h9⟩
    .have h9:dN dg s.1+C4.aC s.2<dN dg u.1+C4.aC u.2:=h9;omega
    .exact Oy ⟨rfl,h9⟩
   have huw:(zt u).1<w:=by
    apply Oj;intro hc;have e5:(if t.1<w then 1 else 0:Nat)=1:=Oe ht;have e6:(if (zt u).1<w then 1 else 0:Nat)=0:=Oc hc;rcases hlt with h9|⟨_,h9|⟨h9,_⟩⟩
    .exact absurd h9 (Nat.lt_irrefl _)
    .have h9:(if t.1<w then 1 else 0:Nat)<(if (zt u).1<w then 1 else 0:Nat):=h9;omega
    .have h9:(if t.1<w then 1 else 0:Nat)=(if (zt u).1<w then 1 else 0:Nat):=h9;omega
   obtain⟨a,ha⟩:=hab (zt u) rfl huw hlt;obtain⟨b,hb⟩:=h2 (Gb.dl (zt u));exact⟨a-b,by rw[Int.mul_sub];omega⟩
 have h1g:=m5 hx (by omega) h.msh;have hA:=h.allA hx hE (λu=>aY dg u<D+1) (fun {s u} hd hs=>by
  have:=zx (dg:=dg) hd;omega) (λq hqm=>by simp at hqm)
 have h0':=h0;rw[hvl] at h0';obtain⟨i,i1,i2⟩:=C4.yF (t:=D+1) h0' h1g (λi hi=>rfl) (λi hi=>by
  obtain⟨D2,u,r,a1,a2,a3⟩:=h.vb.at (i:=i) (by omega);have e1:(aE p dg w vs).ld i=ah u:=by show ig _=_;rw[fo a2];rfl
  have e2:(aE p dg w vs).g i=aK (u::r):=by show aK _=_;rw[fo a2]
  have hmem:(u::r)∈vs:=List.mem_of_getElem? a2;have h4:=h.my _ hmem D2 a3;rw[e1,e2,((a3.gd u (by simp)).ts hx).1];have:=ui h4;exact this) hA (u:=s) hLM (by have:=(C4.dk.1 hsT).2;omega)
 have hi:=kn i1;rw[iW] at hi;rw[gN] at i2;have fin:∀j,j<ms.length->C4.bT.dv (cH ms j) s->C4.bT.dv (zt (cH ms j)) t:=λj _ hd=>by have hd:(cH ms j).1=s.1/\C4.cl (cH ms j).2 s.2:=hd;rw[<-hst];obtain⟨d1,d2,d3,d4,d5⟩:=hd;exact⟨d1,d2,d3,d4,NL _⟩
 by_cases hgo:ms[i].gone=true
 .obtain⟨y,y1,y2,y3⟩:=h.inv.gn i hi ⟨hi,hgo⟩;refine⟨ms[y],NV y1,?_,?_⟩
  .cases hgy:ms[y].gone with
   |false=>rfl
   |true=>exact absurd ⟨y1,hgy⟩ y2
  .rw[<-dM y1];exact fin y y1 (C4.bT.trans y3 i2)
 .refine⟨ms[i],NV hi,by simpa using hgo,?_⟩;rw[<-dM hi];exact fin i hi i2
def gO(t:Ft):Int:=t.a+t.b+t.d
def eA(w:Nat)(L:Ft):Int:=if L.pl<w then gO L else-1
def fA(w:Nat)(L:Ft):Int:=if L.pl<w then gO L+4801 else gO L
structure d8(p:Int)(N w n:Nat)(L:Ft)(r:OI):Prop where
 vc:cR p N w n (eA w L) (fA w L) (L::r)
 dg:gO L<=4801
variable{L:Ft}
theorem d8.bd{r:OI}(h:d8 p N w n L r):eA w L<=9700/\fA w L<=9700:=by
 have:=h.dg;unfold eA fA;constructor
 .split<;>omega
 .split<;>omega
structure l7(N:Nat)(t L bt:Ft):Prop where
 pl:L.pl=t.pl
 a:bt.a+L.a=t.a
 b:bt.b+L.b=t.b
 d:bt.d+L.d=t.d
 z:bt.z=0
 a0:0<=bt.a
 b0:0<=bt.b
 d0:0<=bt.d
 n1:N<=1->bt.b=0
 n2:N<=2->bt.d=0
variable{bt:Ft}{F E2 F2:Int}
theorem uj{E:Int}(gt:bi N w n E F t)(gL:bi N w n E2 F2 L)(hin:cF L t=true)(ha:bt.a=t.a-L.a)(hb:bt.b=t.b-L.b)(hd:bt.d=t.d-L.d)(hz:bt.z=t.z-L.z):l7 N t L bt:=by unfold cF eM at hin;simp only[Bool.and_eq_true,decide_eq_true_eq] at hin;obtain⟨h1,⟨⟨h2,h3⟩,h4⟩,h5⟩:=hin;exact⟨h1,by omega,by omega,by omega,by have:=gt.z;have:=gL.z;omega,by omega,by omega,by omega,λh=>by have:=gt.n1 h;have:=gL.n1 h;omega,λh=>by have:=gt.n2 h;have:=gL.n2 h;omega⟩
theorem l7.key{E:Int}(h:l7 N t L bt)(h0:0<N)(h3:N<=3)(gt:bi N w n E F t)(gL:bi N w n E2 F2 L):L.k+bG 1 (aD N bt)=t.k:=by rw[gt.k,gL.k,oV (p:=0) h0 h3 h.a h.b h.d,<-h.pl];unfold gm;rw[oW h3 (jM h3 _) (jM h3 _)];omega
theorem l7.te{E:Int}(h:l7 N t L bt)(gL:bi N w n E F L)(gt:bi N w n E2 F2 t):C4.aw (bY bt) (ah L)=ah t:=by have h1:=h.a;have h2:=h.b;have h3:=h.d;have h4:=h.a0;have h5:=h.b0;have h6:=h.d0;have h7:=h.z;have g1:=gL.a;have g2:=gL.b;have g3:=gL.d;have g4:=gL.z;have g5:=gt.z;unfold C4.aw C4.bK bY ah;rw[h.pl];simp only[Prod.mk.injEq,true_and];omega
def kS(E F:Int):Prop:=E<=4801/\F<=9602/\(E<0\/E+4801<=F)
theorem uk(hx:ci p N w n){E:Int}(hR:kS E F){r:OI}{more:Int}(gt:bi N w n E F t)(hm:d8 p N w n L r)(h:l7 N t L bt)(bc:0<c/\c<p)(hmo:more=bG 1 (aD N bt)):aG p (λu=>bi N w n E F u/\u.k<t.k) [r.map (aJ p more {bt with c:=c})]:=by
 have gL:=hm.vc.gd L (by simp);have hk:=h.key hx.n0 hx.n3 gt gL;have e1:=h.a;have e2:=h.b;have e3:=h.d;have e4:=h.a0;have e5:=h.b0;have e6:=h.d0;refine⟨λf hf=>?_,λf hf x ht=>?_,λf hf x ht=>?_⟩<;>(rw[N2] at hf;subst hf)
 .unfold Dn;rw[List.pairwise_map];exact hm.vc.dn.tail.imp fun {a b} h=>by simp only[aJ];omega
 .obtain⟨x,hx2,rfl⟩:=N9.1 ht;have h1:=hm.vc.co x (by simp[hx2]);have:=l8 hx.pr (show 1<=x.c by omega) h1.2 (show 1<=c by omega) bc.2;simp only[aJ];omega
 .obtain⟨x,hx2,rfl⟩:=N9.1 ht;have gx:=hm.vc.gd x (by simp[hx2]);have hlt:=hm.vc.dn.head x hx2;have ho:=gx.own;have hf:=gx.oth;have x1:=gx.a;have x2:=gx.b;have x3:=gx.d;have tw:=gt.own;have tf:=gt.oth;have hpl:=h.pl;unfold eA gO at ho;unfold fA gO at hf;obtain⟨r1,r2,r3⟩:=hR;refine⟨bi.mul hx gx hmo h.a0 h.b0 h.d0 h.z h.n1 h.n2 (λhw=>?_) (λhw=>?_),by simp only[aJ];omega⟩
  .have:=ho hw;by_cases hL:L.pl<w
   .rw[Oe hL] at this;have:=tw (by omega);omega
   .rw[Oc hL] at this;omega
  .have:=hf hw;by_cases hL:L.pl<w
   .rw[Oe hL] at this;have:=tw (by omega);have:=gt.a;have:=gt.b;have:=gt.d;omega
   .rw[Oc hL] at this;have:=tf (by omega);omega
theorem qN(hx:ci p N w n){E:Int}(hE:E<=9700)(hF:F<=9700){f:OI}(h:∀t∈f,bi N w n E F t):∀t u,t∈f->u∈f->t.k=u.k->ah t=ah u:=λt u ht hu e=>zy hx hE hF hE hF (h t ht) (h u hu) e
structure LA(p:Int)(ra:List (List (Int×C4.Tt)))(N w n:Nat)(E F:Int)(X:Gb.Fn C4.Tt)(K:Int)(acc:OI)(r:Option Ft)(rows:OJ):Prop where
 ok:aG p (λu=>bi N w n E F u/\u.k<K) rows
 made:bq p ra λφ=>X φ-(au φ acc+fw φ r+au φ rows.flatten)
 tr:∀t,r=some t->bi N w n E F t/\0<t.c/\t.c<p/\t.k<K/\∀f∈rows,∀u∈f,u.k<t.k
 av:cR p N w n E F acc
 ak:∀t∈acc,(∀f∈rows,∀u∈f,u.k<t.k)/\(∀u,r=some u->u.k<t.k)/\t.k<K
variable{r:Option Ft}{rows:OJ}{acc:OI}
theorem oX(hx:ci p N w n){E:Int}(hE:E<=9700)(hF:F<=9700){rows2:OJ}(h:LA p ra N w n E F X K acc none rows)(hn:Nx p rows r rows2):LA p ra N w n E F X K acc r rows2/\(r=none->bq p ra λφ=>X φ-au φ acc):=by
 obtain⟨hp1,hp2⟩:=dS hx.pr;have hok:aG p (λu=>bi N w n E F u/\u.k<K/\∀a∈acc,u.k<a.k) rows:=⟨h.ok.dn,h.ok.co,λf hf t ht=>⟨(h.ok.gd f hf t ht).1,(h.ok.gd f hf t ht).2,λa ha=>(h.ak a ha).1 f hf t ht⟩⟩;have hsp:=Nx.spec hp1 (G:=λu=>bi N w n E F u/\u.k<K/\∀a∈acc,u.k<a.k) (λx t ha hg=>⟨bi.alk x t ha hg.1,by rw[ha.1];exact hg.2⟩) hn hok;obtain⟨s1,s2,s3⟩:=hsp;have ok2:aG p (λu=>bi N w n E F u/\u.k<K) rows2:=⟨s1.dn,s1.co,λf hf t ht=>⟨(s1.gd f hf t ht).1,(s1.gd f hf t ht).2.1⟩⟩;cases r with
 |none=>
  have hz:∀φ,p∣au φ rows.flatten:=λφ=>by have h9:=ko (p:=p) (f:=rows.flatten) (g:=[]) (by rw[List.append_nil];exact qN hx hE hF λt ht=>(iG h.ok t ht).1) (λk=>by simpa [aq] using s3 k) φ;simpa [fp] using h9
  have hz2:bq p ra λφ=>X φ-au φ acc:=h.made.congr λφ=>by obtain⟨z,e⟩:=hz φ;refine⟨z,?_⟩;simp only[fw];omega
  have e2:rows2.flatten=[]:=by rw[List.flatten_eq_nil_iff];exact zA hn h.ok.dn rfl
  refine⟨⟨ok2,?_,λt ht=>by simp at ht,h.av,λt ht=>⟨λf hf u hu=>(s1.gd f hf u hu).2.2 t ht,λu hu=>by simp at hu,(h.ak t ht).2.2⟩⟩,λ_=>hz2⟩;rw[e2];exact hz2.congr λφ=>⟨0,by simp[fw,fp]⟩
 |some t=>
  obtain⟨g,c0,c1,hlt,hc⟩:=s3;refine⟨⟨ok2,h.made.congr λφ=>?_,λu hu=>?_,h.av,λa ha=>⟨λf hf u hu=>(s1.gd f hf u hu).2.2 a ha,λu hu=>?_,(h.ak a ha).2.2⟩⟩,λh=>by simp at h⟩
  .have h9:=ko (p:=p) (f:=rows.flatten) (g:=t::rows2.flatten) (qN hx hE hF λu hu=>by
    rcases N1.1 hu with h1|h1
    .exact(iG h.ok u h1).1
    .rcases Og.1 h1 with rfl|h1
     .exact g.1
     .exact(iG ok2 u h1).1) (λk=>by
    obtain⟨z,hz⟩:=hc k;refine⟨z,?_⟩;simp only[aq];by_cases hk:k=t.k
    .rw[Oe hk] at hz;rw[Oe hk.symm];omega
    .rw[Oc hk] at hz;rw[Oc (λe=>hk e.symm)];omega) φ
   rw[cY] at h9;obtain⟨z,hz⟩:=h9;refine⟨z,?_⟩;simp only[fw];omega
  .cases hu;exact⟨g.1,c0,c1,g.2.1,hlt⟩
  .cases hu;exact g.2.2 a ha
theorem zB{E:Int}(h:LA p ra N w n E F X K acc (some t) rows):LA p ra N w n E F X K (acc++[t]) none rows:=by
 obtain⟨g,c0,c1,hk,hlt⟩:=h.tr t rfl;refine⟨h.ok,h.made.congr λφ=>⟨0,?_⟩,λu hu=>by simp at hu,⟨?_,λu hu=>?_,λu hu=>?_⟩,λu hu=>?_⟩
 .rw[kq,cY,fp];simp only[fw];omega
 .unfold Dn;rw[List.pairwise_append];refine⟨h.av.dn,by simp,λa ha b hb=>?_⟩;rw[N2] at hb;subst hb;exact(h.ak a ha).2.1 b rfl
 .rcases N1.1 hu with hu|hu
  .exact h.av.co u hu
  .rw[N2] at hu;subst hu;exact⟨c0,c1⟩
 .rcases N1.1 hu with hu|hu
  .exact h.av.gd u hu
  .rw[N2] at hu;subst hu;exact g
 .rcases N1.1 hu with hu|hu
  .exact⟨(h.ak u hu).1,λv hv=>by simp at hv,(h.ak u hu).2.2⟩
  .rw[N2] at hu;subst hu;exact⟨hlt,λv hv=>by simp at hv,hk⟩
theorem zC(hx:ci p N w n){E:Int}(hE:E<=9700)(hF:F<=9700){rows':OJ}{r:OI}(h:LA p ra N w n E F X K acc (some t) rows)(hm:d8 p N w n L r)(hmm:bq p ra λφ=>au φ (L::r))(hb:l7 N t L bt)(hc:p∣c*L.c+t.c)(hok:aG p (λu=>bi N w n E F u/\u.k<t.k) rows')(hs:aG p (λu=>bi N w n E F u/\u.k<t.k) [r.map (aJ p (bG 1 (aD N bt)) {bt with c:=c})])(hcnt:∀k,p∣aq k rows'.flatten-(aq k rows.flatten+aq k (r.map (aJ p (bG 1 (aD N bt)) {bt with c:=c})))):LA p ra N w n E F X K acc none rows':=by
 obtain⟨gt,_,_,hlt,_⟩:=h.tr t rfl;have gL:=hm.vc.gd L (by simp);have hte:=hb.te gL gt;refine⟨⟨hok.dn,hok.co,λf hf u hu=>⟨(hok.gd f hf u hu).1,by have:=(hok.gd f hf u hu).2;omega⟩⟩,?_,λu hu=>by simp at hu,h.av,λa ha=>⟨λf hf u hu=>?_,λu hu=>by simp at hu,(h.ak a ha).2.2⟩⟩
 .have hone:bq p ra λφ=>-c*au (λs=>φ (C4.aw (bY bt) s)) (L::r):=(hmm.shift (m:=bY bt) (by show bt.z.toNat=0;rw[hb.z];rfl)).scl (-c);refine(bq.add h.made hone).congr λφ=>?_;have h2:=ko (p:=p) (f:=rows'.flatten) (g:=rows.flatten++r.map (aJ p (bG 1 (aD N bt)) {bt with c:=c})) (qN hx hE hF λu hu=>by
   rcases N1.1 hu with h1|h1
   .exact(iG hok u h1).1
   .rcases N1.1 h1 with h1|h1
    .exact(iG h.ok u h1).1
    .exact(hs.gd _ (List.mem_singleton_self _) u h1).1) (λk=>by rw[iX];exact hcnt k) φ
  rw[kq] at h2;obtain⟨z2,e2⟩:=h2;obtain⟨z3,e3⟩:=m8 (p:=p) (more:=bG 1 (aD N bt)) (c:=c) hb.a0 hb.b0 hb.d0 (by rw[hb.z];omega) φ r λu hu=>⟨(hm.vc.gd u (by simp[hu])).a,(hm.vc.gd u (by simp[hu])).b,(hm.vc.gd u (by simp[hu])).d,by have:=(hm.vc.gd u (by simp[hu])).z;omega⟩;obtain⟨z4,e4⟩:=hc;rw[cY,hte];simp only[fw];generalize au φ rows'.flatten=A at*;generalize au φ rows.flatten=B at*;generalize au φ acc=Z at*;generalize au φ (r.map (aJ p (bG 1 (aD N bt)) {bt with c:=c}))=C at*;generalize au (λs=>φ (C4.aw (bY bt) s)) r=D at*;generalize φ (ah t)=f at*;have e5:C=c*D+p*z3:=by omega
  have e6:A=B+C+p*z2:=by omega
  refine⟨z4*f-z2-z3,?_⟩;rw[e6,e5];have e7:p*(z4*f-z2-z3)=(p*z4)*f-p*z2-p*z3:=by grind
  rw[e7,<-e4];grind
 .have h1:=(hok.gd f hf u hu).2;have h2:=(h.ak a ha).2.1 t rfl;omega
def jN(p:Int)(ra:List (List (Int×C4.Tt)))(N w n:Nat)(ms:OK):Prop:=∀x∈ms,d8 p N w n x.L x.r/\bq p ra λφ=>au φ (x.L::x.r)
theorem zE(hx:ci p N w n)(hms:jN p ra N w n ms)(hl:ms.length<=2100000){E:Int}(hR:kS E F):nc p (ao 1 N N 0) (ao 1 N N 1) (ao 1 N N 2) (w+n) (bi N w n E F) ms where
 pr:=hx.pr
 b0:=d9 1 N 0
 b1:=d9 1 N 1
 b2:=d9 1 N 2
 alk:=bi.alk
 len:=jO hx (by have:=hR.1;omega) (by have:=hR.2.1;omega)
 bd:=λt g=>by have hE:=hR.1;have hF:=hR.2.1;have hk:=g.kb hx (by omega) (by omega);have h3:=g.bd hx (by omega) (by omega);have h4:=g.pl0;have h5:=g.pl;have h7:=g.a;have h8:=g.b;have h9:=g.d;have h10:=g.z;exact⟨by omega,by omega,by omega,by omega,by omega,h4,h5⟩
 fok:=λx hx2 u hu=>by have hm:=(hms x hx2).1;have h2:=hm.vc.co u (by simp[hu]);exact(hm.vc.gd u (by simp[hu])).fok hx hm.bd.1 hm.bd.2 (by omega)
 lds:=λx hx2=>by have hm:=(hms x hx2).1;have g:=hm.vc.gd x.L (by simp);have c:=hm.vc.co x.L (by simp);exact⟨g.a,g.b,g.d,by rw[g.z];omega,c.1,c.2⟩
 rln:=λx hx2=>by have hm:=(hms x hx2).1;exact jO hx hm.bd.1 hm.bd.2 x.r hm.vc.dn.tail λt ht=>hm.vc.gd t (by simp[ht])
 mul:=λx hx2 t g hin bt ha hb hd hz c0 c1=>by have hm:=(hms x hx2).1;have hby:=uj g (hm.vc.gd x.L (by simp)) hin ha hb hd hz;have:=uk hx hR (more:=bt.a*ao 1 N N 0+bt.b*ao 1 N N 1+bt.d*ao 1 N N 2) (c:=bt.c) g hm hby ⟨c0,c1⟩ (kT hx.n0 hx.n3);exact this
 ml:=hl
theorem Fp(hx:ci p N w n)(hms:jN p ra N w n ms){E:Int}(hR:kS E F)(cont:OI->Ft->Bool):l9 p (ao 1 N N 0) (ao 1 N N 1) (ao 1 N N 2) (bi N w n E F) ms (λrows acc=>LA p ra N w n E F X K acc none rows/\∀t∈acc,eO ms t=none) (λt rows acc=>LA p ra N w n E F X K acc (some t) rows/\∀t∈acc,eO ms t=none) cont where
 next:=λrows acc t rows2 _ hJ hn=>⟨(oX hx (by have:=hR.1;omega) (by have:=hR.2.1;omega) hJ.1 hn).1,hJ.2⟩
 left:=λt rows acc _ _ _ _ _ hI hf _=>⟨zB hI.1,λu hu=>by
  rcases N1.1 hu with hu|hu
  .exact hI.2 u hu
  .rw[N2] at hu;rw[hu];exact hf⟩
 take:=λt rows acc x bt rows' g c0 c1 hlt hr hI hf hby hr2 hcnt=>by have hxm:x∈ms:=(Om.1 (List.mem_of_find?_eq_some hf)).1;have hgo:=List.find?_some hf;unfold eP at hgo;simp only[Bool.and_eq_true] at hgo;obtain⟨hm,hmm⟩:=hms x hxm;have hb:=uj g (hm.vc.gd x.L (by simp)) hgo.2 hby.a hby.b hby.d hby.z;have hs:=uk hx hR (more:=bG 1 (aD N bt)) (c:=bt.c) g hm hb ⟨hby.c0,hby.c1⟩ rfl;refine⟨zC hx (by have:=hR.1;omega) (by have:=hR.2.1;omega) (c:=bt.c) hI.1 hm hmm hb hby.cc hr2 hs λk=>?_,hI.2⟩;have:=hcnt k;rw[kT hx.n0 hx.n3] at this;exact this
theorem um(hx:ci p N w n){E:Int}(hR:kS E F)(h:LA p ra N w n E F X K acc r rows):acc.length<=1200000000000:=by have:=jO hx (E:=E) (F:=F) (by have:=hR.1;omega) (by have:=hR.2.1;omega) acc h.av.dn h.av.gd;omega
theorem zG(hx:ci p N w n){E:Int}(hE:E<=9700)(hF:F<=9700){fs:OI}(hv:cR p N w n E F fs)(hok:aG p (λu=>bi N w n E F u/\u.k<K) rows)(hcnt:∀k,p∣aq k rows.flatten-aq k fs):LA p ra N w n E F (λφ=>au φ fs) K [] none rows:=by
 refine⟨hok,bq.zero λφ=>?_,λu hu=>by simp at hu,⟨List.Pairwise.nil,λt ht=>by simp at ht,λt ht=>by simp at ht⟩,λt ht=>by simp at ht⟩;obtain⟨z,hz⟩:=ko (p:=p) (f:=rows.flatten) (g:=fs) (qN hx hE hF λu hu=>by
  rcases N1.1 hu with h1|h1
  .exact(iG hok u h1).1
  .exact hv.gd u h1) hcnt φ
 refine⟨-z,?_⟩;simp only[fp,fw];rw[Int.mul_neg];omega
end Go.Proofs.YtjkalahhpobefaaGreat
