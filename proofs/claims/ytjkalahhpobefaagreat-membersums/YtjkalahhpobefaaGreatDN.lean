/- A completion of what is. -/
import Derived.Test.YtjkalahhpobefaaGreatKZ
set_option maxHeartbeats 1000000
namespace Go.Proofs.YtjkalahhpobefaaGreat
set_option linter.all false
open Go.Proofs.Tryz Go.RowKit
variable{E:Nat->Nat->Prop}{dg:Nat->Int}{k0 k1 k2:Int}{f:Mm}{qs srt:PF}{ms:PD}{R:Nat}
theorem FF(hinv:Gb.iz C4.bR (cC ms) ms.length (λi j=>kU ms qs i j\/E i j) (m8 ms))(hnd:(ms.map Mm.blk).Nodup)(hld0:∀x∈ms,eH R x.L)(hpr0:∀q∈qs,∃x y,x∈ms/\y∈ms/\q.b1=x.blk/\q.b2=y.blk/\dh x.L y.L q)(hf:eH R f.L)(hg:f.gone=false)(hne:∀x∈ms,x.blk≠f.blk)(hs:srt.Perm ((ig ms f.L.pl.toNat).map λx=>di k0 k1 k2 dg x f)):Gb.iz C4.bR (cC (ms.map (aU f.L)++[f])) (ms.length+1) (λi j=>kU (ms.map (aU f.L)++[f]) (qs.filter (λq=>!fL ms f.L q)++bN [] srt) i j\/E i j) (m8 (ms.map (aU f.L)++[f])):=by
 have hlen:(ms.map (aU f.L)++[f]).length=ms.length+1:=by simp
 have hlt:∀i (hi:i<ms.length) (hi2:i<(ms.map (aU f.L)++[f]).length),(ms.map (aU f.L)++[f])[i]=aU f.L ms[i]:=λi hi hi2=>by rw[List.getElem_append_left (by simpa using hi),List.getElem_map]
 have hla:∀(hi2:ms.length<(ms.map (aU f.L)++[f]).length),(ms.map (aU f.L)++[f])[ms.length]=f:=λhi2=>by rw[List.getElem_append_right (by simp)];simp
 have hld:∀i,i<ms.length->cC (ms.map (aU f.L)++[f]) i=cC ms i:=λi hi=>by rw[dL hi,dL (by omega),hlt i hi (by omega),(cJ f.L _).1]
 have hln:cC (ms.map (aU f.L)++[f]) ms.length=ah f.L:=by rw[dL (by omega),hla (by omega)]
 have hal:∀q∈srt,∃(i:Nat)(hi:i<ms.length),ms[i].L.pl=f.L.pl/\ms[i].gone=false/\q=di k0 k1 k2 dg ms[i] f:=λq hq=>by
  obtain⟨x,hx,e⟩:=OR.1 (hs.mem_iff.1 hq);have hx2:=O5.1 hx;have hx3:=O5.1 hx2.1;obtain⟨i,hi,e2⟩:=Pm.1 hx3.1;have hp:=hf.pl;refine⟨i,hi,?_,?_,by rw[e2];exact e.symm⟩
  .rw[e2];have:=hx3.2;simp only[decide_eq_true_eq] at this;omega
  .rw[e2];simpa using hx2.2
 have hmem:∀q,q∈bN [] srt->q∈srt:=λq hq=>(oZ srt [] q hq).elim (λh=>by simp at h) id;have hpr:∀(i:Nat)(hi:i<ms.length),ms[i].L.pl=f.L.pl->dh ms[i].L f.L (di k0 k1 k2 dg ms[i] f):=λi hi e=>⟨e,rfl,rfl,rfl,rfl⟩;have inj:∀(i j:Nat)(hi:i<ms.length)(hj:j<ms.length),ms[i].blk=ms[j].blk->i=j:=λi j hi hj e=>by
  have h1:(ms.map Mm.blk)[i]'(by simpa using hi)=(ms.map Mm.blk)[j]'(by simpa using hj):=by simp[e]
  exact(List.getElem_inj hnd).1 h1
 have blk':∀i (hi2:i<(ms.map (aU f.L)++[f]).length),(∃hi:i<ms.length,(ms.map (aU f.L)++[f])[i].blk=ms[i].blk)\/(i=ms.length/\(ms.map (aU f.L)++[f])[i].blk=f.blk):=λi hi2=>by
  by_cases hi:i<ms.length
  .exact Pf ⟨hi,by rw[hlt i hi hi2,(cJ f.L _).2.1]⟩
  .have e:i=ms.length:=by omega
   subst e;exact Pg ⟨rfl,by rw[hla hi2]⟩
 have h0:Gb.iz C4.bR (cC (ms.map (aU f.L)++[f])) ms.length (λi j=>kU ms qs i j\/E i j) (m8 ms):=zr hinv hld (λ_ _=>Iff.rfl) λ_ _=>Iff.rfl;refine h0.step (kept:=λi=>∃(hi:i<ms.length),∃q∈bN [] srt,q.b1=ms[i].blk) (λx hx=>hx.1) (λx t hx hgx d1 d2=>?_) (λi j hp=>?_) (λi hi=>?_) (λi j hp=>?_) (λx=>?_)
 .rw[hld x hx,dL hx] at d1;rw[hln] at d2;have lx:=hld0 ms[x] (OE hx);have hpl:ms[x].L.pl=f.L.pl:=by have e1:(ah ms[x].L).1=(ah f.L).1:=d1.1.trans d2.1.symm;have p1:=lx.pl;have p2:=hf.pl;unfold ah at e1;simp only at e1;omega
  have hgx2:ms[x].gone=false:=by
   cases e:ms[x].gone with
   |true=>exact absurd ⟨hx,e⟩ hgx
   |false=>rfl
  have hin:di k0 k1 k2 dg ms[x] f∈srt:=by refine hs.mem_iff.2 (OR.2 ⟨ms[x],O5.2 ⟨O5.2 ⟨OE hx,?_⟩,by simp[hgx2]⟩,rfl⟩);have p2:=hf.pl;simp only[decide_eq_true_eq];omega
  rcases qS srt [] _ hin with h1|⟨q,hq,h1⟩
  .exact Pf ⟨hx,_,h1,rfl⟩
  .obtain⟨y,hy,ypl,ygo,rfl⟩:=hal q (hmem q hq);have ly:=hld0 ms[y] (OE hy);have hlc:C4.bR.dv (C4.bR.lc (ah ms[y].L) (ah f.L)) (C4.bR.lc (ah ms[x].L) (ah f.L)):=by rw[o6 ly hf,o6 lx hf,ypl,hpl];unfold jO eN at h1;simp only[Bool.and_eq_true,decide_eq_true_eq] at h1;obtain⟨⟨⟨a1,a2⟩,a3⟩,a4⟩:=h1;exact⟨rfl,Int.toNat_le_toNat a1,Int.toNat_le_toNat a2,Int.toNat_le_toNat a3,Int.toNat_le_toNat a4⟩
   refine Pg ⟨y,⟨hy,_,hq,rfl⟩,?_,?_⟩
   .rw[hld y hy,dL hy];exact C4.bR.trans (FG _ (ah f.L)) (C4.bR.trans hlc (C4.bR.lci d1 d2))
   .rw[hld y hy,dL hy,hln,hld x hx,dL hx];exact hlc
 .rcases Or.symm hp with hp|hp
  .exact Pf (Pg hp)
  obtain⟨hi2,hj2,q,hq,e1,e2⟩:=hp;rcases OK.1 hq with hq|hq
  .have hq2:=(O5.1 hq).1;obtain⟨x,y,hx,hy,f1,f2,_⟩:=hpr0 q hq2;rcases blk' i hi2 with ⟨hi,b1⟩|⟨_,b1⟩
   .rcases blk' j hj2 with ⟨hj,b2⟩|⟨_,b2⟩
    .exact Pf (Pf ⟨hi,hj,q,hq2,by rw[e1,b1],by rw[e2,b2]⟩)
    .exact absurd (f2.symm.trans (e2.trans b2)) (hne y hy)
   .exact absurd (f1.symm.trans (e1.trans b1)) (hne x hx)
  .obtain⟨x,hx,_,_,rfl⟩:=hal q (hmem q hq);rcases blk' i hi2 with ⟨hi,b1⟩|⟨_,b1⟩
   .rcases blk' j hj2 with ⟨hj,b2⟩|⟨ej,b2⟩
    .exact absurd (e2.trans b2).symm (hne ms[j] (OE hj))
    .exact Pg ⟨ej,hi,_,hq,by rw[e1,b1]⟩
   .exact absurd (e1.trans b1) (hne ms[x] (OE hx))
 .obtain⟨hi2,q,hq,e⟩:=hi;obtain⟨x,hx,_,_,rfl⟩:=hal q (hmem q hq);refine Pf ⟨by omega,by omega,_,OK.2 (Pg hq),?_,?_⟩
  .rw[e,hlt i hi2 (by omega),(cJ f.L _).2.1]
  .rw[hla (by omega)];rfl
 .rcases Or.symm hp with hp|hp
  .exact Pf (Pg hp)
  obtain⟨hi,hj,q,hq,e1,e2⟩:=hp;cases ht:fL ms f.L q with
  |false=>
   refine Pf (Pf ⟨by omega,by omega,q,OK.2 (Pf (O5.2 ⟨hq,by simp[ht]⟩)),?_,?_⟩)
   .rw[e1,hlt i hi (by omega),(cJ f.L _).2.1]
   .rw[e2,hlt j hj (by omega),(cJ f.L _).2.1]
  |true=>obtain⟨x,y,hx,hy,f1,f2,hp2⟩:=hpr0 q hq;have ex:x=ms[i]:=kr hnd hx (OE hi) (f1.symm.trans e1);have ey:y=ms[j]:=kr hnd hy (OE hj) (f2.symm.trans e2);subst ex ey;unfold fL at ht;rw[f1,f2,nc hnd hx,nc hnd hy] at ht;refine Pg ?_;rw[hld i hi,hld j hj,dL hi,dL hj,hln];exact FH hp2 (hld0 _ hx) (hld0 _ hy) hf ht
 .constructor
  .rintro ⟨hx,hgx⟩;rcases (by omega:x<ms.length\/x=ms.length) with hx2|rfl
   .rw[hlt x hx2 hx] at hgx;refine⟨hx2,?_⟩;rw[hln,hld x hx2,dL hx2];rcases (zu hf (hld0 _ (OE hx2))).1 hgx with h1|h1
    .exact Pf ⟨hx2,h1⟩
    .exact Pg h1
   .rw[hla hx,hg] at hgx;simp at hgx
  .rintro ⟨hx2,h1⟩;refine⟨by omega,?_⟩;rw[hlt x hx2 (by omega)];rw[hln,hld x hx2,dL hx2] at h1;refine(zu hf (hld0 _ (OE hx2))).2 ?_;rcases h1 with ⟨_,h1⟩|h1
   .exact Pf h1
   .exact Pg h1
variable{vs:PC}{N w n:Nat}{p:Int}
theorem ur(hx:bB p dg N w n)(hU:o7 p dg w n vs)(hf:kV p dg w n vs ms):ms.length<=2000005:=by
 obtain⟨k,k1,k2,k3⟩:=hf;obtain⟨_,us,u1,u2⟩:=hU;have hd:∀i,i<w+n->dN dg i<=3:=λi hi=>by have:=hx.dg i hi;unfold dN;omega
 have:=C4.EW (C4.ie w (dN dg)) (λx {_ _} h=>(C4.aN w (dN dg)).mono x h) C4.yu (zv hx.pr) (zw hx.pr) hx.hw hx.hn (λi hi=>by unfold dN;rw[hx.d0 i hi];rfl) hd u1 u2 k2 (λs hs=>by
  obtain⟨x,h1,rfl⟩:=OR.1 hs;exact k3 x h1)
 rw[OS,List.length_drop] at this;have:=hx.hn;omega
theorem zx{m q:Nat}(h:2*q<=m*m)(hm:m<=2000005):q<=2100000000000:=by have:=Nat.mul_le_mul hm hm;omega
variable{T:Int}
theorem Cs.raise{T2:Int}(h:Cs p dg N w n vs ms qs E T)(hq:∀q∈qs,T2<=q.dg):Cs p dg N w n vs ms qs E T2:=
 ⟨h.inv,h.nd,λq hqm=>by
  obtain⟨x,y,a1,a2,a3,a4,a5,a6,_⟩:=h.pr q hqm;exact⟨x,y,a1,a2,a3,a4,a5,a6,hq q hqm⟩,h.mb,h.vb,h.mx,h.my,h.ql⟩
variable{k:Nat}
theorem ut{α:Type}{l:List α}(hk:k<l.length){x:α}:x∈l↔x=l[k]\/x∈l.take k++l.drop (k+1):=by
 have e:l=l.take k++l[k]::l.drop (k+1):=by rw[<-Pd hk,List.take_append_drop]
 constructor
 .intro h;rw[e] at h;rcases OK.1 h with h|h
  .exact Pg (OK.2 (Pf h))
  .rcases OY.1 h with h|h
   .exact Pf h
   .exact Pg (OK.2 (Pg h))
 .rintro (h|h)
  .rw[h];exact OE hk
  .rcases OK.1 h with h|h
   .exact Pj h
   .exact List.mem_of_mem_drop h
theorem Cs.pop(h:Cs p dg N w n vs ms qs E T)(hk:k<qs.length)(hmin:∀q∈qs,qs[k].dg<=q.dg):∃(i j:Nat)(hi:i<ms.length)(hj:j<ms.length),qs[k].b1=ms[i].blk/\qs[k].b2=ms[j].blk/\dh ms[i].L ms[j].L qs[k]/\qs[k].dg=qs[k].a+qs[k].b+qs[k].d+qs[k].z+dg ms[i].L.pl.toNat/\T<=qs[k].dg/\Cs p dg N w n vs ms (qs.take k++qs.drop (k+1)) (λa b=>E a b\/(a=i/\b=j)) qs[k].dg:=by
 obtain⟨x,y,a1,a2,a3,a4,a5,a6,a7⟩:=h.pr qs[k] (OE hk);obtain⟨i,hi,rfl⟩:=Pm.1 a1;obtain⟨j,hj,rfl⟩:=Pm.1 a2;have inj:∀(a b:Nat)(ha:a<ms.length)(hb:b<ms.length),ms[a].blk=ms[b].blk->a=b:=λa b ha hb e=>by
  have h1:(ms.map Mm.blk)[a]'(by simpa using ha)=(ms.map Mm.blk)[b]'(by simpa using hb):=by simp[e]
  exact(List.getElem_inj h.nd).1 h1
 refine⟨i,j,hi,hj,a3,a4,a5,a6,a7,zr h.inv (λ_ _=>rfl) (λa b=>?_) λ_ _=>Iff.rfl,h.nd,λq hq=>?_,h.mb,h.vb,h.mx,h.my,?_⟩
 .constructor
  .rintro (⟨ha,hb,q,hq,e1,e2⟩|hE|⟨rfl,rfl⟩)
   .exact Pf ⟨ha,hb,q,(ut hk).2 (Pg hq),e1,e2⟩
   .exact Pg hE
   .exact Pf ⟨hi,hj,_,OE hk,a3,a4⟩
  .rintro (⟨ha,hb,q,hq,e1,e2⟩|hE)
   .rcases (ut hk).1 hq with e|hq
    .refine Pg (Pg ⟨inj _ _ ha hi ?_,inj _ _ hb hj ?_⟩)
     .rw[<-e1,e,a3]
     .rw[<-e2,e,a4]
    .exact Pf ⟨ha,hb,q,hq,e1,e2⟩
   .exact Pg (Pf hE)
 .have hq2:=(ut hk).2 (Pg hq);obtain⟨x,y,c1,c2,c3,c4,c5,c6,_⟩:=h.pr q hq2;exact⟨x,y,c1,c2,c3,c4,c5,c6,hmin q hq2⟩
 .have:=h.ql;simp only[OM,O7,List.length_drop];omega
theorem jr(ms:PD)(f:Mm):fm (ms++[f])=fm ms++[f.L::f.r]:=by simp[fm]
theorem uw(L:Ft)(ms:PD):fm (ms.map (aU L))=fm ms:=by unfold fm;rw[List.map_map];refine List.map_congr_left λx _=>?_;have h:=cJ L x;simp only[Function.comp];rw[h.1,h.2.2]
variable{ts:PB}{t:Ft}{D:Int}
theorem dR.deg{E:Int}(h:dR p dg N w n D (t::ts))(k:dR p dg N w n E (t::ts)):D=E:=by have a:=(h.gd t (by simp)).deg;have b:=(k.gd t (by simp)).deg;omega
theorem Cs.add(hx:bB p dg N w n){us:PC}(h:Cs p dg N w n vs ms qs E T)(hTD:T<=D)(hD:D<=4801)(hf:iE p dg N w n D f.L f.r)(hg:f.gone=false)(hne:∀x∈ms,x.blk≠f.blk)(hs:srt.Perm ((ig ms f.L.pl.toNat).map λx=>di k0 k1 k2 dg x f))(hus:nf p dg N w n 3 us)(hmx:Gb.Vb (aE p dg w (vs++us)) (λs=>aZ dg s=D.toNat) λφ=>aq φ (f.L::f.r))(hmy:∀v∈us,∀D,dR p dg N w n D v->Gb.Vb (aE p dg w (fm (ms++[f]))) (λs=>aZ dg s=D.toNat) λφ=>aq φ v):Cs p dg N w n (vs++us) (ms.map (aU f.L)++[f]) (qs.filter (λq=>!fL ms f.L q)++bN [] srt) E T:=by
 have gf:=hf.gd f.L (by simp);have lf:=gf.ld4;have hld:∀x∈ms,eH (w+n) x.L:=λx hxm=>by obtain⟨D,_,h3⟩:=h.mb x hxm;exact(h3.gd x.L (by simp)).ld4
 have hpr2:∀q∈qs,∃x y,x∈ms/\y∈ms/\q.b1=x.blk/\q.b2=y.blk/\dh x.L y.L q:=λq hq=>by obtain⟨x,y,a1,a2,a3,a4,a5,_⟩:=h.pr q hq;exact⟨x,y,a1,a2,a3,a4,a5⟩
 have hinv:=FF h.inv h.nd hld hpr2 lf hg hne hs;have hex1:=mc p dg w vs us;have hex2:=mc p dg w (fm ms) [f.L::f.r];rw[<-jr] at hex2;have efm:fm (ms.map (aU f.L)++[f])=fm (ms++[f]):=by rw[jr,jr,uw]
 have hal:∀q∈bN [] srt,∃x∈ms,x.L.pl=f.L.pl/\q=di k0 k1 k2 dg x f:=λq hq=>by have hq2:=(oZ srt [] q hq).elim (λh=>by simp at h) id;obtain⟨x,hxm,e⟩:=OR.1 (hs.mem_iff.1 hq2);have h2:=O5.1 (O5.1 hxm).1;have h3:=h2.2;have hp:=lf.pl;simp only[decide_eq_true_eq] at h3;exact⟨x,h2.1,by omega,e.symm⟩
 have hmg:∀x∈ms.map (aU f.L),∃y∈ms,x=aU f.L y:=λx hx=>by obtain⟨y,h1,h2⟩:=OR.1 hx;exact⟨y,h1,h2.symm⟩
 refine⟨by rw[OM,OS];exact hinv,?_,λq hq=>?_,λx hxm=>?_,λv hv=>?_,λx hxm D2 hD2=>?_,λv hv D2 hD2=>?_,?_⟩
 .rw[O0,List.map_map];have e:(Mm.blk∘aU f.L)=Mm.blk:=by funext x;exact(cJ f.L x).2.1
  rw[e];refine List.nodup_append.2 ⟨h.nd,by simp,λa ha b hb=>?_⟩;simp at hb;obtain⟨x,hxm,rfl⟩:=OR.1 ha;rw[hb];exact hne x hxm
 .rcases OK.1 hq with hq|hq
  .obtain⟨x,y,a1,a2,a3,a4,a5,a6,a7⟩:=h.pr q (O5.1 hq).1;refine⟨aU f.L x,aU f.L y,by simp only[OK,OR];exact Pf ⟨x,a1,rfl⟩,by simp only[OK,OR];exact Pf ⟨y,a2,rfl⟩,?_,?_,?_,?_,a7⟩
   .rw[(cJ f.L x).2.1];exact a3
   .rw[(cJ f.L y).2.1];exact a4
   .rw[(cJ f.L x).1,(cJ f.L y).1];exact a5
   .rw[(cJ f.L x).1];exact a6
  .obtain⟨x,hxm,hpl,rfl⟩:=hal q hq;have gd:=gf.deg;refine⟨aU f.L x,f,by simp only[OK,OR];exact Pf ⟨x,hxm,rfl⟩,by simp,by rw[(cJ f.L x).2.1];rfl,rfl,?_,?_,?_⟩
   .rw[(cJ f.L x).1];exact⟨hpl,rfl,rfl,rfl,rfl⟩
   .rw[(cJ f.L x).1];show ng x.L f.L+dg x.L.pl.toNat=dj x.L f.L+dk x.L f.L+dp x.L f.L+dq x.L f.L+dg x.L.pl.toNat;unfold ng;omega
   .show T<=ng x.L f.L+dg x.L.pl.toNat;rw[hpl];unfold ng dj dk dp dq;omega
 .rcases OK.1 hxm with hxm|hxm
  .obtain⟨y,hy,rfl⟩:=hmg x hxm;rw[(cJ f.L y).1,(cJ f.L y).2.2];exact h.mb y hy
  .rw[OL] at hxm;subst hxm;exact⟨D,hD,hf⟩
 .rcases OK.1 hv with hv|hv
  .exact h.vb v hv
  .exact hus v hv
 .rcases OK.1 hxm with hxm|hxm
  .obtain⟨y,hy,rfl⟩:=hmg x hxm;rw[(cJ f.L y).1,(cJ f.L y).2.2] at hD2⊢;exact mf hex1 (h.mx y hy D2 hD2)
  .rw[OL] at hxm;subst hxm;rw[hD2.vch.deg hf.vch];exact hmx
 .rw[efm];rcases OK.1 hv with hv|hv
  .exact mf hex2 (h.my v hv D2 hD2)
  .exact hmy v hv D2 hD2
 .have h1:=h.ql;have h2:(bN [] srt).length<=srt.length:=by
   have:∀(xs kept:PF),(bN kept xs).length<=kept.length+xs.length:=by
    intro xs;induction xs with
    |nil=>intro kept;simp[bN]
    |cons x xs ih=>
     intro kept;unfold bN;split
     .have:=ih kept;simp only[OZ];omega
     .have:=ih (kept++[x]);simp only[OM,OZ,List.length_nil] at this⊢;omega
   have:=this srt [];simpa using this
  have h3:=hs.length_eq;rw[OS] at h3;have h4:(ig ms f.L.pl.toNat).length<=(a8 ms f.L.pl.toNat).length:=Pc _ _;have h5:(a8 ms f.L.pl.toNat).length<=ms.length:=Pc _ _;have h6:=Pc (λq=>!fL ms f.L q) qs;simp only[OM,OZ,List.length_nil,OS];have h7:(ms.length+(0+1))*(ms.length+(0+1))=ms.length*ms.length+2*ms.length+1:=by grind
  omega
variable{v:PB}
theorem Cs.putv(h:Cs p dg N w n vs ms qs E T)(hD:D<=3)(hv:dR p dg N w n D v)(hne:v≠[])(hm:Gb.Vb (aE p dg w (fm ms)) (λs=>aZ dg s=D.toNat) λφ=>aq φ v):Cs p dg N w n (vs++[v]) ms qs E T:=by
 refine⟨h.inv,h.nd,h.pr,h.mb,λu hu=>?_,λx hxm D2 hD2=>mf (mc p dg w vs [v]) (h.mx x hxm D2 hD2),λu hu D2 hD2=>?_,h.ql⟩
 .rcases OK.1 hu with hu|hu
  .exact h.vb u hu
  .rw[OL] at hu;subst hu;exact⟨D,hD,hne,hv⟩
 .rcases OK.1 hu with hu|hu
  .exact h.my u hu D2 hD2
  .rw[OL] at hu;subst hu;cases u with
   |nil=>exact absurd rfl hne
   |cons t ts=>rw[hD2.deg hv];exact hm
theorem o8(L:Ft)(ms:PD)(f:Mm)(hk:k<ms.length):cC (ms.map (aU L)++[f]) k=cC ms k:=by rw[dL hk,dL (by simp;omega),List.getElem_append_left (by simpa using hk),List.getElem_map,(cJ L _).1]
theorem eO.ext(hx:bB p dg N w n){E2:Nat->Nat->Prop}(h:Cs p dg N w n vs ms qs E2 T)(hE:eO p dg w ms E)(L:Ft)(f:Mm):eO p dg w (ms.map (aU L)++[f]) E:=λi j hij=>by obtain⟨hi,hj,a,b,h1,h2,h3⟩:=hE i j hij;have hl:=nh hx (by omega) h.msh;refine⟨by simp;omega,by simp;omega,a,b,by rw[o8 L ms f hi,o8 L ms f hj];exact h1,by rw[o8 L ms f hi,o8 L ms f hj];exact h2,?_⟩;have hex:=mc p dg w (fm ms) [f.L::f.r];rw[<-jr] at hex;rw[jr,uw,<-jr];exact FI hex (hl.live i (by rw[iX];exact hi)) (hl.live j (by rw[iX];exact hj)) h3
def gM(N w:Nat)(q:Pq)(pl:Int):Ft:=⟨gq w pl (aD N ⟨0,q.a,q.b,q.d,q.z,pl,1⟩),q.a,q.b,q.d,q.z,pl,1⟩
variable{q:Pq}{x y:Ft}{D1 D2:Int}
theorem dh.gdS(h:dh x y q)(gx:aS dg N w n D1 x)(gy:aS dg N w n D2 y):aS dg N w n (q.a+q.b+q.d+q.z+dg x.pl.toNat) (gM N w q x.pl):=by
 have h1:=h.a;have h2:=h.b;have h3:=h.d;have h4:=h.z;unfold dj at h1;unfold dk at h2;unfold dp at h3;unfold dq at h4;have x1:=gx.a;have x2:=gx.b;have x3:=gx.d;have x4:=gx.z;have y1:=gy.a;have y2:=gy.b;have y3:=gy.d;have y4:=gy.z;refine⟨rfl,?_,?_,?_,?_,rfl,gx.pl0,gx.pl,λh=>?_,λh=>?_⟩
 .show 0<=q.a;omega
 .show 0<=q.b;omega
 .show 0<=q.d;omega
 .show 0<=q.z;omega
 .show q.b=0;have:=gx.n1 h;have:=gy.n1 h;omega
 .show q.d=0;have:=gx.n2 h;have:=gy.n2 h;omega
theorem dh.btbS(hx:bB p dg N w n)(h:dh x y q)(gx:aS dg N w n D1 x)(gy:aS dg N w n D2 y)(h1:D1<=4801)(h2:D2<=4801):nj q x/\nj q y/\q.a+q.b+q.d+q.z+dg x.pl.toNat<=9602:=by have h1:=h.a;have h2:=h.b;have h3:=h.d;have h4:=h.z;have h5:=h.pl;unfold dj at h1;unfold dk at h2;unfold dp at h3;unfold dq at h4;have x1:=gx.a;have x2:=gx.b;have x3:=gx.d;have x4:=gx.bd hx;have x5:=gx.z;have x6:=gx.deg;have y1:=gy.a;have y2:=gy.b;have y3:=gy.d;have y4:=gy.bd hx;have y5:=gy.z;exact⟨⟨by omega,by omega,by omega,by omega⟩,⟨by omega,by omega,by omega,by omega⟩,by omega⟩
variable{c:Int}
theorem dh.byxS(hx:bB p dg N w n)(h:dh x y q)(gx:aS dg N w n D1 x)(gy:aS dg N w n D2 y)(h1:D1<=4801)(h2:D2<=4801):js N (gM N w q x.pl) x (bI q x c)/\js N (gM N w q x.pl) y (bI q y c):=by
 obtain⟨b1,b2,_⟩:=h.btbS hx gx gy h1 h2;have gP:=h.gdS gx gy;constructor
 .refine qT gP gx ?_ rfl rfl rfl rfl;have h1:=b1.a;have h2:=b1.b;have h3:=b1.d;have h4:=b1.z;unfold cA eN gM;simp only[Bool.and_eq_true,decide_eq_true_eq];exact⟨trivial,⟨⟨by omega,by omega⟩,by omega⟩,by omega⟩
 .refine qT gP gy ?_ rfl rfl rfl rfl;have h1:=b2.a;have h2:=b2.b;have h3:=b2.d;have h4:=b2.z;unfold cA eN gM;simp only[Bool.and_eq_true,decide_eq_true_eq];exact⟨h.pl.symm,⟨⟨by omega,by omega⟩,by omega⟩,by omega⟩
theorem FJ(h:dh x y q)(lx:eH R x)(ly:eH R y):ah (gM N w q x.pl)=C4.bR.lc (ah x) (ah y):=by rw[h.lc4 lx ly];rfl
structure PS{p:Int}{dg:Nat->Int}{w:Nat}(G:Gb.bu (C4.aN w (dN dg)) p)(N n:Nat)(D:Int)(A:C4.Tt->Prop)(X:Gb.Fn C4.Tt)(K:Int)(ms:PD)(acc:PB):Prop where
 vc:dR p dg N w n D acc
 no:∀t∈acc,eP ms t=none
 lt:∀t∈acc,t.k<K
 vb:Gb.Vb G (λs=>A s/\aZ dg s=D.toNat) λφ=>X φ-aq φ acc
variable{X:Gb.Fn C4.Tt}
theorem Cs.to_vs(hx:bB p dg N w n)(h:Cs p dg N w n vs ms qs E T){D:Nat}(hv:Gb.Vb (aE p dg w (fm ms)) (λs=>aZ dg s=D) X):Gb.Vb (aE p dg w vs) (λs=>aZ dg s=D) X:=by
 refine zy (λi hi=>?_) hv;have hi:=ks hi;rw[iX] at hi;obtain⟨D2,_,h3⟩:=h.mb ms[i] (OE hi);have h4:=h.mx ms[i] (OE hi) D2 h3;have e1:(aE p dg w (fm ms)).ld i=ah ms[i].L:=by rw[gN,dL hi]
 have e2:(aE p dg w (fm ms)).g i=aK (ms[i].L::ms[i].r):=by show aK _=_;rw[fk (nk hi)]
 rw[e1,e2,((h3.gd _ (by simp)).ts hx).1];exact h4
variable{a:C4.Mt}{i:Nat}
theorem zA{G:Gb.bu (C4.aN w (dN dg)) p}(hi:G.live i){D:Nat}(hD:aZ dg (C4.aw a (G.ld i))=D):Gb.Vb G (λs=>aZ dg s=D) (Gb.Hm G i a):=
 ⟨[(G.iv i,a,i)],λr hr=>by rw[OL] at hr;rw[hr];exact⟨hi,hD⟩,λφ=>⟨0,by unfold Gb.Hm;simp only[Gb.ev];omega⟩⟩
theorem zB(hx:bB p dg N w n)(hv:dR p dg N w n D (t::ts))(φ:C4.Tt->Int):p∣aq φ (t::ts)-t.c*aq φ (dM p (aV p t.c) t::ts.map (dM p (aV p t.c))):=by
 obtain⟨z,hz⟩:=qU (p:=p) (i:=aV p t.c) φ (t::ts);obtain⟨y,hy⟩:=qV hx.pr (hv.co t (by simp));rw[List.map_cons] at hz;generalize aq φ (dM p (aV p t.c) t::ts.map (dM p (aV p t.c)))=A at*;generalize aq φ (t::ts)=B at*;generalize aV p t.c=i at*;have e:A=i*B+p*z:=by omega
 have e2:t.c*i=1+p*y:=by omega
 refine⟨-(y*B)-t.c*z,?_⟩;rw[e];have e3:t.c*(i*B+p*z)=(t.c*i)*B+t.c*(p*z):=by grind
 rw[e3,e2];grind
theorem o9(s:C4.Tt):C4.aw (0,0,0,0) s=s:=by obtain⟨i,a,b,c,e⟩:=s;simp[C4.aw,C4.bH]
variable{A:C4.Tt->Prop}
theorem zC(hx:bB p dg N w n)(hD:D<=9700)(hf:iE p dg N w n D f.L f.r)(hA:A (ah f.L))(c:Int):Gb.Vb (aE p dg w (fm (ms++[f]))) (λs=>A s/\aZ dg s=D.toNat) λφ=>c*aq φ (f.L::f.r):=by
 have hl:(fm (ms++[f]))[ms.length]?=some (f.L::f.r):=by rw[jr,O9 (by rw[iX];exact Ou _),iX];simp
 have hlive:=qW hx hD hl hf.vch;have eld:(aE p dg w (fm (ms++[f]))).ld ms.length=ah f.L:=by show ii _=_;rw[fk hl];rfl
 have eg:(aE p dg w (fm (ms++[f]))).g ms.length=aK (f.L::f.r):=by show aK _=_;rw[fk hl]
 have ez:∀s:C4.Tt,C4.aw (0,0,0,0) s=s:=o9;refine⟨[(c,(0,0,0,0),ms.length)],λr hr=>?_,λφ=>⟨0,?_⟩⟩
 .rw[OL] at hr;rw[hr];refine⟨hlive,?_⟩;show A (C4.aw (0,0,0,0) _)/\aZ dg (C4.aw (0,0,0,0) _)=_;rw[ez,eld];exact⟨hA,((hf.gd f.L (by simp)).ts hx).1⟩
 .simp only[Gb.ev];rw[eg];have e:Gb.ln (λt=>φ ((C4.aN w (dN dg)).act (0,0,0,0) t)) (aK (f.L::f.r))=aq φ (f.L::f.r):=by
   have e2:(λt=>φ ((C4.aN w (dN dg)).act (0,0,0,0) t))=φ:=by funext t;show φ (C4.aw (0,0,0,0) t)=φ t;rw[o9]
   rw[e2];rfl
  rw[e];omega
variable{b:C4.Mt}{P:Ft}{K:Int}{j:Nat}
theorem FK(hE:eO p dg w ms E)(hi:i<ms.length)(hj:j<ms.length)(e1:C4.aw a (cC ms i)=ah P)(e2:C4.aw b (cC ms j)=ah P)(e3:ah P=C4.bR.lc (cC ms i) (cC ms j))(hl:PS (aE p dg w (fm ms)) N n D (λs=>(C4.aN w (dN dg)).lt s (ah P)) (λφ=>Gb.Hm (aE p dg w (fm ms)) i a φ-Gb.Hm (aE p dg w (fm ms)) j b φ) K ms []):eO p dg w ms (λx y=>E x y\/(x=i/\y=j)):=by
 rintro x y (h|⟨rfl,rfl⟩)
 .exact hE x y h
 .refine⟨hi,hj,a,b,by rw[e1,e3],by rw[e2,e3],?_⟩;unfold Gb.Rl;have e4:(C4.aN w (dN dg)).act a ((aE p dg w (fm ms)).ld x)=ah P:=by rw[gN];exact e1
  rw[e4];exact(hl.vb.mono λs hs=>hs.1).congr λφ=>⟨0,by rw[fl];omega⟩
theorem FL(hx:bB p dg N w n){qs2:PF}(h:Cs p dg N w n vs ms qs E T)(hE:eO p dg w ms E)(hU:o7 p dg w n vs)(hfw:kV p dg w n vs ms)(hq:∀q∈qs,D<=q.dg)(hi:i<ms.length)(hj:j<ms.length)(h2:Cs p dg N w n vs ms qs2 (λx y=>E x y\/(x=i/\y=j)) D)(hD:D<=9700)(gP:aS dg N w n D P)(e1:C4.aw a (cC ms i)=ah P)(e2:C4.aw b (cC ms j)=ah P)(e3:ah P=C4.bR.lc (cC ms i) (cC ms j))(hl:PS (aE p dg w (fm ms)) N n D (λs=>(C4.aN w (dN dg)).lt s (ah P)) (λφ=>Gb.Hm (aE p dg w (fm ms)) i a φ-Gb.Hm (aE p dg w (fm ms)) j b φ) P.k ms (t::ts))(f1:f.L=dM p (aV p t.c) t)(f2:f.r=ts.map (dM p (aV p t.c)))(hg:f.gone=false)(hne:∀x∈ms,x.blk≠f.blk)(hs:srt.Perm ((ig ms f.L.pl.toNat).map λx=>di k0 k1 k2 dg x f)):Cs p dg N w n vs (ms.map (aU f.L)++[f]) (qs2.filter (λq=>!fL ms f.L q)++bN [] srt) (λx y=>E x y\/(x=i/\y=j)) D/\eO p dg w (ms.map (aU f.L)++[f]) (λx y=>E x y\/(x=i/\y=j))/\kV p dg w n vs (ms.map (aU f.L)++[f]):=by
 have hlive:=(nh hx (by omega) h.msh).live;have li:=hlive i (by rw[iX];exact hi);have lj:=hlive j (by rw[iX];exact hj);have hP:=(gP.ts hx).1;have d1:aZ dg (C4.aw a ((aE p dg w (fm ms)).ld i))=D.toNat:=by rw[gN,e1,hP]
 have d2:aZ dg (C4.aw b ((aE p dg w (fm ms)).ld j))=D.toNat:=by rw[gN,e2,hP]
 have hm:Gb.Vb (aE p dg w (fm ms)) (λs=>aZ dg s=D.toNat) λφ=>aq φ (t::ts):=
  (Gb.Vb.add (Gb.Vb.add (zA li d1) (Gb.Vb.scl (-1) (zA lj d2))) (Gb.Vb.scl (-1) (hl.vb.mono λs hs=>hs.2))).congr λφ=>⟨0,by omega⟩
 have gt:=hl.vc.gd t (by simp);have hml:=h.ml hx hE hD hq hl.vc hm (hl.no t (by simp)) hU.1;have hmb:=zE hx hl.vc;have hf:iE p dg N w n D f.L f.r:=by rw[f1,f2];exact hmb
 have lt:=gt.ld4;have ete:ah f.L=ah t:=by rw[f1];rfl
 have hsm:D<=4801:=by
  obtain⟨_,us,u1,u2⟩:=hU;have hd:∀i,i<w+n->dN dg i<=3:=λi hi=>by have:=hx.dg i hi;unfold dN;omega
  have hts:=gt.ts hx;have hb:=C4.yv (C4.ie w (dN dg)) (λx {_ _} h=>(C4.aN w (dN dg)).mono x h) C4.yu (zv hx.pr) (zw hx.pr) hx.hw (λi hi=>by unfold dN;rw[hx.d0 i hi];rfl) hd u1 u2 (s:=ah t) hts.2 hml.1 hml.2;have e:=hts.1;unfold aZ at e;omega
 have hno:∀x∈ms,¬C4.bR.dv (ah x.L) (ah f.L):=λx hxm=>by rw[ete];exact h.no_dv lt (hl.no t (by simp)) x hxm
 have hmx:Gb.Vb (aE p dg w (vs++[])) (λs=>aZ dg s=D.toNat) λφ=>aq φ (f.L::f.r):=by rw[List.append_nil];refine(Gb.Vb.scl (aV p t.c) (h.to_vs hx hm)).congr λφ=>?_;have:=qU (p:=p) (i:=aV p t.c) φ (t::ts);rw[f1,f2];exact this
 have hcp:=h2.add hx (us:=[]) (Int.le_refl _) hsm hf hg hne hs (λv hv=>by simp at hv) hmx (λv hv=>by simp at hv);rw[List.append_nil] at hcp;refine⟨hcp,?_,?_⟩
 .rintro x y (h3|⟨rfl,rfl⟩)
  .exact eO.ext hx h hE f.L f x y h3
  .have e:∀k,k<ms.length->cC (ms.map (aU f.L)++[f]) k=cC ms k:=λk hk=>o8 f.L ms f hk;refine⟨by simp;omega,by simp;omega,a,b,by rw[e x hi,e y hj,e1,e3],by rw[e x hi,e y hj,e2,e3],?_⟩;have hex:=mc p dg w (fm ms) [f.L::f.r];rw[<-jr] at hex;unfold Gb.Rl;have e4:(C4.aN w (dN dg)).act a ((aE p dg w (fm (ms.map (aU f.L)++[f]))).ld x)=ah P:=by rw[gN,e x hi];exact e1
   rw[e4,jr,uw,<-jr];have hA:(C4.aN w (dN dg)).lt (ah f.L) (ah P):=by rw[ete];exact qX hx hD gt gP (hl.lt t (by simp))
   refine((Gb.Vb.add (mf hex hl.vb) (zC hx hD hf (A:=λs=>(C4.aN w (dN dg)).lt s (ah P)) hA t.c)).mono λs hs=>hs.1).congr λφ=>?_;obtain⟨z,hz⟩:=zB hx hl.vc φ;rw[<-f1,<-f2] at hz;refine⟨z,?_⟩;have q1:Gb.Hm (aE p dg w (fm (ms++[f]))) x a φ=Gb.Hm (aE p dg w (fm ms)) x a φ:=by unfold Gb.Hm;rw[hex.g _ li,hex.iv _ li]
   have q2:Gb.Hm (aE p dg w (fm (ms++[f]))) y b φ=Gb.Hm (aE p dg w (fm ms)) y b φ:=by unfold Gb.Hm;rw[hex.g _ lj,hex.iv _ lj]
   rw[q1,q2];omega
 .obtain⟨k,k1,k2,k3⟩:=hfw;by_cases hk:k<=ms.length
  .have ed:(ms.map (aU f.L)++[f]).drop k=(ms.drop k).map (aU f.L)++[f]:=by rw[List.drop_append_of_le_length (by simpa using hk),List.map_drop]
   have em:((ms.drop k).map (aU f.L)).map (λx=>ah x.L)=(ms.drop k).map λx=>ah x.L:=by rw[List.map_map];refine List.map_congr_left λx _=>?_;simp only[Function.comp];rw[(cJ f.L x).1]
   refine⟨k,k1,?_,λx hxm=>?_⟩
   .rw[ed,O0,em];refine List.nodup_append.2 ⟨k2,by simp,λu hu v hv e=>?_⟩;simp only[List.map_cons,List.map_nil,OL] at hv;obtain⟨x,x1,rfl⟩:=OR.1 hu;refine hno x (List.mem_of_mem_drop x1) ?_;have e:ah x.L=ah f.L:=e.trans hv;rw[e];exact C4.bR.refl _
   .rw[ed] at hxm;rcases OK.1 hxm with hxm|hxm
    .obtain⟨y,y1,rfl⟩:=OR.1 hxm;rw[(cJ f.L y).1];exact k3 y y1
    .rw[OL] at hxm;subst hxm;rw[ete];refine⟨?_,hml⟩;have:=(hf.gd x.L (by simp)).pl;have:=(hf.gd x.L (by simp)).pl0;omega
  .refine⟨k,k1,?_,λx hxm=>?_⟩
   .rw[Pe (by simp;omega)];simp
   .rw[Pe (by simp;omega)] at hxm;simp at hxm
theorem FM(h:Cs p dg N w n vs ms qs E T)(hD:D<=3)(hv:dR p dg N w n D v)(hne:v≠[])(hl:PS (aE p dg w (fm ms)) N n D (λ_=>True) (λφ=>aq φ v) K ms []):Cs p dg N w n (vs++[v]) ms qs E T:=
 h.putv hD hv hne ((hl.vb.mono λs hs=>hs.2).congr λφ=>⟨0,by rw[fl];omega⟩)
theorem FN(hx:bB p dg N w n)(h:Cs p dg N w n vs ms qs E T)(hE:eO p dg w ms E)(hTD:T<=D)(hD:D<=3)(hv:dR p dg N w n D v)(hnv:v≠[])(hl:PS (aE p dg w (fm ms)) N n D (λ_=>True) (λφ=>aq φ v) K ms (t::ts))(f1:f.L=dM p (aV p t.c) t)(f2:f.r=ts.map (dM p (aV p t.c)))(hg:f.gone=false)(hne:∀x∈ms,x.blk≠f.blk)(hs:srt.Perm ((ig ms f.L.pl.toNat).map λx=>di k0 k1 k2 dg x f)):Cs p dg N w n (vs++[v]) (ms.map (aU f.L)++[f]) (qs.filter (λq=>!fL ms f.L q)++bN [] srt) E T/\eO p dg w (ms.map (aU f.L)++[f]) E:=by
 have hmb:=zE hx hl.vc;have hf:iE p dg N w n D f.L f.r:=by rw[f1,f2];exact hmb
 have hlv:(vs++[v])[vs.length]?=some v:=by simp
 have hvv:Gb.Vb (aE p dg w (vs++[v])) (λs=>aZ dg s=D.toNat) λφ=>aq φ v:=by
  cases v with
  |nil=>exact absurd rfl hnv
  |cons u us=>
   have hlive:=qW hx (by omega) hlv hv;have eld:(aE p dg w (vs++[u::us])).ld vs.length=ah u:=by show ii _=_;rw[fk hlv];rfl
   have eg:(aE p dg w (vs++[u::us])).g vs.length=aK (u::us):=by show aK _=_;rw[fk hlv]
   refine⟨[(1,(0,0,0,0),vs.length)],λr hr=>?_,λφ=>⟨0,?_⟩⟩
   .rw[OL] at hr;rw[hr];refine⟨hlive,?_⟩;show aZ dg (C4.aw (0,0,0,0) _)=_;rw[o9,eld];exact((hv.gd u (by simp)).ts hx).1
   .simp only[Gb.ev];rw[eg];have e:Gb.ln (λt=>φ ((C4.aN w (dN dg)).act (0,0,0,0) t)) (aK (u::us))=aq φ (u::us):=by
     have e2:(λt=>φ ((C4.aN w (dN dg)).act (0,0,0,0) t))=φ:=by funext t;show φ (C4.aw (0,0,0,0) t)=φ t;rw[o9]
     rw[e2];rfl
    rw[e];omega
 have hmx:Gb.Vb (aE p dg w (vs++[v])) (λs=>aZ dg s=D.toNat) λφ=>aq φ (f.L::f.r):=by
  have h1:=mf (mc p dg w vs [v]) (h.to_vs hx (hl.vb.mono λs hs=>hs.2));refine(Gb.Vb.scl (aV p t.c) (Gb.Vb.add hvv (Gb.Vb.scl (-1) h1))).congr λφ=>?_;obtain⟨z,hz⟩:=qU (p:=p) (i:=aV p t.c) φ (t::ts);rw[f1,f2];refine⟨z,?_⟩;rw[<-hz,List.map_cons];have e:aq φ v+-1*(aq φ v-aq φ (t::ts))=aq φ (t::ts):=by omega
  rw[e]
 have hex:=mc p dg w (fm ms) [f.L::f.r];rw[<-jr] at hex;have hcp:=h.add hx (us:=[v]) hTD (by omega) hf hg hne hs (λu hu=>by rw[OL] at hu;subst hu;exact⟨D,hD,hnv,hv⟩) hmx (λu hu D2 hD2=>by
  rw[OL] at hu;subst hu;have e:D2=D:=by
   cases u with
   |nil=>exact absurd rfl hnv
   |cons a xs=>exact hD2.deg hv
  rw[e];refine((Gb.Vb.add (mf hex hl.vb) (zC hx (by omega) hf (A:=λ_=>True) trivial t.c)).mono λs hs=>hs.2).congr λφ=>?_;obtain⟨z,hz⟩:=zB hx hl.vc φ;rw[<-f1,<-f2] at hz;exact⟨z,by omega⟩)
 exact⟨hcp,eO.ext hx h hE f.L f⟩
def zt(s:C4.Tt):C4.Tt:=(s.1,s.2.1,s.2.2.1,s.2.2.2.1,0)
def zm(m:C4.Mt):C4.Mt:=(m.1,m.2.1,m.2.2.1,0)
theorem FO(m:C4.Mt)(s:C4.Tt):zt (C4.aw m s)=C4.aw (zm m) (zt s):=rfl
def cP(ra:List (List (Int×C4.Tt)))(φ:C4.Tt->Int):List (Int×C4.Mt×Nat)->Int
 |[]=>0
 |r::rp=>r.1*Gb.ln (λt=>φ (C4.aw r.2.1 t)) (ra.getD r.2.2 [])+cP ra φ rp
theorem zG(ra:List (List (Int×C4.Tt)))(φ:C4.Tt->Int):∀rp rq,cP ra φ (rp++rq)=cP ra φ rp+cP ra φ rq
 |[],rq=>by simp[cP]
 |r::rp,rq=>by rw[List.cons_append];simp only[cP];rw[zG ra φ rp rq];omega
def bp(p:Int)(ra:List (List (Int×C4.Tt)))(X:Gb.Fn C4.Tt):Prop:=∃rp:List (Int×C4.Mt×Nat),(∀r∈rp,r.2.1.2.2.2=0/\r.2.2<ra.length)/\∀φ,p∣X φ-cP ra φ rp
variable{ra:List (List (Int×C4.Tt))}
theorem bp.zero(h:∀φ,p∣X φ):bp p ra X:=⟨[],λr hr=>by simp at hr,λφ=>by simpa [cP] using h φ⟩
variable{Y:Gb.Fn C4.Tt}
theorem bp.congr(h:bp p ra X)(e:∀φ,p∣Y φ-X φ):bp p ra Y:=by obtain⟨rp,h1,h2⟩:=h;refine⟨rp,h1,λφ=>?_⟩;obtain⟨a,ha⟩:=h2 φ;obtain⟨b,hb⟩:=e φ;exact⟨a+b,by rw[Int.mul_add];omega⟩
theorem bp.add(h:bp p ra X)(k:bp p ra Y):bp p ra λφ=>X φ+Y φ:=by obtain⟨rp,h1,h2⟩:=h;obtain⟨rq,k1,k2⟩:=k;refine⟨rp++rq,λr hr=>(OK.1 hr).elim (h1 r) (k1 r),λφ=>?_⟩;rw[zG];obtain⟨a,ha⟩:=h2 φ;obtain⟨b,hb⟩:=k2 φ;show p∣X φ+Y φ-_;exact⟨a+b,by rw[Int.mul_add];omega⟩
theorem zH(c:Int)(ra:List (List (Int×C4.Tt)))(φ:C4.Tt->Int):∀rp,cP ra φ (rp.map λr=>(c*r.1,r.2))=c*cP ra φ rp
 |[]=>by simp[cP]
 |r::rp=>by simp only[List.map_cons,cP];rw[zH c ra φ rp];grind
theorem bp.scl(c:Int)(h:bp p ra X):bp p ra λφ=>c*X φ:=by
 obtain⟨rp,h1,h2⟩:=h;refine⟨rp.map λr=>(c*r.1,r.2),λr hr=>?_,λφ=>?_⟩
 .obtain⟨x,hx,rfl⟩:=OR.1 hr;exact h1 x hx
 .rw[zH];obtain⟨a,ha⟩:=h2 φ;exact⟨c*a,by rw[<-Int.mul_sub,ha];grind⟩
theorem FP(a b:C4.Mt)(t:C4.Tt):C4.aw (C4.bH a b) t=C4.aw a (C4.aw b t):=by obtain⟨a1,a2,a3,a4⟩:=a;obtain⟨b1,b2,b3,b4⟩:=b;obtain⟨t0,t1,t2,t3,t4⟩:=t;simp only[C4.aw,C4.bH,Prod.mk.injEq,true_and];omega
theorem zI(m:C4.Mt)(ra:List (List (Int×C4.Tt)))(φ:C4.Tt->Int):∀rp,cP ra φ (rp.map λr=>(r.1,C4.bH m r.2.1,r.2.2))=cP ra (λt=>φ (C4.aw m t)) rp
 |[]=>rfl
 |r::rp=>by
  simp only[List.map_cons,cP];rw[zI m ra φ rp];have e:(λt=>φ (C4.aw (C4.bH m r.2.1) t))=λt=>φ (C4.aw m (C4.aw r.2.1 t)):=by funext t;rw[FP]
  rw[e]
theorem bp.shift{m:C4.Mt}(hm:m.2.2.2=0)(h:bp p ra X):bp p ra λφ=>X λt=>φ (C4.aw m t):=by
 obtain⟨rp,h1,h2⟩:=h;refine⟨rp.map λr=>(r.1,C4.bH m r.2.1,r.2.2),λr hr=>?_,λφ=>?_⟩
 .obtain⟨x,hx,rfl⟩:=OR.1 hr;exact⟨by show m.2.2.2+x.2.1.2.2.2=0;have:=(h1 x hx).1;omega,(h1 x hx).2⟩
 .rw[zI];exact h2 _
theorem bp.row(hi:i<ra.length):bp p ra λφ=>Gb.ln φ (ra.getD i []):=
 ⟨[(1,(0,0,0,0),i)],λr hr=>by rw[OL] at hr;rw[hr];exact⟨rfl,hi⟩,λφ=>⟨0,by
  have e:(λt=>φ (C4.aw (0,0,0,0) t))=φ:=by funext t;rw[o9]
  simp only[cP];rw[e];omega⟩⟩
def bJ(t:Ft):Ft:={t with z:=0}
theorem ux(t:Ft):ah (bJ t)=zt (ah t):=rfl
theorem uy(φ:C4.Tt->Int):∀fs:PB,aq φ (fs.map bJ)=aq (λs=>φ (zt s)) fs
 |[]=>rfl
 |t::fs=>by rw[List.map_cons,cV,cV,uy φ fs,ux];rfl
def fo(vs:PC):List (List (Int×C4.Tt)):=vs.map λv=>aK (v.map bJ)
theorem uz(vs:PC):(fo vs).length=vs.length:=by simp[fo]
theorem zJ(h:i<vs.length):(fo vs).getD i []=aK (vs[i].map bJ):=by unfold fo;rw[OH,List.getElem?_map,OI h];rfl
theorem qY(h:i<vs.length):(aE p dg w vs).g i=aK vs[i]:=by show aK (vs.getD i [])=_;rw[OH,OI h];rfl
theorem FQ(h:Gb.Vb (aE p dg w vs) A X):bp p (fo vs) λφ=>X λs=>φ (zt s):=by
 obtain⟨rp,h1,h2⟩:=h;refine⟨rp.map λr=>(r.1,zm r.2.1,r.2.2),λr hr=>?_,λφ=>?_⟩
 .obtain⟨x,hx,rfl⟩:=OR.1 hr;exact⟨rfl,by rw[uz];exact ks (h1 x hx).1⟩
 .have e:∀rp:Gb.Rp C4.Mt,(∀r∈rp,r.2.2<vs.length)->cP (fo vs) φ (rp.map λr=>(r.1,zm r.2.1,r.2.2))=Gb.ev (aE p dg w vs) (λs=>φ (zt s)) rp:=by
   intro rp;induction rp with
   |nil=>intro _;rfl
   |cons r rp ih=>
    intro hr;have hi:=hr r (by simp);simp only[List.map_cons,cP,Gb.ev];rw[ih λx hx=>hr x (by simp[hx]),zJ hi,qY hi];have e2:Gb.ln (λt=>φ (C4.aw (zm r.2.1) t)) (aK (vs[r.2.2].map bJ))=Gb.ln (λt=>φ (zt ((C4.aN w (dN dg)).act r.2.1 t))) (aK vs[r.2.2]):=by have:=uy (λt=>φ (C4.aw (zm r.2.1) t)) vs[r.2.2];exact this
    rw[e2]
  rw[e rp λr hr=>ks (h1 r hr).1];exact h2 _
theorem zK:∀(rp:List (Int×C4.Mt×Nat)) (c0:Nat->Nat),∃D,∀r∈rp,c0 r.2.2+C4.aC r.2.1<=D
 |[],_=>⟨0,by simp⟩
 |r::rp,c0=>by
  obtain⟨D,h⟩:=zK rp c0;refine⟨c0 r.2.2+C4.aC r.2.1+D,λx hx=>?_⟩;rcases OY.1 hx with rfl|hx
  .omega
  .have:=h x hx;omega
theorem FR{d:Nat->Nat}{D:Nat}{s u:C4.Tt}(hs:s∈C4.Ts R d D)(hu:u∈C4.Ts R d D)(h:zt s=zt u):s=u:=by obtain⟨_,h1⟩:=C4.de.1 hs;obtain⟨_,h2⟩:=C4.de.1 hu;obtain⟨s0,s1,s2,s3,s4⟩:=s;obtain⟨u0,u1,u2,u3,u4⟩:=u;unfold zt at h;simp only[Prod.mk.injEq] at h;obtain⟨rfl,rfl,rfl,rfl,_⟩:=h;unfold C4.aC at h1 h2;simp only at h1 h2;simp only[Prod.mk.injEq,true_and];omega
theorem FS(hx:bB p dg N w n)(h:Cs p dg N w n vs ms [] E T)(hE:eO p dg w ms E)(hvl:vs.length=n)(hY:bp p (fo vs) Y){t:C4.Tt}(hz:t.2.2.2.2=0)(ht:t.1<w)(hn:¬p∣Y (Gb.dl t))(hab:∀u:C4.Tt,u.2.2.2.2=0->u.1<w->gr w t u->p∣Y (Gb.dl u)):∃x∈ms,x.gone=false/\C4.bR.dv (zt (ah x.L)) t:=by
 obtain⟨rp,h1,h2⟩:=hY;have h0:=nh hx (by omega) h.vb;obtain⟨D0,hD0⟩:=zK rp λi=>aZ dg ((aE p dg w vs).ld i);obtain⟨D,hDD⟩:∃D,D=D0+dN dg t.1+C4.aC t.2:=⟨_,rfl⟩;have hD:∀r∈rp,aZ dg ((aE p dg w vs).ld r.2.2)+C4.aC r.2.1<=D:=λr hr=>by have:=hD0 r hr;omega
 -- filled up
 obtain⟨fu,hfu⟩:∃fu:(Int×C4.Mt×Nat)->(Int×C4.Mt×Nat),∀r,fu r=(r.1,(r.2.1.1,r.2.1.2.1,r.2.1.2.2.1,D-aZ dg ((aE p dg w vs).ld r.2.2)-C4.aC r.2.1),r.2.2):=⟨_,λ_=>rfl⟩;have hfd:∀r∈rp,aZ dg ((aE p dg w vs).ld r.2.2)+C4.aC (fu r).2.1=D:=λr hr=>by have a:=hD r hr;have b:=(h1 r hr).1;rw[hfu];obtain⟨c,⟨m1,m2,m3,m4⟩,i⟩:=r;simp only[C4.aC] at a b⊢;omega
 have hHr:C4.Hr vs.length (λi=>aZ dg ((aE p dg w vs).ld i)) D (rp.map fu):=λr hr=>by
  obtain⟨x,hx1,rfl⟩:=OR.1 hr;have e:(fu x).2.2=x.2.2:=by rw[hfu]
  refine⟨by rw[e];have:=(h1 x hx1).2;rwa [uz] at this,?_⟩;have:=hfd x hx1;rw[<-e] at this;exact this
 have hev:∀s∈C4.Ts (w+n) (dN dg) D,∀l:List (Int×C4.Mt×Nat),(∀r∈l,r∈rp)->Gb.ev (aE p dg w vs) (Gb.dl s) (l.map fu)=cP (fo vs) (Gb.dl (zt s)) l:=by
  intro s hs l;induction l with
  |nil=>intro _;rfl
  |cons r l ih=>
   intro hl;have hr:=hl r (by simp);have hi:r.2.2<vs.length:=by have:=(h1 r hr).2;rwa [uz] at this
   simp only[List.map_cons,cP,Gb.ev];rw[ih λx hx=>hl x (by simp[hx])];have e1:(fu r).1=r.1:=by rw[hfu]
   have e2:(fu r).2.2=r.2.2:=by rw[hfu]
   rw[e1,e2,zJ hi,qY hi];have key:∀fs:PB,(∀x∈aK fs,x.2∈C4.Ts (w+n) (dN dg) (aZ dg ((aE p dg w vs).ld r.2.2)))->Gb.ln (λt=>Gb.dl s ((C4.aN w (dN dg)).act (fu r).2.1 t)) (aK fs)=Gb.ln (λt=>Gb.dl (zt s) (C4.aw r.2.1 t)) (aK (fs.map bJ)):=by
    intro fs;induction fs with
    |nil=>intro _;rfl
    |cons u fs ihf=>
     intro hf;have hu:ah u∈C4.Ts (w+n) (dN dg) (aZ dg ((aE p dg w vs).ld r.2.2)):=hf (u.c,ah u) (by simp[aK]);have ih2:=ihf λx hx=>hf x (by simp only[aK,List.map_cons,OY] at hx⊢;exact Pg hx);show u.c*Gb.dl s (C4.aw (fu r).2.1 (ah u))+Gb.ln _ (aK fs)=u.c*Gb.dl (zt s) (C4.aw r.2.1 (ah (bJ u)))+Gb.ln _ (aK (fs.map bJ));rw[ih2];have hmem:C4.aw (fu r).2.1 (ah u)∈C4.Ts (w+n) (dN dg) D:=by rw[<-hfd r hr,C4.l6];exact hu
     have hzz:C4.aw r.2.1 (ah (bJ u))=zt (C4.aw (fu r).2.1 (ah u)):=by rw[FO,ux];congr 1;have b:=(h1 r hr).1;rw[hfu];obtain⟨c,⟨m1,m2,m3,m4⟩,i⟩:=r;simp only at b;rw[b];rfl
     rw[hzz];congr 2;unfold Gb.dl;by_cases hc:C4.aw (fu r).2.1 (ah u)=s
     .rw[OW hc,OW (by rw[hc])]
     .rw[OV hc,OV λe=>hc (FR hmem hs e)]
   rw[key vs[r.2.2] λx hx2=>by
    have:=h0.hom r.2.2 hi x (by rw[qY hi];exact hx2);exact this]
 -- the lead
 obtain⟨s,hsd⟩:∃s:C4.Tt,s=(t.1,t.2.1,t.2.2.1,t.2.2.2.1,D0):=⟨_,rfl⟩;have hst:zt s=t:=by rw[hsd];obtain⟨t0,t1,t2,t3,t4⟩:=t;simp only at hz;rw[hz];rfl
 have hsT:s∈C4.Ts (w+n) (dN dg) D:=by rw[C4.de,hsd];refine⟨by show t.1<w+n;omega,?_⟩;rw[hDD];unfold C4.aC;simp only;omega
 have hLM:C4.LM (C4.ie w (dN dg)) p (w+n) (dN dg) (C4.gl (aE p dg w vs) (λi=>aZ dg ((aE p dg w vs).ld i)) n) s:=by
  unfold C4.LM;rw[(C4.de.1 hsT).2];have hv:=C4.tT (p:=p) (R:=w+n) (nb:=w) (d:=dN dg) (G:=aE p dg w vs) hHr;rw[hvl] at hv;refine⟨_,hv,hsT,?_,λu hu hl=>?_⟩
  .show¬p∣Gb.ev (aE p dg w vs) (Gb.dl s) (rp.map fu);rw[hev s hsT rp λ_ h=>h,hst];intro hc;obtain⟨a,ha⟩:=hc;obtain⟨b,hb⟩:=h2 (Gb.dl t);exact hn ⟨a+b,by rw[Int.mul_add];omega⟩
  .show p∣Gb.ev (aE p dg w vs) (Gb.dl u) (rp.map fu);rw[hev u hu rp λ_ h=>h];have hl:C4.L6 (C4.fS w (dN dg) s) (C4.fS w (dN dg) u):=hl;have e1:=(C4.de.1 hsT).2;have e2:=(C4.de.1 hu).2;have hlt:gr w t (zt u):=by
    rw[<-hst];rcases hl with h9|⟨_,h9⟩
    .have h9:dN dg s.1+C4.aC s.2<dN dg u.1+C4.aC u.2:=h9;omega
    .exact Pg ⟨rfl,h9⟩
   have huw:(zt u).1<w:=by
    apply O3;intro hc;have e5:(if t.1<w then 1 else 0:Nat)=1:=OW ht;have e6:(if (zt u).1<w then 1 else 0:Nat)=0:=OV hc;rcases hlt with h9|⟨_,h9|⟨h9,_⟩⟩
    .exact absurd h9 (Nat.lt_irrefl _)
    .have h9:(if t.1<w then 1 else 0:Nat)<(if (zt u).1<w then 1 else 0:Nat):=h9;omega
    .have h9:(if t.1<w then 1 else 0:Nat)=(if (zt u).1<w then 1 else 0:Nat):=h9;omega
   obtain⟨a,ha⟩:=hab (zt u) rfl huw hlt;obtain⟨b,hb⟩:=h2 (Gb.dl (zt u));exact⟨a-b,by rw[Int.mul_sub];omega⟩
 have h1g:=nh hx (by omega) h.msh;have hA:=h.allA hx hE (λu=>aZ dg u<D+1) (fun {s u} hd hs=>by
  have:=zL (dg:=dg) hd;omega) (λq hqm=>by simp at hqm)
 have h0':=h0;rw[hvl] at h0';obtain⟨i,i1,i2⟩:=C4.yE (t:=D+1) h0' h1g (λi hi=>rfl) (λi hi=>by
  obtain⟨D2,u,r,a1,a2,a3⟩:=h.vb.at (i:=i) (by omega);have e1:(aE p dg w vs).ld i=ah u:=by show ii _=_;rw[fk a2];rfl
  have e2:(aE p dg w vs).g i=aK (u::r):=by show aK _=_;rw[fk a2]
  have hmem:(u::r)∈vs:=List.mem_of_getElem? a2;have h4:=h.my _ hmem D2 a3;rw[e1,e2,((a3.gd u (by simp)).ts hx).1];have:=uA h4;exact this) hA (u:=s) hLM (by have:=(C4.de.1 hsT).2;omega)
 have hi:=ks i1;rw[iX] at hi;rw[gN] at i2;have fin:∀j,j<ms.length->C4.bR.dv (cC ms j) s->C4.bR.dv (zt (cC ms j)) t:=λj _ hd=>by have hd:(cC ms j).1=s.1/\C4.cj (cC ms j).2 s.2:=hd;rw[<-hst];obtain⟨d1,d2,d3,d4,d5⟩:=hd;exact⟨d1,d2,d3,d4,Ou _⟩
 by_cases hgo:ms[i].gone=true
 .obtain⟨y,y1,y2,y3⟩:=h.inv.gn i hi ⟨hi,hgo⟩;refine⟨ms[y],OE y1,?_,?_⟩
  .cases hgy:ms[y].gone with
   |false=>rfl
   |true=>exact absurd ⟨y1,hgy⟩ y2
  .rw[<-dL y1];exact fin y y1 (C4.bR.trans y3 i2)
 .refine⟨ms[i],OE hi,by simpa using hgo,?_⟩;rw[<-dL hi];exact fin i hi i2
def gO(t:Ft):Int:=t.a+t.b+t.d
def eA(w:Nat)(L:Ft):Int:=if L.pl<w then gO L else-1
def fA(w:Nat)(L:Ft):Int:=if L.pl<w then gO L+4801 else gO L
structure dX(p:Int)(N w n:Nat)(L:Ft)(r:PB):Prop where
 vc:cM p N w n (eA w L) (fA w L) (L::r)
 dg:gO L<=4801
variable{L:Ft}
theorem dX.bd{r:PB}(h:dX p N w n L r):eA w L<=9700/\fA w L<=9700:=by
 have:=h.dg;unfold eA fA;constructor
 .split<;>omega
 .split<;>omega
structure mh(N:Nat)(t L bt:Ft):Prop where
 pl:L.pl=t.pl
 a:bt.a+L.a=t.a
 b:bt.b+L.b=t.b
 d:bt.d+L.d=t.d
 z:bt.z=0
 a0:0<=bt.a
 b0:0<=bt.b
 d0:0<=bt.d
 n1:N<=1->bt.b=0
 n2:N<=2->bt.d=0
variable{bt:Ft}{F E2 F2:Int}
theorem uB{E:Int}(gt:bk N w n E F t)(gL:bk N w n E2 F2 L)(hin:cA L t=true)(ha:bt.a=t.a-L.a)(hb:bt.b=t.b-L.b)(hd:bt.d=t.d-L.d)(hz:bt.z=t.z-L.z):mh N t L bt:=by unfold cA eN at hin;simp only[Bool.and_eq_true,decide_eq_true_eq] at hin;obtain⟨h1,⟨⟨h2,h3⟩,h4⟩,h5⟩:=hin;exact⟨h1,by omega,by omega,by omega,by have:=gt.z;have:=gL.z;omega,by omega,by omega,by omega,λh=>by have:=gt.n1 h;have:=gL.n1 h;omega,λh=>by have:=gt.n2 h;have:=gL.n2 h;omega⟩
theorem mh.key{E:Int}(h:mh N t L bt)(h0:0<N)(h3:N<=3)(gt:bk N w n E F t)(gL:bk N w n E2 F2 L):L.k+bC 1 (aD N bt)=t.k:=by rw[gt.k,gL.k,pd (p:=0) h0 h3 h.a h.b h.d,<-h.pl];unfold gq;rw[pe h3 (jP h3 _) (jP h3 _)];omega
theorem mh.te{E:Int}(h:mh N t L bt)(gL:bk N w n E F L)(gt:bk N w n E2 F2 t):C4.aw (bY bt) (ah L)=ah t:=by have h1:=h.a;have h2:=h.b;have h3:=h.d;have h4:=h.a0;have h5:=h.b0;have h6:=h.d0;have h7:=h.z;have g1:=gL.a;have g2:=gL.b;have g3:=gL.d;have g4:=gL.z;have g5:=gt.z;unfold C4.aw C4.bH bY ah;rw[h.pl];simp only[Prod.mk.injEq,true_and];omega
def kW(E F:Int):Prop:=E<=4801/\F<=9602/\(E<0\/E+4801<=F)
theorem uC(hx:ch p N w n){E:Int}(hR:kW E F){r:PB}{more:Int}(gt:bk N w n E F t)(hm:dX p N w n L r)(h:mh N t L bt)(bc:0<c/\c<p)(hmo:more=bC 1 (aD N bt)):aG p (λu=>bk N w n E F u/\u.k<t.k) [r.map (aJ p more {bt with c:=c})]:=by
 have gL:=hm.vc.gd L (by simp);have hk:=h.key hx.n0 hx.n3 gt gL;have e1:=h.a;have e2:=h.b;have e3:=h.d;have e4:=h.a0;have e5:=h.b0;have e6:=h.d0;refine⟨λf hf=>?_,λf hf x ht=>?_,λf hf x ht=>?_⟩<;>(rw[OL] at hf;subst hf)
 .unfold Dn;rw[List.pairwise_map];exact hm.vc.dn.tail.imp fun {a b} h=>by simp only[aJ];omega
 .obtain⟨x,hx2,rfl⟩:=OR.1 ht;have h1:=hm.vc.co x (by simp[hx2]);have:=mi hx.pr (show 1<=x.c by omega) h1.2 (show 1<=c by omega) bc.2;simp only[aJ];omega
 .obtain⟨x,hx2,rfl⟩:=OR.1 ht;have gx:=hm.vc.gd x (by simp[hx2]);have hlt:=hm.vc.dn.head x hx2;have ho:=gx.own;have hf:=gx.oth;have x1:=gx.a;have x2:=gx.b;have x3:=gx.d;have tw:=gt.own;have tf:=gt.oth;have hpl:=h.pl;unfold eA gO at ho;unfold fA gO at hf;obtain⟨r1,r2,r3⟩:=hR;refine⟨bk.mul hx gx hmo h.a0 h.b0 h.d0 h.z h.n1 h.n2 (λhw=>?_) (λhw=>?_),by simp only[aJ];omega⟩
  .have:=ho hw;by_cases hL:L.pl<w
   .rw[OW hL] at this;have:=tw (by omega);omega
   .rw[OV hL] at this;omega
  .have:=hf hw;by_cases hL:L.pl<w
   .rw[OW hL] at this;have:=tw (by omega);have:=gt.a;have:=gt.b;have:=gt.d;omega
   .rw[OV hL] at this;have:=tf (by omega);omega
theorem qZ(hx:ch p N w n){E:Int}(hE:E<=9700)(hF:F<=9700){f:PB}(h:∀t∈f,bk N w n E F t):∀t u,t∈f->u∈f->t.k=u.k->ah t=ah u:=λt u ht hu e=>zM hx hE hF hE hF (h t ht) (h u hu) e
structure LA(p:Int)(ra:List (List (Int×C4.Tt)))(N w n:Nat)(E F:Int)(X:Gb.Fn C4.Tt)(K:Int)(acc:PB)(r:Option Ft)(rows:PC):Prop where
 ok:aG p (λu=>bk N w n E F u/\u.k<K) rows
 made:bp p ra λφ=>X φ-(aq φ acc+fp φ r+aq φ rows.flatten)
 tr:∀t,r=some t->bk N w n E F t/\0<t.c/\t.c<p/\t.k<K/\∀f∈rows,∀u∈f,u.k<t.k
 av:cM p N w n E F acc
 ak:∀t∈acc,(∀f∈rows,∀u∈f,u.k<t.k)/\(∀u,r=some u->u.k<t.k)/\t.k<K
variable{r:Option Ft}{rows:PC}{acc:PB}
theorem ph(hx:ch p N w n){E:Int}(hE:E<=9700)(hF:F<=9700){rows2:PC}(h:LA p ra N w n E F X K acc none rows)(hn:Nx p rows r rows2):LA p ra N w n E F X K acc r rows2/\(r=none->bp p ra λφ=>X φ-aq φ acc):=by
 obtain⟨hp1,hp2⟩:=dY hx.pr;have hok:aG p (λu=>bk N w n E F u/\u.k<K/\∀a∈acc,u.k<a.k) rows:=⟨h.ok.dn,h.ok.co,λf hf t ht=>⟨(h.ok.gd f hf t ht).1,(h.ok.gd f hf t ht).2,λa ha=>(h.ak a ha).1 f hf t ht⟩⟩;have hsp:=Nx.spec hp1 (G:=λu=>bk N w n E F u/\u.k<K/\∀a∈acc,u.k<a.k) (λx t ha hg=>⟨bk.alk x t ha hg.1,by rw[ha.1];exact hg.2⟩) hn hok;obtain⟨s1,s2,s3⟩:=hsp;have ok2:aG p (λu=>bk N w n E F u/\u.k<K) rows2:=⟨s1.dn,s1.co,λf hf t ht=>⟨(s1.gd f hf t ht).1,(s1.gd f hf t ht).2.1⟩⟩;cases r with
 |none=>
  have hz:∀φ,p∣aq φ rows.flatten:=λφ=>by have h9:=kt (p:=p) (f:=rows.flatten) (g:=[]) (by rw[List.append_nil];exact qZ hx hE hF λt ht=>(iF h.ok t ht).1) (λk=>by simpa [ao] using s3 k) φ;simpa [fl] using h9
  have hz2:bp p ra λφ=>X φ-aq φ acc:=h.made.congr λφ=>by obtain⟨z,e⟩:=hz φ;refine⟨z,?_⟩;simp only[fp];omega
  have e2:rows2.flatten=[]:=by rw[List.flatten_eq_nil_iff];exact zN hn h.ok.dn rfl
  refine⟨⟨ok2,?_,λt ht=>by simp at ht,h.av,λt ht=>⟨λf hf u hu=>(s1.gd f hf u hu).2.2 t ht,λu hu=>by simp at hu,(h.ak t ht).2.2⟩⟩,λ_=>hz2⟩;rw[e2];exact hz2.congr λφ=>⟨0,by simp[fp,fl]⟩
 |some t=>
  obtain⟨g,c0,c1,hlt,hc⟩:=s3;refine⟨⟨ok2,h.made.congr λφ=>?_,λu hu=>?_,h.av,λa ha=>⟨λf hf u hu=>(s1.gd f hf u hu).2.2 a ha,λu hu=>?_,(h.ak a ha).2.2⟩⟩,λh=>by simp at h⟩
  .have h9:=kt (p:=p) (f:=rows.flatten) (g:=t::rows2.flatten) (qZ hx hE hF λu hu=>by
    rcases OK.1 hu with h1|h1
    .exact(iF h.ok u h1).1
    .rcases OY.1 h1 with rfl|h1
     .exact g.1
     .exact(iF ok2 u h1).1) (λk=>by
    obtain⟨z,hz⟩:=hc k;refine⟨z,?_⟩;simp only[ao];by_cases hk:k=t.k
    .rw[OW hk] at hz;rw[OW hk.symm];omega
    .rw[OV hk] at hz;rw[OV (λe=>hk e.symm)];omega) φ
   rw[cV] at h9;obtain⟨z,hz⟩:=h9;refine⟨z,?_⟩;simp only[fp];omega
  .cases hu;exact⟨g.1,c0,c1,g.2.1,hlt⟩
  .cases hu;exact g.2.2 a ha
theorem zO{E:Int}(h:LA p ra N w n E F X K acc (some t) rows):LA p ra N w n E F X K (acc++[t]) none rows:=by
 obtain⟨g,c0,c1,hk,hlt⟩:=h.tr t rfl;refine⟨h.ok,h.made.congr λφ=>⟨0,?_⟩,λu hu=>by simp at hu,⟨?_,λu hu=>?_,λu hu=>?_⟩,λu hu=>?_⟩
 .rw[ku,cV,fl];simp only[fp];omega
 .unfold Dn;rw[List.pairwise_append];refine⟨h.av.dn,by simp,λa ha b hb=>?_⟩;rw[OL] at hb;subst hb;exact(h.ak a ha).2.1 b rfl
 .rcases OK.1 hu with hu|hu
  .exact h.av.co u hu
  .rw[OL] at hu;subst hu;exact⟨c0,c1⟩
 .rcases OK.1 hu with hu|hu
  .exact h.av.gd u hu
  .rw[OL] at hu;subst hu;exact g
 .rcases OK.1 hu with hu|hu
  .exact⟨(h.ak u hu).1,λv hv=>by simp at hv,(h.ak u hu).2.2⟩
  .rw[OL] at hu;subst hu;exact⟨hlt,λv hv=>by simp at hv,hk⟩
theorem zP(hx:ch p N w n){E:Int}(hE:E<=9700)(hF:F<=9700){rows':PC}{r:PB}(h:LA p ra N w n E F X K acc (some t) rows)(hm:dX p N w n L r)(hmm:bp p ra λφ=>aq φ (L::r))(hb:mh N t L bt)(hc:p∣c*L.c+t.c)(hok:aG p (λu=>bk N w n E F u/\u.k<t.k) rows')(hs:aG p (λu=>bk N w n E F u/\u.k<t.k) [r.map (aJ p (bC 1 (aD N bt)) {bt with c:=c})])(hcnt:∀k,p∣ao k rows'.flatten-(ao k rows.flatten+ao k (r.map (aJ p (bC 1 (aD N bt)) {bt with c:=c})))):LA p ra N w n E F X K acc none rows':=by
 obtain⟨gt,_,_,hlt,_⟩:=h.tr t rfl;have gL:=hm.vc.gd L (by simp);have hte:=hb.te gL gt;refine⟨⟨hok.dn,hok.co,λf hf u hu=>⟨(hok.gd f hf u hu).1,by have:=(hok.gd f hf u hu).2;omega⟩⟩,?_,λu hu=>by simp at hu,h.av,λa ha=>⟨λf hf u hu=>?_,λu hu=>by simp at hu,(h.ak a ha).2.2⟩⟩
 .have hone:bp p ra λφ=>-c*aq (λs=>φ (C4.aw (bY bt) s)) (L::r):=(hmm.shift (m:=bY bt) (by show bt.z.toNat=0;rw[hb.z];rfl)).scl (-c);refine(bp.add h.made hone).congr λφ=>?_;have h2:=kt (p:=p) (f:=rows'.flatten) (g:=rows.flatten++r.map (aJ p (bC 1 (aD N bt)) {bt with c:=c})) (qZ hx hE hF λu hu=>by
   rcases OK.1 hu with h1|h1
   .exact(iF hok u h1).1
   .rcases OK.1 h1 with h1|h1
    .exact(iF h.ok u h1).1
    .exact(hs.gd _ (List.mem_singleton_self _) u h1).1) (λk=>by rw[iY];exact hcnt k) φ
  rw[ku] at h2;obtain⟨z2,e2⟩:=h2;obtain⟨z3,e3⟩:=nl (p:=p) (more:=bC 1 (aD N bt)) (c:=c) hb.a0 hb.b0 hb.d0 (by rw[hb.z];omega) φ r λu hu=>⟨(hm.vc.gd u (by simp[hu])).a,(hm.vc.gd u (by simp[hu])).b,(hm.vc.gd u (by simp[hu])).d,by have:=(hm.vc.gd u (by simp[hu])).z;omega⟩;obtain⟨z4,e4⟩:=hc;rw[cV,hte];simp only[fp];generalize aq φ rows'.flatten=A at*;generalize aq φ rows.flatten=B at*;generalize aq φ acc=Z at*;generalize aq φ (r.map (aJ p (bC 1 (aD N bt)) {bt with c:=c}))=C at*;generalize aq (λs=>φ (C4.aw (bY bt) s)) r=D at*;generalize φ (ah t)=f at*;have e5:C=c*D+p*z3:=by omega
  have e6:A=B+C+p*z2:=by omega
  refine⟨z4*f-z2-z3,?_⟩;rw[e6,e5];have e7:p*(z4*f-z2-z3)=(p*z4)*f-p*z2-p*z3:=by grind
  rw[e7,<-e4];grind
 .have h1:=(hok.gd f hf u hu).2;have h2:=(h.ak a ha).2.1 t rfl;omega
def jQ(p:Int)(ra:List (List (Int×C4.Tt)))(N w n:Nat)(ms:PD):Prop:=∀x∈ms,dX p N w n x.L x.r/\bp p ra λφ=>aq φ (x.L::x.r)
theorem zR(hx:ch p N w n)(hms:jQ p ra N w n ms)(hl:ms.length<=2100000){E:Int}(hR:kW E F):nr p (am 1 N N 0) (am 1 N N 1) (am 1 N N 2) (w+n) (bk N w n E F) ms where
 pr:=hx.pr
 b0:=dZ 1 N 0
 b1:=dZ 1 N 1
 b2:=dZ 1 N 2
 alk:=bk.alk
 len:=jR hx (by have:=hR.1;omega) (by have:=hR.2.1;omega)
 bd:=λt g=>by have hE:=hR.1;have hF:=hR.2.1;have hk:=g.kb hx (by omega) (by omega);have h3:=g.bd hx (by omega) (by omega);have h4:=g.pl0;have h5:=g.pl;have h7:=g.a;have h8:=g.b;have h9:=g.d;have h10:=g.z;exact⟨by omega,by omega,by omega,by omega,by omega,h4,h5⟩
 fok:=λx hx2 u hu=>by have hm:=(hms x hx2).1;have h2:=hm.vc.co u (by simp[hu]);exact(hm.vc.gd u (by simp[hu])).fok hx hm.bd.1 hm.bd.2 (by omega)
 lds:=λx hx2=>by have hm:=(hms x hx2).1;have g:=hm.vc.gd x.L (by simp);have c:=hm.vc.co x.L (by simp);exact⟨g.a,g.b,g.d,by rw[g.z];omega,c.1,c.2⟩
 rln:=λx hx2=>by have hm:=(hms x hx2).1;exact jR hx hm.bd.1 hm.bd.2 x.r hm.vc.dn.tail λt ht=>hm.vc.gd t (by simp[ht])
 mul:=λx hx2 t g hin bt ha hb hd hz c0 c1=>by have hm:=(hms x hx2).1;have hby:=uB g (hm.vc.gd x.L (by simp)) hin ha hb hd hz;have:=uC hx hR (more:=bt.a*am 1 N N 0+bt.b*am 1 N N 1+bt.d*am 1 N N 2) (c:=bt.c) g hm hby ⟨c0,c1⟩ (kX hx.n0 hx.n3);exact this
 ml:=hl
theorem FT(hx:ch p N w n)(hms:jQ p ra N w n ms){E:Int}(hR:kW E F)(cont:PB->Ft->Bool):mj p (am 1 N N 0) (am 1 N N 1) (am 1 N N 2) (bk N w n E F) ms (λrows acc=>LA p ra N w n E F X K acc none rows/\∀t∈acc,eP ms t=none) (λt rows acc=>LA p ra N w n E F X K acc (some t) rows/\∀t∈acc,eP ms t=none) cont where
 next:=λrows acc t rows2 _ hJ hn=>⟨(ph hx (by have:=hR.1;omega) (by have:=hR.2.1;omega) hJ.1 hn).1,hJ.2⟩
 left:=λt rows acc _ _ _ _ _ hI hf _=>⟨zO hI.1,λu hu=>by
  rcases OK.1 hu with hu|hu
  .exact hI.2 u hu
  .rw[OL] at hu;rw[hu];exact hf⟩
 take:=λt rows acc x bt rows' g c0 c1 hlt hr hI hf hby hr2 hcnt=>by have hxm:x∈ms:=(O5.1 (List.mem_of_find?_eq_some hf)).1;have hgo:=List.find?_some hf;unfold eQ at hgo;simp only[Bool.and_eq_true] at hgo;obtain⟨hm,hmm⟩:=hms x hxm;have hb:=uB g (hm.vc.gd x.L (by simp)) hgo.2 hby.a hby.b hby.d hby.z;have hs:=uC hx hR (more:=bC 1 (aD N bt)) (c:=bt.c) g hm hb ⟨hby.c0,hby.c1⟩ rfl;refine⟨zP hx (by have:=hR.1;omega) (by have:=hR.2.1;omega) (c:=bt.c) hI.1 hm hmm hb hby.cc hr2 hs λk=>?_,hI.2⟩;have:=hcnt k;rw[kX hx.n0 hx.n3] at this;exact this
theorem uD(hx:ch p N w n){E:Int}(hR:kW E F)(h:LA p ra N w n E F X K acc r rows):acc.length<=1200000000000:=by have:=jR hx (E:=E) (F:=F) (by have:=hR.1;omega) (by have:=hR.2.1;omega) acc h.av.dn h.av.gd;omega
theorem zS(hx:ch p N w n){E:Int}(hE:E<=9700)(hF:F<=9700){fs:PB}(hv:cM p N w n E F fs)(hok:aG p (λu=>bk N w n E F u/\u.k<K) rows)(hcnt:∀k,p∣ao k rows.flatten-ao k fs):LA p ra N w n E F (λφ=>aq φ fs) K [] none rows:=by
 refine⟨hok,bp.zero λφ=>?_,λu hu=>by simp at hu,⟨List.Pairwise.nil,λt ht=>by simp at ht,λt ht=>by simp at ht⟩,λt ht=>by simp at ht⟩;obtain⟨z,hz⟩:=kt (p:=p) (f:=rows.flatten) (g:=fs) (qZ hx hE hF λu hu=>by
  rcases OK.1 hu with h1|h1
  .exact(iF hok u h1).1
  .exact hv.gd u h1) hcnt φ
 refine⟨-z,?_⟩;simp only[fl,fp];rw[Int.mul_neg];omega
end Go.Proofs.YtjkalahhpobefaaGreat
