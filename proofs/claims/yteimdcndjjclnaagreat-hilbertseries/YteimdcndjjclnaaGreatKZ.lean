/- A pair is looked at. -/
import Derived.Test.YteimdcndjjclnaaGreatKX
import Derived.Test.YteimdcndjjclnaaGreatKW
set_option maxHeartbeats 2000000
set_option maxRecDepth 100000
namespace Go.Proofs.YteimdcndjjclnaaGreat
set_option linter.all false
open Go.Proofs.Tryz Go.RowKit
def GJ(o ov:Int)(N:Nat)(q:Pq)(pl:Int):Ft:=⟨eF o ov pl (aE N ⟨0,q.a,q.b,q.d,0,pl,1⟩),q.a,q.b,q.d,0,pl,1⟩
structure dM(x y:Ft)(q:Pq):Prop where
 pl:x.pl=y.pl
 a:q.a=dA x y
 b:q.b=dB x y
 d:q.d=dC x y
 z:q.z=dD x y
theorem dM.gd{o ov:Int}{N R:Nat}{x y:Ft}{q:Pq}(h:dM x y q)(gx:Gd o ov N R 40 x)(gy:Gd o ov N R 40 y):Gd o ov N R 80 (GJ o ov N q x.pl):=by
 have h1:=h.a;have h2:=h.b;have h3:=h.d;unfold dA at h1;unfold dB at h2;unfold dC at h3;have x1:=gx.a;have x2:=gx.b;have x3:=gx.d;have x4:=gx.deg;have y1:=gy.a;have y2:=gy.b;have y3:=gy.d;have y4:=gy.deg;refine⟨rfl,?_,?_,?_,?_,rfl,gx.pl0,gx.pl,λh=>?_,λh=>?_⟩
 .show 0<=q.a;omega
 .show 0<=q.b;omega
 .show 0<=q.d;omega
 .show q.a+q.b+q.d<=80;omega
 .show q.b=0;have:=gx.n1 h;have:=gy.n1 h;omega
 .show q.d=0;have:=gx.n2 h;have:=gy.n2 h;omega
structure dL(R:Nat)(L:Ft):Prop where
 a:0<=L.a
 b:0<=L.b
 d:0<=L.d
 z:L.z=0
 pl:0<=L.pl/\L.pl<R
theorem xv{R:Nat}{s t:Ft}(hs:dL R s)(ht:dL R t):dZ s t=true↔Gb.aW.dv (ag R s) (ag R t):=by have s1:=hs.a;have s2:=hs.b;have s3:=hs.d;have s4:=hs.z;have s5:=hs.pl;have t1:=ht.a;have t2:=ht.b;have t3:=ht.d;have t4:=ht.z;have t5:=ht.pl;unfold dZ fI;show _↔(ag R s).1=(ag R t).1/\(ag R s).2.1<=(ag R t).2.1/\(ag R s).2.2.1<=(ag R t).2.2.1/\(ag R s).2.2.2<=(ag R t).2.2.2;unfold ag;simp only[Bool.and_eq_true,decide_eq_true_eq];omega
theorem lC{R:Nat}{s t:Ft}(hs:dL R s)(ht:dL R t):Gb.aW.lc (ag R s) (ag R t)=(R-1-s.pl.toNat,(dA s t).toNat,(dB s t).toNat,(dC s t).toNat):=by have s1:=hs.a;have s2:=hs.b;have s3:=hs.d;have t1:=ht.a;have t2:=ht.b;have t3:=ht.d;show ((ag R s).1,max (ag R s).2.1 (ag R t).2.1,max (ag R s).2.2.1 (ag R t).2.2.1,max (ag R s).2.2.2 (ag R t).2.2.2)=_;unfold ag dA dB dC;simp only[Prod.mk.injEq,true_and];omega
theorem dM.lc{R:Nat}{x y:Ft}{q:Pq}(h:dM x y q)(hx:dL R x)(hy:dL R y):Gb.aW.lc (ag R x) (ag R y)=(R-1-x.pl.toNat,q.a.toNat,q.b.toNat,q.d.toNat):=by rw[lC hx hy,h.a,h.b,h.d]
theorem dM.nn{R:Nat}{x y:Ft}{q:Pq}(h:dM x y q)(hx:dL R x)(hy:dL R y):0<=q.a/\0<=q.b/\0<=q.d/\q.z=0:=by have h1:=h.a;have h2:=h.b;have h3:=h.d;have h4:=h.z;unfold dA at h1;unfold dB at h2;unfold dC at h3;unfold dD at h4;have s1:=hx.a;have s2:=hx.b;have s3:=hx.d;have s4:=hx.z;have t1:=hy.a;have t2:=hy.b;have t3:=hy.d;have t4:=hy.z;omega
theorem mT{m n:Int}(h1:0<=m)(h2:0<=n)(h:m.toNat=n.toNat):m=n:=by omega
theorem mU{m n:Int}(h1:0<=m)(h2:0<=n):0<=max m n/\True:=⟨by omega,trivial⟩
theorem xA{R:Nat}{x y f:Ft}{q:Pq}(h:dM x y q)(hx:dL R x)(hy:dL R y)(hf:dL R f)(hd:mP x y f q=true):Gb.aW.dv (ag R f) (Gb.aW.lc (ag R x) (ag R y))/\Gb.aW.lc (ag R x) (ag R f)≠Gb.aW.lc (ag R x) (ag R y)/\Gb.aW.lc (ag R y) (ag R f)≠Gb.aW.lc (ag R x) (ag R y):=by
 obtain⟨q1,q2,q3,q4⟩:=h.nn hx hy;have hpl:=h.pl;have x4:=hx.z;have y4:=hy.z;have f4:=hf.z;have x1:=hx.a;have x2:=hx.b;have x3:=hx.d;have y1:=hy.a;have y2:=hy.b;have y3:=hy.d;have f1:=hf.a;have f2:=hf.b;have f3:=hf.d;unfold mP fI lS at hd;simp only[Bool.and_eq_true,decide_eq_true_eq,Bool.not_eq_true',Bool.and_eq_false_iff,decide_eq_false_iff_not] at hd;obtain⟨⟨⟨h1,h2⟩,h3⟩,h4⟩:=hd;rw[h.lc hx hy,lC hx hf,lC hy hf];refine⟨?_,?_,?_⟩
 .show (ag R f).1=_/\(ag R f).2.1<=_/\(ag R f).2.2.1<=_/\(ag R f).2.2.2<=_;unfold ag;simp only;omega
 .intro e;simp only[Prod.mk.injEq,true_and] at e;obtain⟨e1,e2,e3⟩:=e;have a1:=mT (mU x1 f1).1 q1 e1;have a2:=mT (mU x2 f2).1 q2 e2;have a3:=mT (mU x3 f3).1 q3 e3;have a4:dD x f=q.z:=by unfold dD;rw[x4,f4,q4];rfl
  rcases h3 with ((h|h)|h)|h
  .exact h a1
  .exact h a2
  .exact h a3
  .exact h a4
 .intro e;simp only[Prod.mk.injEq] at e;obtain⟨_,e1,e2,e3⟩:=e;have a1:=mT (mU y1 f1).1 q1 e1;have a2:=mT (mU y2 f2).1 q2 e2;have a3:=mT (mU y3 f3).1 q3 e3;have a4:dD y f=q.z:=by unfold dD;rw[y4,f4,q4];rfl
  rcases h4 with ((h|h)|h)|h
  .exact h a1
  .exact h a2
  .exact h a3
  .exact h a4
theorem qD:∀(xs kept:List Pq)(y:Pq),y∈kept->y∈bh kept xs
 |[],kept,y,h=>h
 |x::xs,kept,y,h=>by
  unfold bh;split
  .exact qD xs kept y h
  .exact qD xs _ y (by simp[h])
theorem og:∀(xs kept:List Pq)(y:Pq),y∈bh kept xs->y∈kept\/y∈xs
 |[],kept,y,h=>L0 h
 |x::xs,kept,y,h=>by
  unfold bh at h;split at h
  .rcases og xs kept y h with h|h
   .exact L0 h
   .exact L3 (by simp[h])
  .rcases og xs _ y h with h|h
   .rcases Lv.1 h with h|h
    .exact L0 h
    .rw[Lw] at h;subst h;exact L3 (by simp)
   .exact L3 (by simp[h])
theorem pS:∀(xs kept:List Pq)(y:Pq),y∈xs->y∈bh kept xs\/∃q∈bh kept xs,jy q y=true
 |[],kept,y,h=>by simp at h
 |x::xs,kept,y,h=>by
  rcases LL.1 h with rfl|h
  .unfold bh;split
   .rename_i hk;obtain⟨q,hq,e⟩:=List.any_eq_true.1 hk;exact L3 ⟨q,qD xs kept q hq,e⟩
   .exact L0 (qD xs _ y (by simp))
  .unfold bh;split
   .exact pS xs kept y h
   .exact pS xs _ y h
def bZ(R:Nat)(ms:List Mm)(k:Nat):Gb.Te:=(ms[k]?.map λx=>ag R x.L).getD (0,0,0,0)
theorem ce{R:Nat}{ms:List Mm}{k:Nat}(h:k<ms.length):bZ R ms k=ag R ms[k].L:=by unfold bZ;rw[Ls h];rfl
def mA(ms:List Mm)(k:Nat):Prop:=∃h:k<ms.length,ms[k].gone=true
def kI(ms:List Mm)(qs:List Pq)(i j:Nat):Prop:=∃(hi:i<ms.length)(hj:j<ms.length),∃q∈qs,q.b1=ms[i].blk/\q.b2=ms[j].blk
theorem sL{ld ld':Nat->Gb.Te}{n:Nat}{P P':Nat->Nat->Prop}{g g':Nat->Prop}(h:Gb.fF Gb.aW ld n P g)(h1:∀k,k<n->ld' k=ld k)(h2:∀i j,P' i j↔P i j)(h3:∀k,k<n->(g' k↔g k)):Gb.fF Gb.aW ld' n P' g':=by
 refine⟨λt i j hi hj d1 d2=>?_,λx hx hg=>?_,λi j hp=>h.lt i j ((h2 i j).1 hp)⟩
 .rw[h1 i hi] at d1;rw[h1 j hj] at d2;have:=h.con t i j hi hj d1 d2;refine Gb.Pa.map id (λa b e=>?_) this;obtain⟨e1,e2,e3,e4⟩:=e;obtain⟨la,lb⟩:=h.lt a b e1;exact⟨(h2 a b).2 e1,by rw[id,h1 a la];exact e2,by rw[id,h1 b lb];exact e3,by rw[id,id,h1 a la,h1 b lb];exact e4⟩
 .obtain⟨y,hy,hn,hd⟩:=h.gn x hx ((h3 x hx).1 hg);exact⟨y,hy,λh=>hn ((h3 y hy).1 h),by rw[h1 y hy,h1 x hx];exact hd⟩
theorem xy(s t:Gb.Te):Gb.aW.dv s (Gb.aW.lc s t):=⟨rfl,Nat.le_max_left _ _,Nat.le_max_left _ _,Nat.le_max_left _ _⟩
structure oF(R:Nat)(ms:List Mm)(qs:List Pq):Prop where
 inv:Gb.fF Gb.aW (bZ R ms) ms.length (kI ms qs) (mA ms)
 nd:(ms.map Mm.blk).Nodup
 ld:∀x∈ms,dL R x.L
 pr:∀q∈qs,∃x y,x∈ms/\y∈ms/\q.b1=x.blk/\q.b2=y.blk/\dM x.L y.L q
theorem oF.nil(R:Nat):oF R [] []:=⟨⟨λt i j hi=>by simp at hi,λx hx=>by simp at hx,λi j h=>by obtain⟨hi,_⟩:=h;simp at hi⟩,by simp,λx hx=>by simp at hx,λq hq=>by simp at hq⟩
theorem oh{R:Nat}{L:Ft}{x:Mm}(hL:dL R L)(hx:dL R x.L):(bo L x).gone=true↔(x.gone=true\/Gb.aW.dv (ag R L) (ag R x.L)):=by
 rw[<-xv hL hx];unfold bo kJ;by_cases h:x.L.pl=L.pl
 .rw[LI h];simp
 .rw[LH h];constructor
  .exact L0
  .rintro (h1|h1)
   .exact h1
   .unfold dZ at h1;simp only[Bool.and_eq_true,decide_eq_true_eq] at h1;exact absurd h1.1.symm h
theorem oF.step{R:Nat}{ms:List Mm}{qs srt:List Pq}{f:Mm}{k0 k1 k2:Int}{dg:Nat->Int}(h:oF R ms qs)(hf:dL R f.L)(hg:f.gone=false)(hne:∀x∈ms,x.blk≠f.blk)(hs:srt.Perm ((gQ ms f.L.pl.toNat).map λx=>cW k0 k1 k2 dg x f)):oF R (ms.map (bo f.L)++[f]) (qs.filter (λq=>!eC ms f.L q)++bh [] srt):=by
 have hlen:(ms.map (bo f.L)++[f]).length=ms.length+1:=by simp
 have hlt:∀i (hi:i<ms.length) (hi2:i<(ms.map (bo f.L)++[f]).length),(ms.map (bo f.L)++[f])[i]=bo f.L ms[i]:=λi hi hi2=>by rw[List.getElem_append_left (by simpa using hi),List.getElem_map]
 have hla:∀(hi2:ms.length<(ms.map (bo f.L)++[f]).length),(ms.map (bo f.L)++[f])[ms.length]=f:=λhi2=>by rw[List.getElem_append_right (by simp)];simp
 have hld:∀i,i<ms.length->bZ R (ms.map (bo f.L)++[f]) i=bZ R ms i:=λi hi=>by rw[ce hi,ce (by omega),hlt i hi (by omega),(eY f.L _).1]
 have hln:bZ R (ms.map (bo f.L)++[f]) ms.length=ag R f.L:=by rw[ce (by omega),hla (by omega)]
 have hal:∀q∈srt,∃(i:Nat)(hi:i<ms.length),ms[i].L.pl=f.L.pl/\ms[i].gone=false/\q=cW k0 k1 k2 dg ms[i] f:=λq hq=>by
  obtain⟨x,hx,e⟩:=LC.1 (hs.mem_iff.1 hq);have hx2:=LR.1 hx;have hx3:=LR.1 hx2.1;obtain⟨i,hi,e2⟩:=L8.1 hx3.1;have hp:=hf.pl;refine⟨i,hi,?_,?_,by rw[e2];exact e.symm⟩
  .rw[e2];have:=hx3.2;simp only[decide_eq_true_eq] at this;omega
  .rw[e2];simpa using hx2.2
 have hmem:∀q,q∈bh [] srt->q∈srt:=λq hq=>(og srt [] q hq).elim (λh=>by simp at h) id;have hpr:∀(i:Nat)(hi:i<ms.length),ms[i].L.pl=f.L.pl->dM ms[i].L f.L (cW k0 k1 k2 dg ms[i] f):=λi hi e=>⟨e,rfl,rfl,rfl,rfl⟩;have inj:∀(i j:Nat)(hi:i<ms.length)(hj:j<ms.length),ms[i].blk=ms[j].blk->i=j:=λi j hi hj e=>by
  have h1:(ms.map Mm.blk)[i]'(by simpa using hi)=(ms.map Mm.blk)[j]'(by simpa using hj):=by simp[e]
  exact(List.getElem_inj h.nd).1 h1
 have blk':∀i (hi2:i<(ms.map (bo f.L)++[f]).length),(∃hi:i<ms.length,(ms.map (bo f.L)++[f])[i].blk=ms[i].blk)\/(i=ms.length/\(ms.map (bo f.L)++[f])[i].blk=f.blk):=λi hi2=>by
  by_cases hi:i<ms.length
  .exact L0 ⟨hi,by rw[hlt i hi hi2,(eY f.L _).2.1]⟩
  .have e:i=ms.length:=by omega
   subst e;exact L3 ⟨rfl,by rw[hla hi2]⟩
 refine⟨?_,?_,λx hx=>?_,λq hq=>?_⟩
 .rw[hlen];have h0:Gb.fF Gb.aW (bZ R (ms.map (bo f.L)++[f])) ms.length (kI ms qs) (mA ms):=sL h.inv hld (λ_ _=>Iff.rfl) λ_ _=>Iff.rfl;refine h0.step (kept:=λi=>∃(hi:i<ms.length),∃q∈bh [] srt,q.b1=ms[i].blk) (λx hx=>hx.1) (λx t hx hgx d1 d2=>?_) (λi j hp=>?_) (λi hi=>?_) (λi j hp=>?_) (λx=>?_)
  .rw[hld x hx,ce hx] at d1;rw[hln] at d2;have lx:=h.ld ms[x] (Lo hx);have hpl:ms[x].L.pl=f.L.pl:=by have e1:(ag R ms[x].L).1=(ag R f.L).1:=d1.1.trans d2.1.symm;have p1:=lx.pl;have p2:=hf.pl;unfold ag at e1;simp only at e1;omega
   have hgx2:ms[x].gone=false:=by
    cases e:ms[x].gone with
    |true=>exact absurd ⟨hx,e⟩ hgx
    |false=>rfl
   have hin:cW k0 k1 k2 dg ms[x] f∈srt:=by refine hs.mem_iff.2 (LC.2 ⟨ms[x],LR.2 ⟨LR.2 ⟨Lo hx,?_⟩,by simp[hgx2]⟩,rfl⟩);have p2:=hf.pl;simp only[decide_eq_true_eq];omega
   rcases pS srt [] _ hin with h1|⟨q,hq,h1⟩
   .exact L0 ⟨hx,_,h1,rfl⟩
   .obtain⟨y,hy,ypl,ygo,rfl⟩:=hal q (hmem q hq);have ly:=h.ld ms[y] (Lo hy);have hlc:Gb.aW.dv (Gb.aW.lc (ag R ms[y].L) (ag R f.L)) (Gb.aW.lc (ag R ms[x].L) (ag R f.L)):=by rw[lC ly hf,lC lx hf,ypl,hpl];unfold jy fI at h1;simp only[Bool.and_eq_true,decide_eq_true_eq] at h1;obtain⟨⟨⟨a1,a2⟩,a3⟩,_⟩:=h1;exact⟨rfl,Int.toNat_le_toNat a1,Int.toNat_le_toNat a2,Int.toNat_le_toNat a3⟩
    refine L3 ⟨y,⟨hy,_,hq,rfl⟩,?_,?_⟩
    .rw[hld y hy,ce hy];exact Gb.aW.trans (xy _ (ag R f.L)) (Gb.aW.trans hlc (Gb.aW.lci d1 d2))
    .rw[hld y hy,ce hy,hln,hld x hx,ce hx];exact hlc
  .obtain⟨hi2,hj2,q,hq,e1,e2⟩:=hp;rcases Lv.1 hq with hq|hq
   .have hq2:=(LR.1 hq).1;obtain⟨x,y,hx,hy,f1,f2,_⟩:=h.pr q hq2;rcases blk' i hi2 with ⟨hi,b1⟩|⟨_,b1⟩
    .rcases blk' j hj2 with ⟨hj,b2⟩|⟨_,b2⟩
     .exact L0 ⟨hi,hj,q,hq2,by rw[e1,b1],by rw[e2,b2]⟩
     .exact absurd (f2.symm.trans (e2.trans b2)) (hne y hy)
    .exact absurd (f1.symm.trans (e1.trans b1)) (hne x hx)
   .obtain⟨x,hx,_,_,rfl⟩:=hal q (hmem q hq);rcases blk' i hi2 with ⟨hi,b1⟩|⟨_,b1⟩
    .rcases blk' j hj2 with ⟨hj,b2⟩|⟨ej,b2⟩
     .exact absurd (e2.trans b2).symm (hne ms[j] (Lo hj))
     .exact L3 ⟨ej,hi,_,hq,by rw[e1,b1]⟩
    .exact absurd (e1.trans b1) (hne ms[x] (Lo hx))
  .obtain⟨hi2,q,hq,e⟩:=hi;obtain⟨x,hx,_,_,rfl⟩:=hal q (hmem q hq);refine⟨by omega,by omega,_,Lv.2 (L3 hq),?_,?_⟩
   .rw[e,hlt i hi2 (by omega),(eY f.L _).2.1]
   .rw[hla (by omega)];rfl
  .obtain⟨hi,hj,q,hq,e1,e2⟩:=hp;cases ht:eC ms f.L q with
   |false=>
    refine L0 ⟨by omega,by omega,q,Lv.2 (L0 (LR.2 ⟨hq,by simp[ht]⟩)),?_,?_⟩
    .rw[e1,hlt i hi (by omega),(eY f.L _).2.1]
    .rw[e2,hlt j hj (by omega),(eY f.L _).2.1]
   |true=>obtain⟨x,y,hx,hy,f1,f2,hp2⟩:=h.pr q hq;have ex:x=ms[i]:=jX h.nd hx (Lo hi) (f1.symm.trans e1);have ey:y=ms[j]:=jX h.nd hy (Lo hj) (f2.symm.trans e2);subst ex ey;unfold eC at ht;rw[f1,f2,mB h.nd hx,mB h.nd hy] at ht;refine L3 ?_;rw[hld i hi,hld j hj,ce hi,ce hj,hln];exact xA hp2 (h.ld _ hx) (h.ld _ hy) hf ht
  .constructor
   .rintro ⟨hx,hgx⟩;rcases (by omega:x<ms.length\/x=ms.length) with hx2|rfl
    .rw[hlt x hx2 hx] at hgx;refine⟨hx2,?_⟩;rw[hln,hld x hx2,ce hx2];rcases (oh hf (h.ld _ (Lo hx2))).1 hgx with h1|h1
     .exact L0 ⟨hx2,h1⟩
     .exact L3 h1
    .rw[hla hx,hg] at hgx;simp at hgx
   .rintro ⟨hx2,h1⟩;refine⟨by omega,?_⟩;rw[hlt x hx2 (by omega)];rw[hln,hld x hx2,ce hx2] at h1;refine(oh hf (h.ld _ (Lo hx2))).2 ?_;rcases h1 with ⟨_,h1⟩|h1
    .exact L0 h1
    .exact L3 h1
 .rw[LO,List.map_map];have e:(Mm.blk∘bo f.L)=Mm.blk:=by funext x;exact(eY f.L x).2.1
  rw[e];refine List.nodup_append.2 ⟨h.nd,by simp,λa ha b hb=>?_⟩;simp at hb;obtain⟨x,hx,rfl⟩:=LC.1 ha;rw[hb];exact hne x hx
 .rcases Lv.1 hx with hx|hx
  .obtain⟨y,hy,rfl⟩:=LC.1 hx;rw[(eY f.L y).1];exact h.ld y hy
  .rw[Lw] at hx;subst hx;exact hf
 .rcases Lv.1 hq with hq|hq
  .obtain⟨x,y,hx,hy,e1,e2,hp⟩:=h.pr q (LR.1 hq).1;refine⟨bo f.L x,bo f.L y,by simp only[Lv,LC];exact L0 ⟨x,hx,rfl⟩,by simp only[Lv,LC];exact L0 ⟨y,hy,rfl⟩,by rw[(eY f.L x).2.1];exact e1,by rw[(eY f.L y).2.1];exact e2,by rw[(eY f.L x).1,(eY f.L y).1];exact hp⟩
  .obtain⟨x,hx,xpl,_,rfl⟩:=hal q (hmem q hq);refine⟨bo f.L ms[x],f,by simp only[Lv,LC];exact L0 ⟨_,Lo hx,rfl⟩,by simp,by rw[(eY f.L _).2.1];rfl,rfl,by rw[(eY f.L _).1];exact hpr x hx xpl⟩
end Go.Proofs.YteimdcndjjclnaaGreat
namespace Go.Proofs.YteimdcndjjclnaaGreat
set_option linter.all false
open Go.Proofs.Tryz Go.RowKit Go.Sort
def kj(a b:Int):Int:=if a=0 then b else a
theorem xP(a b c d:Int):kj (aI a b) (aI c d)=if a<b then-1 else if b<a then 1 else if c<d then-1 else if d<c then 1 else 0:=by unfold kj aI;split<;>(try split)<;>(try split)<;>simp_all
theorem GK(vb:Nat)(a b:Int)(w:World)(h0:w.cell? ⟨vb,0,none⟩=some (.int .i64 a))(h1:w.cell? ⟨vb,1,none⟩=some (.int .i64 b)):Calls prog 146 #[.slice (some ⟨vb,0,none⟩) 2 2] w λe w'=>e=.returned (.int .i64 (kj a b))/\w'=w:=by
 go_enter func146,ntmps146;go_wp2_with fail;go_loopw [8] (λi wr=>wr=w/\(i=.int .i64 0\/(i=.int .i64 1/\a=0)\/(i=.int .i64 2/\a=0/\b=0))) (λi _=>2-(intOf i).toNat);case atStart=>exact⟨rfl,L0 rfl⟩
 case round=>
  obtain⟨rfl,rfl|⟨rfl,ha⟩|⟨rfl,ha,hb⟩⟩:=hrel
  .by_cases ha:a=0
   .subst ha;go_wp2_with fail;go_roundw;case rel=>exact⟨trivial,L3 (L0 ⟨by go_num,trivial⟩)⟩
    case measure=>simp[intOf]
   .have hn:(a==0)=false:=by simpa using ha
    have HE:Ma (kj a b=a):=by show _=_;unfold kj;rw[LH ha]
    go_wp2;go_ret;exact⟨by rw[HE.o];rfl,rfl⟩
  .subst ha;by_cases hb:b=0
   .subst hb;go_wp2_with fail;go_roundw;case rel=>exact⟨trivial,L3 (L3 ⟨by go_num,trivial,trivial⟩)⟩
    case measure=>simp[intOf]
   .have hn:(b==0)=false:=by simpa using hb
    have HE:Ma (kj 0 b=b):=by show _=_;unfold kj;rw[LI rfl]
    go_wp2;go_ret;exact⟨by rw[HE.o];rfl,rfl⟩
  .subst ha hb;go_wp2;go_ret;exact⟨rfl,rfl⟩
def jY(x y:Pq):Int:=kj (aI x.dg y.dg) (aI x.k y.k)
theorem zp(w:World)(a b:Int)(T:TypeId):(w.alloc (.cells #[.int .i64 a,.int .i64 b] T)).cell? ⟨w.heap.size,0,none⟩=some (.int .i64 a)/\(w.alloc (.cells #[.int .i64 a,.int .i64 b] T)).cell? ⟨w.heap.size,1,none⟩=some (.int .i64 b):=by simp[go_sem]
theorem DR(x y:Pq)(W:World):Calls prog 116 #[.agg (aH x).toArray,.agg (aH y).toArray] W λe w'=>e=.returned (.int .i64 (jY x y))/\∃q os',w'=grow (W.drewN q) os':=by
 have hc1:=λW'=>jn x.dg y.dg W';have hc2:=λW'=>zq x.k y.k W';unfold jY;generalize aI x.dg y.dg=c1 at hc1⊢;generalize aI x.k y.k=c2 at hc2⊢;obtain⟨w2,hw2⟩:∃w2,w2=(W.alloc (.cells #[.pointer (some ⟨x.b1,0,none⟩),.pointer (some ⟨x.b2,0,none⟩),.int .u16 x.a,.int .u16 x.b,.int .u16 x.d,.int .u16 x.z,.int .i64 x.dg,.int .i64 x.k] 126)).alloc (.cells #[.pointer (some ⟨y.b1,0,none⟩),.pointer (some ⟨y.b2,0,none⟩),.int .u16 y.a,.int .u16 y.b,.int .u16 y.d,.int .u16 y.z,.int .i64 y.dg,.int .i64 y.k] 126):=⟨_,rfl⟩;have HG2:Ma (∃os,w2=grow W os):=by rw[hw2];exact⟨_,by rw[alloc_eq_grow,alloc_eq_grow,grow_grow]⟩
 have K0:Ma (w2.drew.cell? ⟨W.heap.size,6,none⟩=some (.int .i64 x.dg)/\w2.drew.cell? ⟨W.heap.size,7,none⟩=some (.int .i64 x.k)/\w2.drew.cell? ⟨W.heap.size+1,6,none⟩=some (.int .i64 y.dg)/\w2.drew.cell? ⟨W.heap.size+1,7,none⟩=some (.int .i64 y.k)):=by rw[hw2];simp[go_sem,Ma]
 have KA:Ma (∀C,(w2.drew.alloc C).cell? ⟨W.heap.size,6,none⟩=some (.int .i64 x.dg)/\(w2.drew.alloc C).cell? ⟨W.heap.size,7,none⟩=some (.int .i64 x.k)/\(w2.drew.alloc C).cell? ⟨W.heap.size+1,6,none⟩=some (.int .i64 y.dg)/\(w2.drew.alloc C).cell? ⟨W.heap.size+1,7,none⟩=some (.int .i64 y.k)):=λC=>by obtain⟨f0,f1,f2,f3⟩:=K0.o;exact⟨ae f0 aj,ae f1 aj,ae f2 aj,ae f3 aj⟩
 have HOR:Ma (Calls prog 146 #[.slice (some ⟨w2.heap.size,0,none⟩) 2 2] (w2.drew.alloc (.cells #[.int .i64 c1,.int .i64 c2] 3)) λe w'=>e=.returned (.int .i64 (kj c1 c2))/\w'=w2.drew.alloc (.cells #[.int .i64 c1,.int .i64 c2] 3)):=GK w2.heap.size c1 c2 _ (zp w2.drew c1 c2 _).1 (zp w2.drew c1 c2 _).2;have HC1:=ac hc1;have HC2:=ac hc2;clear hc1 hc2;unfold aH;go_enter func116,ntmps116;go_upto_region 1 with fail;rw[<-hw2];clear hw2;go_region_held (λW9=>W9.cell? ⟨W.heap.size,6,none⟩=some (.int .i64 x.dg)/\W9.cell? ⟨W.heap.size,7,none⟩=some (.int .i64 x.k)/\W9.cell? ⟨W.heap.size+1,6,none⟩=some (.int .i64 y.dg)/\W9.cell? ⟨W.heap.size+1,7,none⟩=some (.int .i64 y.k))
  (first|with_reducible exact K0.o|exact KA.o _)
  (first|(go_at_call 80;refine(HC1.o _).mono ?_;rintro e w' ⟨rfl,rfl⟩)|(go_at_call 145;refine(HC2.o _).mono ?_;rintro e w' ⟨rfl,rfl⟩)|(go_at_call 146;refine HOR.o.mono ?_;rintro e w' ⟨rfl,rfl⟩))
 all_goals
  go_wp2;go_ret;obtain⟨os,h⟩:=HG2.o;exact⟨rfl,1,_,by rw[h,alloc_eq_grow];exact grow_grow (w:=W.drew) ..⟩
end Go.Proofs.YteimdcndjjclnaaGreat
