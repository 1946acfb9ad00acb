/- A pair is looked at. -/
import Derived.Test.YtjkalahhpobefaaGreatKX
import Derived.Test.YtjkalahhpobefaaGreatKW
import Derived.Test.YtjkalahhpobefaaGreatDG
set_option maxHeartbeats 2000000
set_option maxRecDepth 100000
namespace Go.Proofs.YtjkalahhpobefaaGreat
set_option linter.all false
open Go.Proofs.Tryz Go.RowKit
def IY(o ov:Int)(N:Nat)(q:Pq)(pl:Int):Ft:=⟨jv o ov pl (aD N ⟨0,q.a,q.b,q.d,0,pl,1⟩),q.a,q.b,q.d,0,pl,1⟩
structure dh(x y:Ft)(q:Pq):Prop where
 pl:x.pl=y.pl
 a:q.a=dj x y
 b:q.b=dk x y
 d:q.d=dp x y
 z:q.z=dq x y
variable{q:Pq}{x y:Ft}{N R:Nat}
theorem dh.gd{o ov:Int}(h:dh x y q)(gx:Gd o ov N R 40 x)(gy:Gd o ov N R 40 y):Gd o ov N R 80 (IY o ov N q x.pl):=by
 have h1:=h.a;have h2:=h.b;have h3:=h.d;unfold dj at h1;unfold dk at h2;unfold dp at h3;have x1:=gx.a;have x2:=gx.b;have x3:=gx.d;have x4:=gx.deg;have y1:=gy.a;have y2:=gy.b;have y3:=gy.d;have y4:=gy.deg;refine⟨rfl,?_,?_,?_,?_,rfl,gx.pl0,gx.pl,λh=>?_,λh=>?_⟩
 .show 0<=q.a;omega
 .show 0<=q.b;omega
 .show 0<=q.d;omega
 .show q.a+q.b+q.d<=80;omega
 .show q.b=0;have:=gx.n1 h;have:=gy.n1 h;omega
 .show q.d=0;have:=gx.n2 h;have:=gy.n2 h;omega
structure gT(R:Nat)(L:Ft):Prop where
 a:0<=L.a
 b:0<=L.b
 d:0<=L.d
 z:L.z=0
 pl:0<=L.pl/\L.pl<R
variable{s t:Ft}
theorem IZ(hs:gT R s)(ht:gT R t):cA s t=true↔Gb.eG.dv (bG R s) (bG R t):=by have s1:=hs.a;have s2:=hs.b;have s3:=hs.d;have s4:=hs.z;have s5:=hs.pl;have t1:=ht.a;have t2:=ht.b;have t3:=ht.d;have t4:=ht.z;have t5:=ht.pl;unfold cA eN;show _↔(bG R s).1=(bG R t).1/\(bG R s).2.1<=(bG R t).2.1/\(bG R s).2.2.1<=(bG R t).2.2.1/\(bG R s).2.2.2<=(bG R t).2.2.2;unfold bG;simp only[Bool.and_eq_true,decide_eq_true_eq];omega
theorem pH(hs:gT R s)(ht:gT R t):Gb.eG.lc (bG R s) (bG R t)=(R-1-s.pl.toNat,(dj s t).toNat,(dk s t).toNat,(dp s t).toNat):=by have s1:=hs.a;have s2:=hs.b;have s3:=hs.d;have t1:=ht.a;have t2:=ht.b;have t3:=ht.d;show ((bG R s).1,max (bG R s).2.1 (bG R t).2.1,max (bG R s).2.2.1 (bG R t).2.2.1,max (bG R s).2.2.2 (bG R t).2.2.2)=_;unfold bG dj dk dp;simp only[Prod.mk.injEq,true_and];omega
theorem dh.lc(h:dh x y q)(hx:gT R x)(hy:gT R y):Gb.eG.lc (bG R x) (bG R y)=(R-1-x.pl.toNat,q.a.toNat,q.b.toNat,q.d.toNat):=by rw[pH hx hy,h.a,h.b,h.d]
theorem dh.nn(h:dh x y q)(hx:gT R x)(hy:gT R y):0<=q.a/\0<=q.b/\0<=q.d/\q.z=0:=by have h1:=h.a;have h2:=h.b;have h3:=h.d;have h4:=h.z;unfold dj at h1;unfold dk at h2;unfold dp at h3;unfold dq at h4;have s1:=hx.a;have s2:=hx.b;have s3:=hx.d;have s4:=hx.z;have t1:=hy.a;have t2:=hy.b;have t3:=hy.d;have t4:=hy.z;omega
variable{m:Int}
theorem oh{n:Int}(h1:0<=m)(h2:0<=n)(h:m.toNat=n.toNat):m=n:=by omega
theorem oj{n:Int}(h1:0<=m)(h2:0<=n):0<=max m n/\True:=⟨by omega,trivial⟩
variable{f:Ft}
theorem I0(h:dh x y q)(hx:gT R x)(hy:gT R y)(hf:gT R f)(hd:lB x y f q=true):Gb.eG.dv (bG R f) (Gb.eG.lc (bG R x) (bG R y))/\Gb.eG.lc (bG R x) (bG R f)≠Gb.eG.lc (bG R x) (bG R y)/\Gb.eG.lc (bG R y) (bG R f)≠Gb.eG.lc (bG R x) (bG R y):=by
 obtain⟨q1,q2,q3,q4⟩:=h.nn hx hy;have hpl:=h.pl;have x4:=hx.z;have y4:=hy.z;have f4:=hf.z;have x1:=hx.a;have x2:=hx.b;have x3:=hx.d;have y1:=hy.a;have y2:=hy.b;have y3:=hy.d;have f1:=hf.a;have f2:=hf.b;have f3:=hf.d;unfold lB eN lA at hd;simp only[Bool.and_eq_true,decide_eq_true_eq,Bool.not_eq_true',Bool.and_eq_false_iff,decide_eq_false_iff_not] at hd;obtain⟨⟨⟨h1,h2⟩,h3⟩,h4⟩:=hd;rw[h.lc hx hy,pH hx hf,pH hy hf];refine⟨?_,?_,?_⟩
 .show (bG R f).1=_/\(bG R f).2.1<=_/\(bG R f).2.2.1<=_/\(bG R f).2.2.2<=_;unfold bG;simp only;omega
 .intro e;simp only[Prod.mk.injEq,true_and] at e;obtain⟨e1,e2,e3⟩:=e;have a1:=oh (oj x1 f1).1 q1 e1;have a2:=oh (oj x2 f2).1 q2 e2;have a3:=oh (oj x3 f3).1 q3 e3;have a4:dq x f=q.z:=by unfold dq;rw[x4,f4,q4];rfl
  rcases h3 with ((h|h)|h)|h
  .exact h a1
  .exact h a2
  .exact h a3
  .exact h a4
 .intro e;simp only[Prod.mk.injEq] at e;obtain⟨_,e1,e2,e3⟩:=e;have a1:=oh (oj y1 f1).1 q1 e1;have a2:=oh (oj y2 f2).1 q2 e2;have a3:=oh (oj y3 f3).1 q3 e3;have a4:dq y f=q.z:=by unfold dq;rw[y4,f4,q4];rfl
  rcases h4 with ((h|h)|h)|h
  .exact h a1
  .exact h a2
  .exact h a3
  .exact h a4
theorem rP:∀(xs kept:PF)(y:Pq),y∈kept->y∈bN kept xs
 |[],kept,y,h=>h
 |x::xs,kept,y,h=>by
  unfold bN;split
  .exact rP xs kept y h
  .exact rP xs _ y (by simp[h])
theorem oZ:∀(xs kept:PF)(y:Pq),y∈bN kept xs->y∈kept\/y∈xs
 |[],kept,y,h=>Pf h
 |x::xs,kept,y,h=>by
  unfold bN at h;split at h
  .rcases oZ xs kept y h with h|h
   .exact Pf h
   .exact Pg (by simp[h])
  .rcases oZ xs _ y h with h|h
   .rcases OK.1 h with h|h
    .exact Pf h
    .rw[OL] at h;subst h;exact Pg (by simp)
   .exact Pg (by simp[h])
theorem qS:∀(xs kept:PF)(y:Pq),y∈xs->y∈bN kept xs\/∃q∈bN kept xs,jO q y=true
 |[],kept,y,h=>by simp at h
 |x::xs,kept,y,h=>by
  rcases OY.1 h with rfl|h
  .unfold bN;split
   .rename_i hk;obtain⟨q,hq,e⟩:=List.any_eq_true.1 hk;exact Pg ⟨q,rP xs kept q hq,e⟩
   .exact Pf (rP xs _ y (by simp))
  .unfold bN;split
   .exact qS xs kept y h
   .exact qS xs _ y h
def mA(R:Nat)(ms:PD)(k:Nat):Gb.Te:=(ms[k]?.map λx=>bG R x.L).getD (0,0,0,0)
variable{k:Nat}{ms:PD}
theorem jA(h:k<ms.length):mA R ms k=bG R ms[k].L:=by unfold mA;rw[OI h];rfl
def m8(ms:PD)(k:Nat):Prop:=∃h:k<ms.length,ms[k].gone=true
def kU(ms:PD)(qs:PF)(i j:Nat):Prop:=∃(hi:i<ms.length)(hj:j<ms.length),∃q∈qs,q.b1=ms[i].blk/\q.b2=ms[j].blk
variable{g g':Nat->Prop}{P P':Nat->Nat->Prop}{n:Nat}
theorem I1{ld ld':Nat->Gb.Te}(h:Gb.iz Gb.eG ld n P g)(h1:∀k,k<n->ld' k=ld k)(h2:∀i j,P' i j↔P i j)(h3:∀k,k<n->(g' k↔g k)):Gb.iz Gb.eG ld' n P' g':=by
 refine⟨λt i j hi hj d1 d2=>?_,λx hx hg=>?_,λi j hp=>h.lt i j ((h2 i j).1 hp)⟩
 .rw[h1 i hi] at d1;rw[h1 j hj] at d2;have:=h.con t i j hi hj d1 d2;refine Gb.Pa.map id (λa b e=>?_) this;obtain⟨e1,e2,e3,e4⟩:=e;obtain⟨la,lb⟩:=h.lt a b e1;exact⟨(h2 a b).2 e1,by rw[id,h1 a la];exact e2,by rw[id,h1 b lb];exact e3,by rw[id,id,h1 a la,h1 b lb];exact e4⟩
 .obtain⟨y,hy,hn,hd⟩:=h.gn x hx ((h3 x hx).1 hg);exact⟨y,hy,λh=>hn ((h3 y hy).1 h),by rw[h1 y hy,h1 x hx];exact hd⟩
theorem I2(s t:Gb.Te):Gb.eG.dv s (Gb.eG.lc s t):=⟨rfl,Nat.le_max_left _ _,Nat.le_max_left _ _,Nat.le_max_left _ _⟩
structure pI(R:Nat)(ms:PD)(qs:PF):Prop where
 inv:Gb.iz Gb.eG (mA R ms) ms.length (kU ms qs) (m8 ms)
 nd:(ms.map Mm.blk).Nodup
 ld:∀x∈ms,gT R x.L
 pr:∀q∈qs,∃x y,x∈ms/\y∈ms/\q.b1=x.blk/\q.b2=y.blk/\dh x.L y.L q
theorem pI.nil(R:Nat):pI R [] []:=⟨⟨λt i j hi=>by simp at hi,λx hx=>by simp at hx,λi j h=>by obtain⟨hi,_⟩:=h;simp at hi⟩,by simp,λx hx=>by simp at hx,λq hq=>by simp at hq⟩
variable{L:Ft}
theorem BC{x:Mm}(hL:gT R L)(hx:gT R x.L):(aU L x).gone=true↔(x.gone=true\/Gb.eG.dv (bG R L) (bG R x.L)):=by
 rw[<-IZ hL hx];unfold aU lE;by_cases h:x.L.pl=L.pl
 .rw[OW h];simp
 .rw[OV h];constructor
  .exact Pf
  .rintro (h1|h1)
   .exact h1
   .unfold cA at h1;simp only[Bool.and_eq_true,decide_eq_true_eq] at h1;exact absurd h1.1.symm h
variable{dg:Nat->Int}{qs:PF}
theorem pI.step{srt:PF}{f:Mm}{k0 k1 k2:Int}(h:pI R ms qs)(hf:gT R f.L)(hg:f.gone=false)(hne:∀x∈ms,x.blk≠f.blk)(hs:srt.Perm ((ig ms f.L.pl.toNat).map λx=>di k0 k1 k2 dg x f)):pI R (ms.map (aU f.L)++[f]) (qs.filter (λq=>!fL ms f.L q)++bN [] srt):=by
 have hlen:(ms.map (aU f.L)++[f]).length=ms.length+1:=by simp
 have hlt:∀i (hi:i<ms.length) (hi2:i<(ms.map (aU f.L)++[f]).length),(ms.map (aU f.L)++[f])[i]=aU f.L ms[i]:=λi hi hi2=>by rw[List.getElem_append_left (by simpa using hi),List.getElem_map]
 have hla:∀(hi2:ms.length<(ms.map (aU f.L)++[f]).length),(ms.map (aU f.L)++[f])[ms.length]=f:=λhi2=>by rw[List.getElem_append_right (by simp)];simp
 have hld:∀i,i<ms.length->mA R (ms.map (aU f.L)++[f]) i=mA R ms i:=λi hi=>by rw[jA hi,jA (by omega),hlt i hi (by omega),(cJ f.L _).1]
 have hln:mA R (ms.map (aU f.L)++[f]) ms.length=bG R f.L:=by rw[jA (by omega),hla (by omega)]
 have hal:∀q∈srt,∃(i:Nat)(hi:i<ms.length),ms[i].L.pl=f.L.pl/\ms[i].gone=false/\q=di k0 k1 k2 dg ms[i] f:=λq hq=>by
  obtain⟨x,hx,e⟩:=OR.1 (hs.mem_iff.1 hq);have hx2:=O5.1 hx;have hx3:=O5.1 hx2.1;obtain⟨i,hi,e2⟩:=Pm.1 hx3.1;have hp:=hf.pl;refine⟨i,hi,?_,?_,by rw[e2];exact e.symm⟩
  .rw[e2];have:=hx3.2;simp only[decide_eq_true_eq] at this;omega
  .rw[e2];simpa using hx2.2
 have hmem:∀q,q∈bN [] srt->q∈srt:=λq hq=>(oZ srt [] q hq).elim (λh=>by simp at h) id;have hpr:∀(i:Nat)(hi:i<ms.length),ms[i].L.pl=f.L.pl->dh ms[i].L f.L (di k0 k1 k2 dg ms[i] f):=λi hi e=>⟨e,rfl,rfl,rfl,rfl⟩;have inj:∀(i j:Nat)(hi:i<ms.length)(hj:j<ms.length),ms[i].blk=ms[j].blk->i=j:=λi j hi hj e=>by
  have h1:(ms.map Mm.blk)[i]'(by simpa using hi)=(ms.map Mm.blk)[j]'(by simpa using hj):=by simp[e]
  exact(List.getElem_inj h.nd).1 h1
 have blk':∀i (hi2:i<(ms.map (aU f.L)++[f]).length),(∃hi:i<ms.length,(ms.map (aU f.L)++[f])[i].blk=ms[i].blk)\/(i=ms.length/\(ms.map (aU f.L)++[f])[i].blk=f.blk):=λi hi2=>by
  by_cases hi:i<ms.length
  .exact Pf ⟨hi,by rw[hlt i hi hi2,(cJ f.L _).2.1]⟩
  .have e:i=ms.length:=by omega
   subst e;exact Pg ⟨rfl,by rw[hla hi2]⟩
 refine⟨?_,?_,λx hx=>?_,λq hq=>?_⟩
 .rw[hlen];have h0:Gb.iz Gb.eG (mA R (ms.map (aU f.L)++[f])) ms.length (kU ms qs) (m8 ms):=I1 h.inv hld (λ_ _=>Iff.rfl) λ_ _=>Iff.rfl;refine h0.step (kept:=λi=>∃(hi:i<ms.length),∃q∈bN [] srt,q.b1=ms[i].blk) (λx hx=>hx.1) (λx t hx hgx d1 d2=>?_) (λi j hp=>?_) (λi hi=>?_) (λi j hp=>?_) (λx=>?_)
  .rw[hld x hx,jA hx] at d1;rw[hln] at d2;have lx:=h.ld ms[x] (OE hx);have hpl:ms[x].L.pl=f.L.pl:=by have e1:(bG R ms[x].L).1=(bG R f.L).1:=d1.1.trans d2.1.symm;have p1:=lx.pl;have p2:=hf.pl;unfold bG at e1;simp only at e1;omega
   have hgx2:ms[x].gone=false:=by
    cases e:ms[x].gone with
    |true=>exact absurd ⟨hx,e⟩ hgx
    |false=>rfl
   have hin:di k0 k1 k2 dg ms[x] f∈srt:=by refine hs.mem_iff.2 (OR.2 ⟨ms[x],O5.2 ⟨O5.2 ⟨OE hx,?_⟩,by simp[hgx2]⟩,rfl⟩);have p2:=hf.pl;simp only[decide_eq_true_eq];omega
   rcases qS srt [] _ hin with h1|⟨q,hq,h1⟩
   .exact Pf ⟨hx,_,h1,rfl⟩
   .obtain⟨y,hy,ypl,ygo,rfl⟩:=hal q (hmem q hq);have ly:=h.ld ms[y] (OE hy);have hlc:Gb.eG.dv (Gb.eG.lc (bG R ms[y].L) (bG R f.L)) (Gb.eG.lc (bG R ms[x].L) (bG R f.L)):=by rw[pH ly hf,pH lx hf,ypl,hpl];unfold jO eN at h1;simp only[Bool.and_eq_true,decide_eq_true_eq] at h1;obtain⟨⟨⟨a1,a2⟩,a3⟩,_⟩:=h1;exact⟨rfl,Int.toNat_le_toNat a1,Int.toNat_le_toNat a2,Int.toNat_le_toNat a3⟩
    refine Pg ⟨y,⟨hy,_,hq,rfl⟩,?_,?_⟩
    .rw[hld y hy,jA hy];exact Gb.eG.trans (I2 _ (bG R f.L)) (Gb.eG.trans hlc (Gb.eG.lci d1 d2))
    .rw[hld y hy,jA hy,hln,hld x hx,jA hx];exact hlc
  .obtain⟨hi2,hj2,q,hq,e1,e2⟩:=hp;rcases OK.1 hq with hq|hq
   .have hq2:=(O5.1 hq).1;obtain⟨x,y,hx,hy,f1,f2,_⟩:=h.pr q hq2;rcases blk' i hi2 with ⟨hi,b1⟩|⟨_,b1⟩
    .rcases blk' j hj2 with ⟨hj,b2⟩|⟨_,b2⟩
     .exact Pf ⟨hi,hj,q,hq2,by rw[e1,b1],by rw[e2,b2]⟩
     .exact absurd (f2.symm.trans (e2.trans b2)) (hne y hy)
    .exact absurd (f1.symm.trans (e1.trans b1)) (hne x hx)
   .obtain⟨x,hx,_,_,rfl⟩:=hal q (hmem q hq);rcases blk' i hi2 with ⟨hi,b1⟩|⟨_,b1⟩
    .rcases blk' j hj2 with ⟨hj,b2⟩|⟨ej,b2⟩
     .exact absurd (e2.trans b2).symm (hne ms[j] (OE hj))
     .exact Pg ⟨ej,hi,_,hq,by rw[e1,b1]⟩
    .exact absurd (e1.trans b1) (hne ms[x] (OE hx))
  .obtain⟨hi2,q,hq,e⟩:=hi;obtain⟨x,hx,_,_,rfl⟩:=hal q (hmem q hq);refine⟨by omega,by omega,_,OK.2 (Pg hq),?_,?_⟩
   .rw[e,hlt i hi2 (by omega),(cJ f.L _).2.1]
   .rw[hla (by omega)];rfl
  .obtain⟨hi,hj,q,hq,e1,e2⟩:=hp;cases ht:fL ms f.L q with
   |false=>
    refine Pf ⟨by omega,by omega,q,OK.2 (Pf (O5.2 ⟨hq,by simp[ht]⟩)),?_,?_⟩
    .rw[e1,hlt i hi (by omega),(cJ f.L _).2.1]
    .rw[e2,hlt j hj (by omega),(cJ f.L _).2.1]
   |true=>obtain⟨x,y,hx,hy,f1,f2,hp2⟩:=h.pr q hq;have ex:x=ms[i]:=kr h.nd hx (OE hi) (f1.symm.trans e1);have ey:y=ms[j]:=kr h.nd hy (OE hj) (f2.symm.trans e2);subst ex ey;unfold fL at ht;rw[f1,f2,nc h.nd hx,nc h.nd hy] at ht;refine Pg ?_;rw[hld i hi,hld j hj,jA hi,jA hj,hln];exact I0 hp2 (h.ld _ hx) (h.ld _ hy) hf ht
  .constructor
   .rintro ⟨hx,hgx⟩;rcases (by omega:x<ms.length\/x=ms.length) with hx2|rfl
    .rw[hlt x hx2 hx] at hgx;refine⟨hx2,?_⟩;rw[hln,hld x hx2,jA hx2];rcases (BC hf (h.ld _ (OE hx2))).1 hgx with h1|h1
     .exact Pf ⟨hx2,h1⟩
     .exact Pg h1
    .rw[hla hx,hg] at hgx;simp at hgx
   .rintro ⟨hx2,h1⟩;refine⟨by omega,?_⟩;rw[hlt x hx2 (by omega)];rw[hln,hld x hx2,jA hx2] at h1;refine(BC hf (h.ld _ (OE hx2))).2 ?_;rcases h1 with ⟨_,h1⟩|h1
    .exact Pf h1
    .exact Pg h1
 .rw[O0,List.map_map];have e:(Mm.blk∘aU f.L)=Mm.blk:=by funext x;exact(cJ f.L x).2.1
  rw[e];refine List.nodup_append.2 ⟨h.nd,by simp,λa ha b hb=>?_⟩;simp at hb;obtain⟨x,hx,rfl⟩:=OR.1 ha;rw[hb];exact hne x hx
 .rcases OK.1 hx with hx|hx
  .obtain⟨y,hy,rfl⟩:=OR.1 hx;rw[(cJ f.L y).1];exact h.ld y hy
  .rw[OL] at hx;subst hx;exact hf
 .rcases OK.1 hq with hq|hq
  .obtain⟨x,y,hx,hy,e1,e2,hp⟩:=h.pr q (O5.1 hq).1;refine⟨aU f.L x,aU f.L y,by simp only[OK,OR];exact Pf ⟨x,hx,rfl⟩,by simp only[OK,OR];exact Pf ⟨y,hy,rfl⟩,by rw[(cJ f.L x).2.1];exact e1,by rw[(cJ f.L y).2.1];exact e2,by rw[(cJ f.L x).1,(cJ f.L y).1];exact hp⟩
  .obtain⟨x,hx,xpl,_,rfl⟩:=hal q (hmem q hq);refine⟨aU f.L ms[x],f,by simp only[OK,OR];exact Pf ⟨_,OE hx,rfl⟩,by simp,by rw[(cJ f.L _).2.1];rfl,rfl,by rw[(cJ f.L _).1];exact hpr x hx xpl⟩
structure eH(R:Nat)(L:Ft):Prop where
 a:0<=L.a
 b:0<=L.b
 d:0<=L.d
 z:0<=L.z
 pl:0<=L.pl/\L.pl<R
theorem BD(hs:eH R s)(ht:eH R t):cA s t=true↔C4.bR.dv (ah s) (ah t):=by have s1:=hs.a;have s2:=hs.b;have s3:=hs.d;have s4:=hs.z;have s5:=hs.pl;have t1:=ht.a;have t2:=ht.b;have t3:=ht.d;have t4:=ht.z;have t5:=ht.pl;unfold cA eN;show _↔(ah s).1=(ah t).1/\C4.cj (ah s).2 (ah t).2;unfold ah C4.cj;simp only[Bool.and_eq_true,decide_eq_true_eq];omega
theorem o6(hs:eH R s)(ht:eH R t):C4.bR.lc (ah s) (ah t)=(s.pl.toNat,(dj s t).toNat,(dk s t).toNat,(dp s t).toNat,(dq s t).toNat):=by have s1:=hs.a;have s2:=hs.b;have s3:=hs.d;have s4:=hs.z;have t1:=ht.a;have t2:=ht.b;have t3:=ht.d;have t4:=ht.z;show ((ah s).1,max (ah s).2.1 (ah t).2.1,max (ah s).2.2.1 (ah t).2.2.1,max (ah s).2.2.2.1 (ah t).2.2.2.1,max (ah s).2.2.2.2 (ah t).2.2.2.2)=_;unfold ah dj dk dp dq;simp only[Prod.mk.injEq,true_and];omega
theorem dh.lc4(h:dh x y q)(hx:eH R x)(hy:eH R y):C4.bR.lc (ah x) (ah y)=(x.pl.toNat,q.a.toNat,q.b.toNat,q.d.toNat,q.z.toNat):=by rw[o6 hx hy,h.a,h.b,h.d,h.z]
theorem dh.nn4(h:dh x y q)(hx:eH R x)(hy:eH R y):0<=q.a/\0<=q.b/\0<=q.d/\0<=q.z:=by have h1:=h.a;have h2:=h.b;have h3:=h.d;have h4:=h.z;unfold dj at h1;unfold dk at h2;unfold dp at h3;unfold dq at h4;have s1:=hx.a;have s2:=hx.b;have s3:=hx.d;have s4:=hx.z;have t1:=hy.a;have t2:=hy.b;have t3:=hy.d;have t4:=hy.z;omega
theorem FH(h:dh x y q)(hx:eH R x)(hy:eH R y)(hf:eH R f)(hd:lB x y f q=true):C4.bR.dv (ah f) (C4.bR.lc (ah x) (ah y))/\C4.bR.lc (ah x) (ah f)≠C4.bR.lc (ah x) (ah y)/\C4.bR.lc (ah y) (ah f)≠C4.bR.lc (ah x) (ah y):=by
 obtain⟨q1,q2,q3,q4⟩:=h.nn4 hx hy;have hpl:=h.pl;have x1:=hx.a;have x2:=hx.b;have x3:=hx.d;have x4:=hx.z;have y1:=hy.a;have y2:=hy.b;have y3:=hy.d;have y4:=hy.z;have f1:=hf.a;have f2:=hf.b;have f3:=hf.d;have f4:=hf.z;unfold lB eN lA at hd;simp only[Bool.and_eq_true,decide_eq_true_eq,Bool.not_eq_true',Bool.and_eq_false_iff,decide_eq_false_iff_not] at hd;obtain⟨⟨⟨h1,h2⟩,h3⟩,h4⟩:=hd;rw[h.lc4 hx hy,o6 hx hf,o6 hy hf];have nn:∀{m n:Int},0<=m->0<=n->0<=max m n:=λh1 h2=>by omega
 have ni:∀{m n:Int},0<=m->0<=n->m.toNat=n.toNat->m=n:=λh1 h2 h=>by omega
 refine⟨?_,?_,?_⟩
 .show (ah f).1=_/\C4.cj (ah f).2 _;unfold ah C4.cj;simp only;omega
 .intro e;simp only[Prod.mk.injEq,true_and] at e;obtain⟨e1,e2,e3,e4⟩:=e;have a1:=ni (nn x1 f1) q1 e1;have a2:=ni (nn x2 f2) q2 e2;have a3:=ni (nn x3 f3) q3 e3;have a4:=ni (nn x4 f4) q4 e4;rcases h3 with ((h|h)|h)|h
  .exact h a1
  .exact h a2
  .exact h a3
  .exact h a4
 .intro e;simp only[Prod.mk.injEq] at e;obtain⟨_,e1,e2,e3,e4⟩:=e;have a1:=ni (nn y1 f1) q1 e1;have a2:=ni (nn y2 f2) q2 e2;have a3:=ni (nn y3 f3) q3 e3;have a4:=ni (nn y4 f4) q4 e4;rcases h4 with ((h|h)|h)|h
  .exact h a1
  .exact h a2
  .exact h a3
  .exact h a4
def cC(ms:PD)(k:Nat):C4.Tt:=(ms[k]?.map λx=>ah x.L).getD (0,0,0,0,0)
theorem dL(h:k<ms.length):cC ms k=ah ms[k].L:=by unfold cC;rw[OI h];rfl
theorem zr{τ:Type}{D:Gb.lY τ}{ld ld':Nat->τ}(h:Gb.iz D ld n P g)(h1:∀k,k<n->ld' k=ld k)(h2:∀i j,P' i j↔P i j)(h3:∀k,k<n->(g' k↔g k)):Gb.iz D ld' n P' g':=by
 refine⟨λt i j hi hj d1 d2=>?_,λx hx hg=>?_,λi j hp=>h.lt i j ((h2 i j).1 hp)⟩
 .rw[h1 i hi] at d1;rw[h1 j hj] at d2;have:=h.con t i j hi hj d1 d2;refine Gb.Pa.map id (λa b e=>?_) this;obtain⟨e1,e2,e3,e4⟩:=e;obtain⟨la,lb⟩:=h.lt a b e1;exact⟨(h2 a b).2 e1,by rw[id,h1 a la];exact e2,by rw[id,h1 b lb];exact e3,by rw[id,id,h1 a la,h1 b lb];exact e4⟩
 .obtain⟨y,hy,hn,hd⟩:=h.gn x hx ((h3 x hx).1 hg);exact⟨y,hy,λh=>hn ((h3 y hy).1 h),by rw[h1 y hy,h1 x hx];exact hd⟩
theorem FG(s t:C4.Tt):C4.bR.dv s (C4.bR.lc s t):=⟨rfl,Nat.le_max_left _ _,Nat.le_max_left _ _,Nat.le_max_left _ _,Nat.le_max_left _ _⟩
theorem zu{x:Mm}(hL:eH R L)(hx:eH R x.L):(aU L x).gone=true↔(x.gone=true\/C4.bR.dv (ah L) (ah x.L)):=by
 rw[<-BD hL hx];unfold aU lE;by_cases h:x.L.pl=L.pl
 .rw[OW h];simp
 .rw[OV h];constructor
  .exact Pf
  .rintro (h1|h1)
   .exact h1
   .unfold cA at h1;simp only[Bool.and_eq_true,decide_eq_true_eq] at h1;exact absurd h1.1.symm h
theorem zL{s t:C4.Tt}(h:C4.bR.dv s t):aZ dg s<=aZ dg t:=by have h:s.1=t.1/\C4.cj s.2 t.2:=h;obtain⟨h1,h2⟩:=h;unfold C4.cj at h2;unfold aZ C4.aC;rw[h1];omega
variable{p:Int}
theorem zv(h:bA p=0):Cn.Pr p:=λc hc=>by obtain⟨h1,h2⟩:=dY h;have m1:=Int.emod_nonneg c (show p≠0 by omega);have m2:=Int.emod_lt_of_pos c (show 0<p by omega);have m3:c%p≠0:=λe=>hc (Int.dvd_of_emod_eq_zero e);obtain⟨k,hk⟩:=qV h (c:=c%p) ⟨by omega,m2⟩;have e:=Int.emod_add_mul_ediv c p;generalize c%p=x at*;generalize c/p=y at*;refine⟨aV p x,k+y*aV p x,?_⟩;rw[<-e];grind
theorem zw(h:bA p=0):¬p∣1:=λhd=>by have h1:=dY h;have:=Int.le_of_dvd (by omega) hd;omega
variable{X:Gb.Fn C4.Tt}{w:Nat}
theorem zy{G0 G1:Gb.bu (C4.aN w (dN dg)) p}(h:∀i,G1.live i->Gb.Vb G0 (λs=>aZ dg s=aZ dg (G1.ld i)) λφ=>Gb.ln φ (G1.g i)){D:Nat}(hv:Gb.Vb G1 (λs=>aZ dg s=D) X):Gb.Vb G0 (λs=>aZ dg s=D) X:=by
 obtain⟨rp,h1,h2⟩:=hv;have key:∀rp:Gb.Rp C4.Mt,(∀r∈rp,G1.live r.2.2/\aZ dg (C4.aw r.2.1 (G1.ld r.2.2))=D)->Gb.Vb G0 (λs=>aZ dg s=D) λφ=>Gb.ev G1 φ rp:=by
  intro rp;induction rp with
  |nil=>exact λ_=>Gb.Vb.zero λφ=>⟨0,by simp[Gb.ev]⟩
  |cons r rp ih=>
   intro hr;have h3:=hr r (by simp);have h4:=Gb.Vb.scl r.1 (Gb.Vb.shift (B:=λs=>aZ dg s=D) r.2.1 (h r.2.2 h3.1) λt ht=>by
    have e:=h3.2;show aZ dg (C4.aw r.2.1 t)=D;rw[vC,ht,<-vC];exact e)
   exact(Gb.Vb.add h4 (ih λx hx=>hr x (by simp[hx]))).congr λφ=>⟨0,by simp only[Gb.ev];omega⟩
 exact(key rp h1).congr h2
variable{i:Nat}{fss:PC}
theorem ks(h:(aE p dg w fss).live i):i<fss.length:=by obtain⟨t,r,h1,_⟩:=h;exact(List.getElem?_eq_some_iff.1 h1).1
theorem uA{t:Nat}(h:Gb.Vb (aE p dg w fss) (λs=>aZ dg s=t) X):∃rp,C4.Hr fss.length (λi=>aZ dg ((aE p dg w fss).ld i)) t rp/\∀φ,p∣X φ-Gb.ev (aE p dg w fss) φ rp:=by obtain⟨rp,h1,h2⟩:=h;refine⟨rp,λr hr=>⟨ks (h1 r hr).1,?_⟩,h2⟩;have e:aZ dg (C4.aw r.2.1 ((aE p dg w fss).ld r.2.2))=t:=(h1 r hr).2;rw[vC] at e;exact e
def nf(p:Int)(dg:Nat->Int)(N w n:Nat)(Q:Int)(fss:PC):Prop:=∀v∈fss,∃D,D<=Q/\v≠[]/\dR p dg N w n D v
variable{Q:Int}
theorem nf.at(h:nf p dg N w n Q fss)(hi:i<fss.length):∃D t r,D<=Q/\fss[i]?=some (t::r)/\dR p dg N w n D (t::r):=by
 obtain⟨D,h1,h2,h3⟩:=h fss[i] (OE hi);cases e:fss[i] with
 |nil=>exact absurd e h2
 |cons t r=>exact⟨D,t,r,h1,by rw[OI hi,e],by rw[<-e];exact h3⟩
theorem nh(hx:bB p dg N w n)(hQ:Q<=9700)(h:nf p dg N w n Q fss):C4.Hg (w+n) w (dN dg) (aE p dg w fss) fss.length (λi=>aZ dg ((aE p dg w fss).ld i)):=by
 refine⟨λi hi x hxg=>?_,λi hi=>?_⟩
 .obtain⟨D,t,r,h1,h2,h3⟩:=h.at hi;have hg:(aE p dg w fss).g i=aK (t::r):=by show aK _=_;rw[fk h2]
  have hl:(aE p dg w fss).ld i=ah t:=by show ii _=_;rw[fk h2];rfl
  rw[hg] at hxg;obtain⟨u,hu,rfl⟩:=OR.1 hxg;have a:=(h3.gd u hu).ts hx;have b:=(h3.gd t (by simp)).ts hx;refine C4.de.2 ⟨a.2,?_⟩;show aZ dg (ah u)=aZ dg ((aE p dg w fss).ld i);rw[hl,a.1,b.1]
 .obtain⟨D,t,r,h1,h2,h3⟩:=h.at hi;exact qW hx (by omega) h2 h3
theorem qU{p i:Int}(φ:C4.Tt->Int):∀fs:PB,p∣aq φ (fs.map (dM p i))-i*aq φ fs
 |[]=>⟨0,by simp[fl]⟩
 |t::fs=>by
  obtain⟨x,hx⟩:=qU (p:=p) (i:=i) φ fs;rw[List.map_cons,cV,cV];obtain⟨y,hy⟩:=jU p (t.c*i);show p∣(t.c*i%p)*φ (ah t)+_-_;generalize φ (ah t)=z at*;generalize t.c*i%p=q at*;have e2:q=t.c*i+p*y:=by omega
  exact⟨y*z+x,by rw[e2];grind⟩
variable{ts:PB}{D:Int}
theorem zE(hx:bB p dg N w n)(hv:dR p dg N w n D (t::ts)):iE p dg N w n D (dM p (aV p t.c) t) (ts.map (dM p (aV p t.c))):=by
 have hi:=nY hx.pr (hv.co t (by simp));have e:dM p (aV p t.c) t::ts.map (dM p (aV p t.c))=(t::ts).map (dM p (aV p t.c)):=rfl;refine⟨hi.2.2,?_,λu hu=>?_,λu hu=>?_⟩
 .rw[e];unfold Dn;rw[List.pairwise_map];exact hv.dn
 .rw[e] at hu;obtain⟨v,hvm,rfl⟩:=OR.1 hu;have h1:=hv.co v hvm;have:=mi hx.pr (show 1<=v.c by omega) h1.2 hi.1 hi.2.1;simp only[dM];omega
 .rw[e] at hu;obtain⟨v,hvm,rfl⟩:=OR.1 hu;exact aS.alk _ v ⟨rfl,rfl,rfl,rfl,rfl,rfl⟩ (hv.gd v hvm)
theorem I3(hx:bB p dg N w n)(hD:D<=9700)(hv:dR p dg N w n D (t::ts)):aq (Gb.dl (ah t)) (t::ts)=t.c/\∀s,(C4.aN w (dN dg)).lt (ah t) s->aq (Gb.dl s) (t::ts)=0:=by
 have low:∀u∈ts,(C4.aN w (dN dg)).lt (ah u) (ah t):=λu hu=>qX hx hD (hv.gd u (by simp[hu])) (hv.gd t (by simp)) (hv.dn.head u hu);refine⟨?_,λs hs=>?_⟩
 .rw[cV];have e1:aq (Gb.dl (ah t)) ts=0:=Gb.jl λx hx2=>by obtain⟨u,hu,rfl⟩:=OR.1 hx2;unfold Gb.dl;rw[OV];intro e;have:=low u hu;simp only at e;rw[e] at this;exact(C4.aN w (dN dg)).irr _ this
  have e2:Gb.dl (ah t) (ah t)=1:=by unfold Gb.dl;rw[OW rfl]
  rw[e1,e2];omega
 .refine Gb.jl λx hx2=>?_;obtain⟨u,hu,rfl⟩:=OR.1 hx2;unfold Gb.dl;rw[OV];intro e;simp only at e;rcases OY.1 hu with rfl|hu
  .rw[e] at hs;exact(C4.aN w (dN dg)).irr _ hs
  .have:=(C4.aN w (dN dg)).trans (low u hu) hs;rw[e] at this;exact(C4.aN w (dN dg)).irr _ this
def fm(ms:PD):PC:=ms.map λx=>x.L::x.r
theorem iX(ms:PD):(fm ms).length=ms.length:=by simp[fm]
theorem nk(h:i<ms.length):(fm ms)[i]?=some (ms[i].L::ms[i].r):=by unfold fm;rw[List.getElem?_map,OI h];rfl
theorem gN(p:Int)(dg:Nat->Int)(w:Nat)(ms:PD)(i:Nat):(aE p dg w (fm ms)).ld i=cC ms i:=by
 show ii ((fm ms).getD i [])=_;by_cases h:i<ms.length
 .rw[fk (nk h),dL h];rfl
 .rw[OH,OJ (by rw[iX];omega)];unfold cC;rw[OJ (by omega)];rfl
theorem aS.ld4(g:aS dg N w n D t):eH (w+n) t:=⟨g.a,g.b,g.d,g.z,g.pl0,g.pl⟩
def BE(p:Int)(dg:Nat->Int)(w n:Nat)(vs:PC)(i:Nat)(y:C4.Mt):Prop:=C4.LM (C4.ie w (dN dg)) p (w+n) (dN dg) (C4.gl (aE p dg w vs) (λi=>aZ dg ((aE p dg w vs).ld i)) n) (i,y)
def o7(p:Int)(dg:Nat->Int)(w n:Nat)(vs:PC):Prop:=vs.length=n/\∃us:List Nat,us.Perm ((List.range n).map (w+·))/\C4.Un p (dN dg) us (C4.gl (aE p dg w vs) (λi=>aZ dg ((aE p dg w vs).ld i)) n)
def kV(p:Int)(dg:Nat->Int)(w n:Nat)(vs:PC)(ms:PD):Prop:=∃k,k<=n/\((ms.drop k).map λx=>ah x.L).Nodup/\∀x∈ms.drop k,x.L.pl.toNat<w+n/\C4.Ml (BE p dg w n vs (ah x.L).1) (ah x.L).2
structure Cs(p:Int)(dg:Nat->Int)(N w n:Nat)(vs:PC)(ms:PD)(qs:PF)(E:Nat->Nat->Prop)(T:Int):Prop where
 inv:Gb.iz C4.bR (cC ms) ms.length (λi j=>kU ms qs i j\/E i j) (m8 ms)
 nd:(ms.map Mm.blk).Nodup
 pr:∀q∈qs,∃x y,x∈ms/\y∈ms/\q.b1=x.blk/\q.b2=y.blk/\dh x.L y.L q/\q.dg=q.a+q.b+q.d+q.z+dg x.L.pl.toNat/\T<=q.dg
 mb:∀x∈ms,∃D,D<=4801/\iE p dg N w n D x.L x.r
 vb:nf p dg N w n 3 vs
 mx:∀x∈ms,∀D,iE p dg N w n D x.L x.r->Gb.Vb (aE p dg w vs) (λs=>aZ dg s=D.toNat) λφ=>aq φ (x.L::x.r)
 my:∀v∈vs,∀D,dR p dg N w n D v->Gb.Vb (aE p dg w (fm ms)) (λs=>aZ dg s=D.toNat) λφ=>aq φ v
 ql:2*qs.length<=ms.length*ms.length
def eO(p:Int)(dg:Nat->Int)(w:Nat)(ms:PD)(E:Nat->Nat->Prop):Prop:=∀i j,E i j->i<ms.length/\j<ms.length/\∃a b,C4.aw a (cC ms i)=C4.bR.lc (cC ms i) (cC ms j)/\C4.aw b (cC ms j)=C4.bR.lc (cC ms i) (cC ms j)/\Gb.Rl (aE p dg w (fm ms)) i a j b
theorem Cs.nil(p:Int)(dg:Nat->Int)(N w n:Nat):Cs p dg N w n [] [] [] (λ_ _=>False) 0:=
 ⟨⟨λt i j hi=>by simp at hi,λx hx=>by simp at hx,λi j h=>(h:kU [] [] i j\/False).elim (fun⟨hi,_⟩=>by simp at hi) False.elim⟩,by simp,λq hq=>by simp at hq,λx hx=>by simp at hx,λv hv=>by simp at hv,λx hx=>by simp at hx,λv hv=>by simp at hv,by simp⟩
theorem eO.nil(p:Int)(dg:Nat->Int)(w:Nat):eO p dg w [] (λ_ _=>False):=λ_ _ h=>h.elim
variable{T:Int}{E:Nat->Nat->Prop}{vs:PC}
theorem Cs.msh(h:Cs p dg N w n vs ms qs E T):nf p dg N w n 4801 (fm ms):=λv hv=>by obtain⟨x,hx,rfl⟩:=OR.1 hv;obtain⟨D,h2,h3⟩:=h.mb x hx;exact⟨D,h2,by simp,h3.vch⟩
theorem Cs.msk(hx:bB p dg N w n)(h:Cs p dg N w n vs ms qs E T):vE (aE p dg w (fm ms)) N n ms:=λx hxm=>by obtain⟨i,hi,e⟩:=Pm.1 hxm;obtain⟨D,h2,h3⟩:=h.mb x hxm;have hf:=nk hi;rw[e] at hf;exact⟨i,D,by omega,uO hx (by omega) hf h3⟩
theorem I4(hx:bB p dg N w n)(h:dh x y q)(lx:eH (w+n) x)(ly:eH (w+n) y):aZ dg (C4.bR.lc (ah x) (ah y))=(q.a+q.b+q.d+q.z+dg x.pl.toNat).toNat:=by obtain⟨n1,n2,n3,n4⟩:=h.nn4 lx ly;rw[h.lc4 lx ly];have h1:=lx.pl;have g1:=hx.dg x.pl.toNat (by omega);unfold aZ C4.aC dN;simp only;omega
theorem Cs.allA(hx:bB p dg N w n)(h:Cs p dg N w n vs ms qs E T)(hE:eO p dg w ms E)(P:C4.Tt->Prop)(hP:∀{s t:C4.Tt},C4.bR.dv s t->P t->P s)(hq:∀q∈qs,∀s,P s->aZ dg s<q.dg.toNat):Gb.mU (aE p dg w (fm ms)) P:=by
 refine Gb.EP (C4.ET) (D:=C4.bR) (C4.qz w (dN dg)) (P:=λi j=>kU ms qs i j\/E i j) (λt i j hi hj d1 d2=>?_) (A:=P) hP (λi j t hp d1 d2 hA=>?_)
 .have hi:=ks hi;have hj:=ks hj;rw[iX] at hi hj;rw[gN] at d1 d2;refine(h.inv.con t i j hi hj d1 d2).mono λa b e=>?_;obtain⟨e1,e2,e3,e4⟩:=e;exact⟨e1,by rw[gN];exact e2,by rw[gN];exact e3,by rw[gN,gN];exact e4⟩
 .rw[gN,gN] at hA⊢;rcases hp with ⟨hi,hj,q,hqm,e1,e2⟩|hp
  .exfalso;obtain⟨x,y,x1,y1,f1,f2,f3,f4,f5⟩:=h.pr q hqm;have ex:x=ms[i]:=kr h.nd x1 (OE hi) (f1.symm.trans e1);have ey:y=ms[j]:=kr h.nd y1 (OE hj) (f2.symm.trans e2);subst ex ey;obtain⟨Dx,_,mx⟩:=h.mb _ x1;obtain⟨Dy,_,my⟩:=h.mb _ y1;have:=hq q hqm _ hA;rw[dL hi,dL hj,I4 hx f3 (mx.gd _ (by simp)).ld4 (my.gd _ (by simp)).ld4,<-f4] at this;omega
  .obtain⟨_,_,a,b,h1,h2,h3⟩:=hE i j hp;exact⟨a,b,h1,h2,h3⟩
theorem Cs.no_dv(h:Cs p dg N w n vs ms qs E T)(ht:eH (w+n) t)(hf:eP ms t=none):∀x∈ms,¬C4.bR.dv (ah x.L) (ah t):=by
 have key:∀x∈ms,x.gone=false->¬C4.bR.dv (ah x.L) (ah t):=λx hx hg hd=>by
  obtain⟨D,_,h3⟩:=h.mb x hx;have hl:=(h3.gd x.L (by simp)).ld4;have h1:=(BD hl ht).2 hd;have h2:=List.find?_eq_none.1 hf x (O5.2 ⟨hx,by
   have:=(A4 h1).1;have:=ht.pl;simp only[decide_eq_true_eq];omega⟩)
  apply h2;unfold eQ;rw[hg,h1];rfl
 intro x hx hd;cases hg:x.gone with
 |false=>exact key x hx hg hd
 |true=>
  obtain⟨i,hi,e⟩:=Pm.1 hx;obtain⟨y,y1,y2,y3⟩:=h.inv.gn i hi ⟨hi,by rw[e];exact hg⟩;refine key ms[y] (OE y1) ?_ (C4.bR.trans ?_ hd)
  .cases hgy:ms[y].gone with
   |false=>rfl
   |true=>exact absurd ⟨y1,hgy⟩ y2
  .rw[dL y1,dL hi,e] at y3;exact y3
theorem Cs.ml(hx:bB p dg N w n)(h:Cs p dg N w n vs ms qs E T)(hE:eO p dg w ms E)(hD:D<=9700)(hq:∀q∈qs,D<=q.dg)(hv:dR p dg N w n D (t::ts))(hm:Gb.Vb (aE p dg w (fm ms)) (λs=>aZ dg s=D.toNat) λφ=>aq φ (t::ts))(hf:eP ms t=none)(hvl:vs.length=n):C4.Ml (BE p dg w n vs (ah t).1) (ah t).2:=by
 have gt:=hv.gd t (by simp);have hts:=gt.ts hx;have hA:=h.allA hx hE (λu=>aZ dg u<D.toNat) (fun {s u} hd hs=>by
  have:=zL (dg:=dg) hd;omega) (λq hqm s hs=>by have:=hq q hqm;omega)
 have h0:=nh hx (by omega) h.vb;have h1:=nh hx (by omega) h.msh;have hmx:∀i,(aE p dg w (fm ms)).live i->Gb.Vb (aE p dg w vs) (λs=>aZ dg s=aZ dg ((aE p dg w (fm ms)).ld i)) λφ=>Gb.ln φ ((aE p dg w (fm ms)).g i):=λi hi=>by
  have hi:=ks hi;rw[iX] at hi;obtain⟨D2,_,h3⟩:=h.mb ms[i] (OE hi);have h4:=h.mx ms[i] (OE hi) D2 h3;have e1:(aE p dg w (fm ms)).ld i=ah ms[i].L:=by rw[gN,dL hi]
  have e2:(aE p dg w (fm ms)).g i=aK (ms[i].L::ms[i].r):=by show aK _=_;rw[fk (nk hi)]
  rw[e1,e2,((h3.gd _ (by simp)).ts hx).1];exact h4
 obtain⟨rp,r1,r2⟩:=uA (zy hmx hm);have htop:=I3 hx hD hv;rw[hvl] at h0 r1;exact C4.E4 (G0:=aE p dg w vs) (G1:=aE p dg w (fm ms)) h0 h1 (λi hi=>rfl) (λi hi=>by
  obtain⟨D2,u,r,a1,a2,a3⟩:=h.vb.at (i:=i) (by omega);have e1:(aE p dg w vs).ld i=ah u:=by show ii _=_;rw[fk a2];rfl
  have e2:(aE p dg w vs).g i=aK (u::r):=by show aK _=_;rw[fk a2]
  have hmem:(u::r)∈vs:=List.mem_of_getElem? a2;have h4:=h.my _ hmem D2 a3;rw[e1,e2,((a3.gd u (by simp)).ts hx).1];have:=uA h4;exact this) hA (X:=λφ=>aq φ (t::ts)) r1 r2 (s:=ah t) (C4.de.2 ⟨hts.2,hts.1⟩) (λhd=>by
   have hd:p∣aq (Gb.dl (ah t)) (t::ts):=hd;rw[htop.1] at hd;have:=hv.co t (by simp);exact I5 hd (by omega) this.2) (λu hu hl=>by
   have:aq (Gb.dl u) (t::ts)=0:=htop.2 u hl;show p∣aq (Gb.dl u) (t::ts);rw[this];exact⟨0,by simp⟩) (λi hi hd=>by
   have hi:=ks hi;rw[iX] at hi;rw[gN,dL hi] at hd;exact h.no_dv gt.ld4 hf _ (OE hi) hd)
def rQ(w:Nat)(s:C4.Tt):C4.N6:=(0,(if s.1<w then 1 else 0),s.2.1+s.2.2.1+s.2.2.2.1,s.2.1+s.2.2.1,s.2.1+s.2.2.2.1,C4.iA s.1)
def gr(w:Nat)(s t:C4.Tt):Prop:=C4.L6 (rQ w s) (rQ w t)
structure bk(N w n:Nat)(E F:Int)(t:Ft):Prop where
 k:t.k=gq w t.pl (aD N t)
 a:0<=t.a
 b:0<=t.b
 d:0<=t.d
 z:t.z=0
 pl0:0<=t.pl
 pl:t.pl<w+n
 n1:N<=1->t.b=0
 n2:N<=2->t.d=0
 own:t.pl<w->t.a+t.b+t.d<=E
 oth:¬t.pl<w->t.a+t.b+t.d<=F
structure ch(p:Int)(N w n:Nat):Prop where
 pr:bA p=0
 n0:0<N
 n3:N<=3
 hw:w<=3
 hn:n<=4
theorem bB.acx(h:bB p dg N w n):ch p N w n:=⟨h.pr,h.n0,h.n3,h.hw,h.hn⟩
variable{F:Int}
theorem bk.alk{E:Int}(x t:Ft)(h:eC x t)(g:bk N w n E F t):bk N w n E F x:=by
 obtain⟨h1,h2,h3,h4,h5,h6⟩:=h;have e:aD N x=aD N t:=by unfold aD;rw[h2,h3,h4]
 exact⟨by rw[h1,e,h6];exact g.k,by rw[h2];exact g.a,by rw[h3];exact g.b,by rw[h4];exact g.d,by rw[h5];exact g.z,by rw[h6];exact g.pl0,by rw[h6];exact g.pl,λh=>by rw[h3];exact g.n1 h,λh=>by rw[h4];exact g.n2 h,by rw[h2,h3,h4,h6];exact g.own,by rw[h2,h3,h4,h6];exact g.oth⟩
variable{E2 F2:Int}
theorem bk.wide{E:Int}(g:bk N w n E F t)(hE:E<=E2)(hF:F<=F2):bk N w n E2 F2 t:=
 ⟨g.k,g.a,g.b,g.d,g.z,g.pl0,g.pl,g.n1,g.n2,λh=>by have:=g.own h;omega,λh=>by have:=g.oth h;omega⟩
theorem bk.lin{E:Int}(h0:0<N)(h3:N<=3)(g:bk N w n E F t):t.k=(t.a+t.b+t.d)*68719476736-t.d*4194304-t.b*256+iM w t.pl:=by rw[g.k];unfold gq;rw[vz h0 h3 g.n1 g.n2];omega
theorem bk.bd(hx:ch p N w n){E:Int}(hE:E<=9700)(hF:F<=9700)(g:bk N w n E F t):t.a+t.b+t.d<=9700/\t.pl<7:=by
 have h1:=g.own;have h2:=g.oth;have h3:=g.pl;have:=hx.hw;have:=hx.hn;constructor
 .by_cases h:t.pl<w
  .have:=h1 h;omega
  .have:=h2 h;omega
 .omega
variable{u:Ft}
theorem vV(hx:ch p N w n){E:Int}(hE:E<=9700)(hF:F<=9700)(hE2:E2<=9700)(hF2:F2<=9700)(gt:bk N w n E F t)(gu:bk N w n E2 F2 u)(h:t.k<u.k):gr w (ah t) (ah u):=by
 have b1:=gt.bd hx hE hF;have b2:=gu.bd hx hE2 hF2;have a1:=gt.a;have a2:=gt.b;have a3:=gt.d;have a4:=gt.pl0;have a5:=gt.pl;have c1:=gu.a;have c2:=gu.b;have c3:=gu.d;have c4:=gu.pl0;have c5:=gu.pl;have l1:=gt.lin hx.n0 hx.n3;have l2:=gu.lin hx.n0 hx.n3;have hk:=nW l1 l2 (by omega) (by omega) (by omega) (by omega) (by omega) (by omega) (by omega) (by omega) (by omega);have hne:¬(t.pl=u.pl/\t.b=u.b/\t.d=u.d/\t.a+t.b+t.d=u.a+u.b+u.d):=fun⟨e1,e2,e3,e4⟩=>by rw[e1,e2,e3] at l1;rw[e2,e3] at e4;rw[e4] at l1;omega
 clear l1 l2 h b1 b2;show C4.L6 _ _;unfold C4.L6 rQ ah;simp only;obtain⟨k,a,b,d,z,pl,c⟩:=t;obtain⟨k',a',b',d',z',pl',c'⟩:=u;simp only at*;clear gt gu;obtain⟨a,rfl⟩:=Int.eq_ofNat_of_zero_le a1;obtain⟨b,rfl⟩:=Int.eq_ofNat_of_zero_le a2;obtain⟨d,rfl⟩:=Int.eq_ofNat_of_zero_le a3;obtain⟨pl,rfl⟩:=Int.eq_ofNat_of_zero_le a4;obtain⟨a',rfl⟩:=Int.eq_ofNat_of_zero_le c1;obtain⟨b',rfl⟩:=Int.eq_ofNat_of_zero_le c2;obtain⟨d',rfl⟩:=Int.eq_ofNat_of_zero_le c3;obtain⟨pl',rfl⟩:=Int.eq_ofNat_of_zero_le c4;simp only[Int.toNat_natCast];have hpl:pl<7/\pl'<7:=by have:=hx.hw;have:=hx.hn;omega
 have p1:C4.iA pl=255-pl:=OW (by omega);have p2:C4.iA pl'=255-pl':=OW (by omega);rw[p1,p2];clear a1 a2 a3 a4 a5 c1 c2 c3 c4 c5 hx p1 p2;rcases hk with ⟨k1,k2⟩|⟨k1,hk⟩
 .rw[OV (show¬pl<w by omega),OW (show pl'<w by omega)];exact Pg ⟨trivial,Pf (by omega)⟩
 .have e:(if pl<w then 1 else 0:Nat)=if pl'<w then 1 else 0:=by
   by_cases c:pl<w
   .have:=k1.1 (by omega);rw[OW c,OW (by omega)]
   .have:¬(pl':Int)<w:=λh=>c (by have:=k1.2 h;omega);rw[OV c,OV (by omega)]
  rw[e];refine Pg ⟨trivial,Pg ⟨rfl,?_⟩⟩;clear e k1;rcases hk with hk|⟨h0,hk|⟨h1,hk|⟨h2,h3⟩⟩⟩
  .exact Pf (by omega)
  .exact Pg ⟨by omega,Pf (by omega)⟩
  .exact Pg ⟨by omega,Pg ⟨by omega,Pf (by omega)⟩⟩
  .refine Pg ⟨by omega,Pg ⟨by omega,Pg ⟨by omega,?_⟩⟩⟩;have:pl≠pl':=λe=>hne ⟨by omega,by omega,by omega,by omega⟩;omega
theorem zM(hx:ch p N w n){E:Int}(hE:E<=9700)(hF:F<=9700)(hE2:E2<=9700)(hF2:F2<=9700)(gt:bk N w n E F t)(gu:bk N w n E2 F2 u)(h:t.k=u.k):ah t=ah u:=by
 have b1:=gt.bd hx hE hF;have b2:=gu.bd hx hE2 hF2;have a1:=gt.a;have a2:=gt.b;have a3:=gt.d;have a4:=gt.pl0;have a7:=gt.z;have c1:=gu.a;have c2:=gu.b;have c3:=gu.d;have c4:=gu.pl0;have c7:=gu.z;have l1:=gt.lin hx.n0 hx.n3;have l2:=gu.lin hx.n0 hx.n3;have h1:=nW l1 l2 (by omega) (by omega) (by omega) (by omega) (by omega) (by omega) (by omega) (by omega) (by omega);have h2:=nW l2 l1 (by omega) (by omega) (by omega) (by omega) (by omega) (by omega) (by omega) (by omega) (by omega);clear l1 l2 h;have hpl:t.pl=u.pl/\t.b=u.b/\t.d=u.d/\t.a+t.b+t.d=u.a+u.b+u.d:=by omega
 obtain⟨e1,e2,e3,e4⟩:=hpl;have ea:t.a=u.a:=by omega
 unfold ah;rw[e1,e2,e3,ea,a7,c7]
theorem bk.kb(hx:ch p N w n){E:Int}(hE:E<=9700)(hF:F<=9700)(g:bk N w n E F t):-300000000000000000<=t.k/\t.k<=300000000000000000:=by
 have b1:=g.bd hx hE hF;have a1:=g.a;have a2:=g.b;have a3:=g.d;have a4:=g.pl0;have l1:=g.lin hx.n0 hx.n3;unfold iM at l1;by_cases c:t.pl<w
 .rw[OW c] at l1;omega
 .rw[OV c] at l1;omega
theorem bk.fok(hx:ch p N w n){E:Int}(hE:E<=9700)(hF:F<=9700)(g:bk N w n E F t)(hc:0<=t.c/\t.c<p):im p t:=by have hk:=g.kb hx hE hF;have b1:=g.bd hx hE hF;have h4:=g.pl0;have h5:=g.pl;have h7:=g.a;have h8:=g.b;have h9:=g.d;have h10:=g.z;exact⟨by omega,by omega,by omega,by omega,by omega,by omega,hc⟩
theorem jR(hx:ch p N w n){E:Int}(hE:E<=9700)(hF:F<=9700):∀r,Dn r->(∀t∈r,bk N w n E F t)->r.length<=1100000000000:=λr h1 h2=>by
 have hnd:(r.map λt=>((ah t).1,(ah t).2.1,(ah t).2.2.1,(ah t).2.2.2.1,9700-((ah t).2.1+(ah t).2.2.1+(ah t).2.2.2.1))).Nodup:=by
  unfold List.Nodup;rw[List.pairwise_map];refine(List.Pairwise.and_mem.1 h1).imp fun {a b} ⟨ha,hb,hlt⟩ e=>?_;have ga:=h2 a ha;have gb:=h2 b hb;have l1:=ga.lin hx.n0 hx.n3;have l2:=gb.lin hx.n0 hx.n3;have a1:=ga.a;have a2:=ga.b;have a3:=ga.d;have a4:=ga.pl0;have c1:=gb.a;have c2:=gb.b;have c3:=gb.d;have c4:=gb.pl0;unfold ah at e;simp only[Prod.mk.injEq] at e;obtain⟨e0,e1,e2,e3,_⟩:=e;have f0:a.pl=b.pl:=by omega
  have f1:a.a=b.a:=by omega
  have f2:a.b=b.b:=by omega
  have f3:a.d=b.d:=by omega
  rw[f0,f1,f2,f3] at l1;omega
 have hsub:∀s∈r.map λt=>((ah t).1,(ah t).2.1,(ah t).2.2.1,(ah t).2.2.2.1,9700-((ah t).2.1+(ah t).2.2.1+(ah t).2.2.2.1)),s∈C4.Ts (w+n) (λ_=>0) 9700:=λs hs=>by
  obtain⟨t,ht,rfl⟩:=OR.1 hs;have g:=h2 t ht;have b1:=g.bd hx hE hF;have a1:=g.a;have a2:=g.b;have a3:=g.d;have a4:=g.pl0;have a5:=g.pl;refine C4.de.2 ⟨?_,?_⟩
  .show t.pl.toNat<w+n;omega
  .show 0+C4.aC _=9700;unfold C4.aC ah;simp only;omega
 have hle:=vA hnd hsub;rw[OS] at hle;have hT:=C4.Ts_len (w+n) (λ_=>0) 9700;have hn4:=C4.ko 9700;have hw:=hx.hw;have hn:=hx.hn;have hm:C4.nm 4 9700<=152300000000:=by omega
 have e3:(w+n)*C4.nm 4 9700<=7*152300000000:=Nat.mul_le_mul (by omega) hm;omega
theorem bk.mul(hx:ch p N w n){E:Int}{bt:Ft}{more c:Int}(g:bk N w n E F x)(hmo:more=bC 1 (aD N bt))(a0:0<=bt.a)(b0:0<=bt.b)(d0:0<=bt.d)(z0:bt.z=0)(n1:N<=1->bt.b=0)(n2:N<=2->bt.d=0)(hE:x.pl<w->bt.a+bt.b+bt.d+(x.a+x.b+x.d)<=E2)(hF:¬x.pl<w->bt.a+bt.b+bt.d+(x.a+x.b+x.d)<=F2):bk N w n E2 F2 (aJ p more {bt with c:=c} x):=by
 obtain⟨k1,a1,b1',c1,z1,p1,q1,m1,m2,_,_⟩:=g;have hex:aD N (aJ p more {bt with c:=c} x)=aP (·+·) (aD N bt) (aD N x):=pd (p:=p) hx.n0 hx.n3 (by simp only[aJ];omega) (by simp only[aJ];omega) (by simp only[aJ];omega)
 refine⟨?_,by simp only[aJ];omega,by simp only[aJ];omega,by simp only[aJ];omega,by simp only[aJ];omega,by simp only[aJ];exact p1,by simp only[aJ];exact q1,λh9=>by simp only[aJ];have:=m1 h9;have:=n1 h9;omega,λh9=>by simp only[aJ];have:=m2 h9;have:=n2 h9;omega,λh=>?_,λh=>?_⟩
 .rw[hex];show x.k+more=gq w x.pl _;unfold gq;rw[pe hx.n3 (jP hx.n3 _) (jP hx.n3 _),k1,hmo];unfold gq;omega
 .have:=hE h;simp only[aJ];omega
 .have:=hF h;simp only[aJ];omega
structure cM(p:Int)(N w n:Nat)(E F:Int)(fs:PB):Prop where
 dn:Dn fs
 co:∀t∈fs,0<t.c/\t.c<p
 gd:∀t∈fs,bk N w n E F t
end Go.Proofs.YtjkalahhpobefaaGreat
namespace Go.Proofs.YtjkalahhpobefaaGreat
set_option linter.all false
open Go.Proofs.Tryz Go.RowKit Go.Sort
def kE(a b:Int):Int:=if a=0 then b else a
theorem Af(a b c d:Int):kE (bi a b) (bi c d)=if a<b then-1 else if b<a then 1 else if c<d then-1 else if d<c then 1 else 0:=by unfold kE bi;split<;>(try split)<;>(try split)<;>simp_all
theorem I6(vb:Nat)(a b:Int)(w:PJ)(h0:w.cell? (PN vb 0)=some (PO a))(h1:w.cell? (PN vb 1)=some (PO b)):Calls prog 198 #[PM vb 2 2] w λe w'=>e=.returned (PO (kE a b))/\w'=w:=by
 go_enter func198,ntmps198;go_wp2_with fail;go_loopw [8] (λi wr=>wr=w/\(i=PO 0\/(i=PO 1/\a=0)\/(i=PO 2/\a=0/\b=0))) (λi _=>2-(intOf i).toNat);case atStart=>exact⟨rfl,Pf rfl⟩
 case round=>
  obtain⟨rfl,rfl|⟨rfl,ha⟩|⟨rfl,ha,hb⟩⟩:=hrel
  .by_cases ha:a=0
   .subst ha;go_wp2_with fail;go_roundw;case rel=>exact⟨trivial,Pg (Pf ⟨by go_num,trivial⟩)⟩
    case measure=>simp[intOf]
   .have hn:(a==0)=false:=by simpa using ha
    have HE:Po (kE a b=a):=by show _=_;unfold kE;rw[OV ha]
    go_wp2;go_ret;exact⟨by rw[HE.o];rfl,rfl⟩
  .subst ha;by_cases hb:b=0
   .subst hb;go_wp2_with fail;go_roundw;case rel=>exact⟨trivial,Pg (Pg ⟨by go_num,trivial,trivial⟩)⟩
    case measure=>simp[intOf]
   .have hn:(b==0)=false:=by simpa using hb
    have HE:Po (kE 0 b=b):=by show _=_;unfold kE;rw[OW rfl]
    go_wp2;go_ret;exact⟨by rw[HE.o];rfl,rfl⟩
  .subst ha hb;go_wp2;go_ret;exact⟨rfl,rfl⟩
def kA(x y:Pq):Int:=kE (bi x.dg y.dg) (bi x.k y.k)
theorem BF(w:PJ)(a b:Int)(T:TypeId):(w.alloc (.cells #[PO a,PO b] T)).cell? (PN w.heap.size 0)=some (PO a)/\(w.alloc (.cells #[PO a,PO b] T)).cell? (PN w.heap.size 1)=some (PO b):=by simp[go_sem]
theorem Gk(x y:Pq)(W:PJ):Calls prog 220 #[.agg (aO x).toArray,.agg (aO y).toArray] W λe w'=>e=.returned (PO (kA x y))/\∃q os',w'=grow (W.drewN q) os':=by
 have hc1:=λW'=>kh x.dg y.dg W';have hc2:=λW'=>vW x.k y.k W';unfold kA;generalize bi x.dg y.dg=c1 at hc1⊢;generalize bi x.k y.k=c2 at hc2⊢;obtain⟨w2,hw2⟩:∃w2,w2=(W.alloc (.cells #[PL x.b1,PL x.b2,PP x.a,PP x.b,PP x.d,PP x.z,PO x.dg,PO x.k] 238)).alloc (.cells #[PL y.b1,PL y.b2,PP y.a,PP y.b,PP y.d,PP y.z,PO y.dg,PO y.k] 238):=⟨_,rfl⟩;have HG2:Po (∃os,w2=grow W os):=by rw[hw2];exact⟨_,by rw[alloc_eq_grow,alloc_eq_grow,grow_grow]⟩
 have K0:Po (w2.drew.cell? (PN W.heap.size 6)=some (PO x.dg)/\w2.drew.cell? (PN W.heap.size 7)=some (PO x.k)/\w2.drew.cell? (PN (W.heap.size+1) 6)=some (PO y.dg)/\w2.drew.cell? (PN (W.heap.size+1) 7)=some (PO y.k)):=by rw[hw2];simp[go_sem,Po]
 have KA:Po (∀C,(w2.drew.alloc C).cell? (PN W.heap.size 6)=some (PO x.dg)/\(w2.drew.alloc C).cell? (PN W.heap.size 7)=some (PO x.k)/\(w2.drew.alloc C).cell? (PN (W.heap.size+1) 6)=some (PO y.dg)/\(w2.drew.alloc C).cell? (PN (W.heap.size+1) 7)=some (PO y.k)):=λC=>by obtain⟨f0,f1,f2,f3⟩:=K0.o;exact⟨af f0 ai,af f1 ai,af f2 ai,af f3 ai⟩
 have HOR:Po (Calls prog 198 #[PM w2.heap.size 2 2] (w2.drew.alloc (.cells #[PO c1,PO c2] 3)) λe w'=>e=.returned (PO (kE c1 c2))/\w'=w2.drew.alloc (.cells #[PO c1,PO c2] 3)):=I6 w2.heap.size c1 c2 _ (BF w2.drew c1 c2 _).1 (BF w2.drew c1 c2 _).2;have HC1:=ae hc1;have HC2:=ae hc2;clear hc1 hc2;unfold aO;go_enter func220,ntmps220;go_upto_region 1 with fail;rw[<-hw2];clear hw2;go_region_held (λW9=>W9.cell? (PN W.heap.size 6)=some (PO x.dg)/\W9.cell? (PN W.heap.size 7)=some (PO x.k)/\W9.cell? (PN (W.heap.size+1) 6)=some (PO y.dg)/\W9.cell? (PN (W.heap.size+1) 7)=some (PO y.k))
  (first|with_reducible exact K0.o|exact KA.o _)
  (first|(go_at_call 126;refine(HC1.o _).mono ?_;rintro e w' ⟨rfl,rfl⟩)|(go_at_call 155;refine(HC2.o _).mono ?_;rintro e w' ⟨rfl,rfl⟩)|(go_at_call 198;refine HOR.o.mono ?_;rintro e w' ⟨rfl,rfl⟩))
 all_goals
  go_wp2;go_ret;obtain⟨os,h⟩:=HG2.o;exact⟨rfl,1,_,by rw[h,alloc_eq_grow];exact grow_grow (w:=W.drew) ..⟩
end Go.Proofs.YtjkalahhpobefaaGreat
