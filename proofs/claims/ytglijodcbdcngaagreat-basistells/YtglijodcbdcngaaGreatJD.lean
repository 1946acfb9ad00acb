/- The criteria, in the program's words: what a making keeps from add to add. -/
import Derived.Test.YtglijodcbdcngaaGreatKY
import Derived.Test.YtglijodcbdcngaaGreatBA
import Derived.Test.YtglijodcbdcngaaGreatZH
import Derived.Test.YtglijodcbdcngaaGreatZV
import Derived.Test.YtglijodcbdcngaaGreatKC
import Derived.Test.YtglijodcbdcngaaGreatM
set_option maxHeartbeats 2000000
set_option maxRecDepth 100000
namespace Go.Proofs.YtglijodcbdcngaaGreat
set_option linter.unusedSimpArgs false
set_option linter.unusedVariables false
open Go.Proofs.Tryz Go.RowKit
structure fo(R:Nat)(L:Ft):Prop where
 a:0<=L.a
 b:0<=L.b
 d:0<=L.d
 z:L.z=0
 pl:0<=L.pl/\L.pl<R
theorem vn{R:Nat}{s t:Ft}(hs:fo R s)(ht:fo R t):dE s t=true↔Gb.bP.dv (aE R s) (aE R t):=by have s1:=hs.a;have s2:=hs.b;have s3:=hs.d;have s4:=hs.z;have s5:=hs.pl;have t1:=ht.a;have t2:=ht.b;have t3:=ht.d;have t4:=ht.z;have t5:=ht.pl;unfold dE fX;show _↔(aE R s).1=(aE R t).1/\(aE R s).2.1<=(aE R t).2.1/\(aE R s).2.2.1<=(aE R t).2.2.1/\(aE R s).2.2.2<=(aE R t).2.2.2;unfold aE;simp only[Bool.and_eq_true,decide_eq_true_eq];omega
theorem mO{R:Nat}{s t:Ft}(hs:fo R s)(ht:fo R t):Gb.bP.lc (aE R s) (aE R t)=(R-1-s.pl.toNat,(dq s t).toNat,(dt s t).toNat,(du s t).toNat):=by have s1:=hs.a;have s2:=hs.b;have s3:=hs.d;have t1:=ht.a;have t2:=ht.b;have t3:=ht.d;show ((aE R s).1,max (aE R s).2.1 (aE R t).2.1,max (aE R s).2.2.1 (aE R t).2.2.1,max (aE R s).2.2.2 (aE R t).2.2.2)=_;unfold aE dq dt du;simp only[Prod.mk.injEq,true_and];omega
theorem fY.lc{R:Nat}{x y:Ft}{q:Pq}(h:fY x y q)(hx:fo R x)(hy:fo R y):Gb.bP.lc (aE R x) (aE R y)=(R-1-x.pl.toNat,q.a.toNat,q.b.toNat,q.d.toNat):=by rw[mO hx hy,h.a,h.b,h.d]
theorem fY.nn{R:Nat}{x y:Ft}{q:Pq}(h:fY x y q)(hx:fo R x)(hy:fo R y):0<=q.a/\0<=q.b/\0<=q.d/\q.z=0:=by have h1:=h.a;have h2:=h.b;have h3:=h.d;have h4:=h.z;unfold dq at h1;unfold dt at h2;unfold du at h3;unfold dh at h4;have s1:=hx.a;have s2:=hx.b;have s3:=hx.d;have s4:=hx.z;have t1:=hy.a;have t2:=hy.b;have t3:=hy.d;have t4:=hy.z;omega
theorem lC{m n:Int}(h1:0<=m)(h2:0<=n)(h:m.toNat=n.toNat):m=n:=by omega
theorem lD{m n:Int}(h1:0<=m)(h2:0<=n):0<=max m n/\True:=⟨by omega,trivial⟩
theorem Cl{R:Nat}{x y f:Ft}{q:Pq}(h:fY x y q)(hx:fo R x)(hy:fo R y)(hf:fo R f)(hd:lE x y f q=true):Gb.bP.dv (aE R f) (Gb.bP.lc (aE R x) (aE R y))/\Gb.bP.lc (aE R x) (aE R f)≠Gb.bP.lc (aE R x) (aE R y)/\Gb.bP.lc (aE R y) (aE R f)≠Gb.bP.lc (aE R x) (aE R y):=by
 obtain⟨q1,q2,q3,q4⟩:=h.nn hx hy;have hpl:=h.pl;have x4:=hx.z;have y4:=hy.z;have f4:=hf.z;have x1:=hx.a;have x2:=hx.b;have x3:=hx.d;have y1:=hy.a;have y2:=hy.b;have y3:=hy.d;have f1:=hf.a;have f2:=hf.b;have f3:=hf.d;unfold lE fX kI at hd;simp only[Bool.and_eq_true,decide_eq_true_eq,Bool.not_eq_true',Bool.and_eq_false_iff,decide_eq_false_iff_not] at hd;obtain⟨⟨⟨h1,h2⟩,h3⟩,h4⟩:=hd;rw[h.lc hx hy,mO hx hf,mO hy hf];refine⟨?_,?_,?_⟩
 ·show (aE R f).1=_/\(aE R f).2.1<=_/\(aE R f).2.2.1<=_/\(aE R f).2.2.2<=_;unfold aE;simp only;omega
 ·intro e;simp only[Prod.mk.injEq,true_and] at e;obtain⟨e1,e2,e3⟩:=e;have a1:=lC (lD x1 f1).1 q1 e1;have a2:=lC (lD x2 f2).1 q2 e2;have a3:=lC (lD x3 f3).1 q3 e3;have a4:dh x f=q.z:=by unfold dh;rw[x4,f4,q4];rfl
  rcases h3 with ((h|h)|h)|h
  ·exact h a1
  ·exact h a2
  ·exact h a3
  ·exact h a4
 ·intro e;simp only[Prod.mk.injEq] at e;obtain⟨_,e1,e2,e3⟩:=e;have a1:=lC (lD y1 f1).1 q1 e1;have a2:=lC (lD y2 f2).1 q2 e2;have a3:=lC (lD y3 f3).1 q3 e3;have a4:dh y f=q.z:=by unfold dh;rw[y4,f4,q4];rfl
  rcases h4 with ((h|h)|h)|h
  ·exact h a1
  ·exact h a2
  ·exact h a3
  ·exact h a4
theorem n4:∀(xs kept:List Pq)(y:Pq),y∈kept->y∈bY kept xs
 |[],kept,y,h=>h
 |x::xs,kept,y,h=>by
  unfold bY;split
  ·exact n4 xs kept y h
  ·exact n4 xs _ y (by simp[h])
theorem qt:∀(xs kept:List Pq)(y:Pq),y∈bY kept xs->y∈kept\/y∈xs
 |[],kept,y,h=>Or.inl h
 |x::xs,kept,y,h=>by
  unfold bY at h;split at h
  ·rcases qt xs kept y h with h|h
   ·exact Or.inl h
   ·exact Or.inr (by simp[h])
  ·rcases qt xs _ y h with h|h
   ·rcases Hv.1 h with h|h
    ·exact Or.inl h
    ·rw[Hw] at h;subst h;exact Or.inr (by simp)
   ·exact Or.inr (by simp[h])
theorem qu:∀(xs kept:List Pq)(y:Pq),y∈xs->y∈bY kept xs\/∃q∈bY kept xs,ji q y=true
 |[],kept,y,h=>by simp at h
 |x::xs,kept,y,h=>by
  rcases List.mem_cons.1 h with rfl|h
  ·unfold bY;split
   ·rename_i hk;obtain⟨q,hq,e⟩:=List.any_eq_true.1 hk;exact Or.inr ⟨q,n4 xs kept q hq,e⟩
   ·exact Or.inl (n4 xs _ y (by simp))
  ·unfold bY;split
   ·exact qu xs kept y h
   ·exact qu xs _ y h
def iL(R:Nat)(ms:List Mm)(k:Nat):Gb.Te:=(ms[k]?.map λx=>aE R x.L).getD (0,0,0,0)
theorem eJ{R:Nat}{ms:List Mm}{k:Nat}(h:k<ms.length):iL R ms k=aE R ms[k].L:=by unfold iL;rw[Ht h];rfl
def vo(ms:List Mm)(k:Nat):Prop:=∃h:k<ms.length,ms[k].gone=true
def vp(ms:List Mm)(qs:List Pq)(i j:Nat):Prop:=∃(hi:i<ms.length)(hj:j<ms.length),∃q∈qs,q.b1=ms[i].blk/\q.b2=ms[j].blk
theorem Cm{ld ld':Nat->Gb.Te}{n:Nat}{P P':Nat->Nat->Prop}{g g':Nat->Prop}(h:Gb.i9 Gb.bP ld n P g)(h1:∀k,k<n->ld' k=ld k)(h2:∀i j,P' i j↔P i j)(h3:∀k,k<n->(g' k↔g k)):Gb.i9 Gb.bP ld' n P' g':=by
 refine⟨λt i j hi hj d1 d2=>?_,λx hx hg=>?_,λi j hp=>h.lt i j ((h2 i j).1 hp)⟩
 ·rw[h1 i hi] at d1;rw[h1 j hj] at d2;have:=h.con t i j hi hj d1 d2;refine Gb.Pa.map id (λa b e=>?_) this;obtain⟨e1,e2,e3,e4⟩:=e;obtain⟨la,lb⟩:=h.lt a b e1;exact⟨(h2 a b).2 e1,by rw[id,h1 a la];exact e2,by rw[id,h1 b lb];exact e3,by rw[id,id,h1 a la,h1 b lb];exact e4⟩
 ·obtain⟨y,hy,hn,hd⟩:=h.gn x hx ((h3 x hx).1 hg);exact⟨y,hy,λh=>hn ((h3 y hy).1 h),by rw[h1 y hy,h1 x hx];exact hd⟩
theorem Cn(s t:Gb.Te):Gb.bP.dv s (Gb.bP.lc s t):=⟨rfl,Nat.le_max_left _ _,Nat.le_max_left _ _,Nat.le_max_left _ _⟩
structure jj(R:Nat)(ms:List Mm)(qs:List Pq):Prop where
 inv:Gb.i9 Gb.bP (iL R ms) ms.length (vp ms qs) (vo ms)
 nd:(ms.map Mm.blk).Nodup
 ld:∀x∈ms,fo R x.L
 pr:∀q∈qs,∃x y,x∈ms/\y∈ms/\q.b1=x.blk/\q.b2=y.blk/\fY x.L y.L q
theorem jj.nil(R:Nat):jj R [] []:=⟨⟨λt i j hi=>by simp at hi,λx hx=>by simp at hx,λi j h=>by obtain⟨hi,_⟩:=h;simp at hi⟩,by simp,λx hx=>by simp at hx,λq hq=>by simp at hq⟩
theorem vq{R:Nat}{L:Ft}{x:Mm}(hL:fo R L)(hx:fo R x.L):(cE L x).gone=true↔(x.gone=true\/Gb.bP.dv (aE R L) (aE R x.L)):=by
 rw[<-vn hL hx];unfold cE kJ;by_cases h:x.L.pl=L.pl
 ·rw[if_pos h];simp
 ·rw[if_neg h];constructor
  ·exact Or.inl
  ·rintro (h1|h1)
   ·exact h1
   ·unfold dE at h1;simp only[Bool.and_eq_true,decide_eq_true_eq] at h1;exact absurd h1.1.symm h
theorem jj.step{R:Nat}{ms:List Mm}{qs srt:List Pq}{f:Mm}{k0 k1 k2:Int}{dg:Nat->Int}(h:jj R ms qs)(hf:fo R f.L)(hg:f.gone=false)(hne:∀x∈ms,x.blk≠f.blk)(hs:srt.Perm ((jk ms f.L.pl.toNat).map λx=>dN k0 k1 k2 dg x f)):jj R (ms.map (cE f.L)++[f]) (qs.filter (λq=>!io ms f.L q)++bY [] srt):=by
 have hlen:(ms.map (cE f.L)++[f]).length=ms.length+1:=by simp
 have hlt:∀i (hi:i<ms.length) (hi2:i<(ms.map (cE f.L)++[f]).length),(ms.map (cE f.L)++[f])[i]=cE f.L ms[i]:=λi hi hi2=>by rw[List.getElem_append_left (by simpa using hi),List.getElem_map]
 have hla:∀(hi2:ms.length<(ms.map (cE f.L)++[f]).length),(ms.map (cE f.L)++[f])[ms.length]=f:=λhi2=>by rw[List.getElem_append_right (by simp)];simp
 have hld:∀i,i<ms.length->iL R (ms.map (cE f.L)++[f]) i=iL R ms i:=λi hi=>by rw[eJ hi,eJ (by omega),hlt i hi (by omega),(fp f.L _).1]
 have hln:iL R (ms.map (cE f.L)++[f]) ms.length=aE R f.L:=by rw[eJ (by omega),hla (by omega)]
 have hal:∀q∈srt,∃(i:Nat)(hi:i<ms.length),ms[i].L.pl=f.L.pl/\ms[i].gone=false/\q=dN k0 k1 k2 dg ms[i] f:=λq hq=>by
  obtain⟨x,hx,e⟩:=H8.1 (hs.mem_iff.1 hq);have hx2:=List.mem_filter.1 hx;have hx3:=List.mem_filter.1 hx2.1;obtain⟨i,hi,e2⟩:=List.mem_iff_getElem.1 hx3.1;have hp:=hf.pl;refine⟨i,hi,?_,?_,by rw[e2];exact e.symm⟩
  ·rw[e2];have:=hx3.2;simp only[decide_eq_true_eq] at this;omega
  ·rw[e2];simpa using hx2.2
 have hmem:∀q,q∈bY [] srt->q∈srt:=λq hq=>(qt srt [] q hq).elim (λh=>by simp at h) id;have hpr:∀(i:Nat)(hi:i<ms.length),ms[i].L.pl=f.L.pl->fY ms[i].L f.L (dN k0 k1 k2 dg ms[i] f):=λi hi e=>⟨e,rfl,rfl,rfl,rfl⟩;have inj:∀(i j:Nat)(hi:i<ms.length)(hj:j<ms.length),ms[i].blk=ms[j].blk->i=j:=λi j hi hj e=>by
  have h1:(ms.map Mm.blk)[i]'(by simpa using hi)=(ms.map Mm.blk)[j]'(by simpa using hj):=by simp[e]
  exact(List.getElem_inj h.nd).1 h1
 have blk':∀i (hi2:i<(ms.map (cE f.L)++[f]).length),(∃hi:i<ms.length,(ms.map (cE f.L)++[f])[i].blk=ms[i].blk)\/(i=ms.length/\(ms.map (cE f.L)++[f])[i].blk=f.blk):=λi hi2=>by
  by_cases hi:i<ms.length
  ·exact Or.inl ⟨hi,by rw[hlt i hi hi2,(fp f.L _).2.1]⟩
  ·have e:i=ms.length:=by omega
   subst e;exact Or.inr ⟨rfl,by rw[hla hi2]⟩
 refine⟨?_,?_,λx hx=>?_,λq hq=>?_⟩
 ·rw[hlen];have h0:Gb.i9 Gb.bP (iL R (ms.map (cE f.L)++[f])) ms.length (vp ms qs) (vo ms):=Cm h.inv hld (λ_ _=>Iff.rfl) λ_ _=>Iff.rfl;refine h0.step (kept:=λi=>∃(hi:i<ms.length),∃q∈bY [] srt,q.b1=ms[i].blk) (λx hx=>hx.1) (λx t hx hgx d1 d2=>?_) (λi j hp=>?_) (λi hi=>?_) (λi j hp=>?_) (λx=>?_)
  ·rw[hld x hx,eJ hx] at d1;rw[hln] at d2;have lx:=h.ld ms[x] (Hp hx);have hpl:ms[x].L.pl=f.L.pl:=by have e1:(aE R ms[x].L).1=(aE R f.L).1:=d1.1.trans d2.1.symm;have p1:=lx.pl;have p2:=hf.pl;unfold aE at e1;simp only at e1;omega
   have hgx2:ms[x].gone=false:=by
    cases e:ms[x].gone with
    |true=>exact absurd ⟨hx,e⟩ hgx
    |false=>rfl
   have hin:dN k0 k1 k2 dg ms[x] f∈srt:=by refine hs.mem_iff.2 (H8.2 ⟨ms[x],List.mem_filter.2 ⟨List.mem_filter.2 ⟨Hp hx,?_⟩,by simp[hgx2]⟩,rfl⟩);have p2:=hf.pl;simp only[decide_eq_true_eq];omega
   rcases qu srt [] _ hin with h1|⟨q,hq,h1⟩
   ·exact Or.inl ⟨hx,_,h1,rfl⟩
   ·obtain⟨y,hy,ypl,ygo,rfl⟩:=hal q (hmem q hq);have ly:=h.ld ms[y] (Hp hy);have hlc:Gb.bP.dv (Gb.bP.lc (aE R ms[y].L) (aE R f.L)) (Gb.bP.lc (aE R ms[x].L) (aE R f.L)):=by rw[mO ly hf,mO lx hf,ypl,hpl];unfold ji fX at h1;simp only[Bool.and_eq_true,decide_eq_true_eq] at h1;obtain⟨⟨⟨a1,a2⟩,a3⟩,_⟩:=h1;exact⟨rfl,Int.toNat_le_toNat a1,Int.toNat_le_toNat a2,Int.toNat_le_toNat a3⟩
    refine Or.inr ⟨y,⟨hy,_,hq,rfl⟩,?_,?_⟩
    ·rw[hld y hy,eJ hy];exact Gb.bP.trans (Cn _ (aE R f.L)) (Gb.bP.trans hlc (Gb.bP.lci d1 d2))
    ·rw[hld y hy,eJ hy,hln,hld x hx,eJ hx];exact hlc
  ·obtain⟨hi2,hj2,q,hq,e1,e2⟩:=hp;rcases Hv.1 hq with hq|hq
   ·have hq2:=(List.mem_filter.1 hq).1;obtain⟨x,y,hx,hy,f1,f2,_⟩:=h.pr q hq2;rcases blk' i hi2 with ⟨hi,b1⟩|⟨_,b1⟩
    ·rcases blk' j hj2 with ⟨hj,b2⟩|⟨_,b2⟩
     ·exact Or.inl ⟨hi,hj,q,hq2,by rw[e1,b1],by rw[e2,b2]⟩
     ·exact absurd (f2.symm.trans (e2.trans b2)) (hne y hy)
    ·exact absurd (f1.symm.trans (e1.trans b1)) (hne x hx)
   ·obtain⟨x,hx,_,_,rfl⟩:=hal q (hmem q hq);rcases blk' i hi2 with ⟨hi,b1⟩|⟨_,b1⟩
    ·rcases blk' j hj2 with ⟨hj,b2⟩|⟨ej,b2⟩
     ·exact absurd (e2.trans b2).symm (hne ms[j] (Hp hj))
     ·exact Or.inr ⟨ej,hi,_,hq,by rw[e1,b1]⟩
    ·exact absurd (e1.trans b1) (hne ms[x] (Hp hx))
  ·obtain⟨hi2,q,hq,e⟩:=hi;obtain⟨x,hx,_,_,rfl⟩:=hal q (hmem q hq);refine⟨by omega,by omega,_,Hv.2 (Or.inr hq),?_,?_⟩
   ·rw[e,hlt i hi2 (by omega),(fp f.L _).2.1]
   ·rw[hla (by omega)];rfl
  ·obtain⟨hi,hj,q,hq,e1,e2⟩:=hp;cases ht:io ms f.L q with
   |false=>
    refine Or.inl ⟨by omega,by omega,q,Hv.2 (Or.inl (List.mem_filter.2 ⟨hq,by simp[ht]⟩)),?_,?_⟩
    ·rw[e1,hlt i hi (by omega),(fp f.L _).2.1]
    ·rw[e2,hlt j hj (by omega),(fp f.L _).2.1]
   |true=>obtain⟨x,y,hx,hy,f1,f2,hp2⟩:=h.pr q hq;have ex:x=ms[i]:=kK h.nd hx (Hp hi) (f1.symm.trans e1);have ey:y=ms[j]:=kK h.nd hy (Hp hj) (f2.symm.trans e2);subst ex ey;unfold io at ht;rw[f1,f2,n5 h.nd hx,n5 h.nd hy] at ht;refine Or.inr ?_;rw[hld i hi,hld j hj,eJ hi,eJ hj,hln];exact Cl hp2 (h.ld _ hx) (h.ld _ hy) hf ht
  ·constructor
   ·rintro ⟨hx,hgx⟩;rcases (by omega:x<ms.length\/x=ms.length) with hx2|rfl
    ·rw[hlt x hx2 hx] at hgx;refine⟨hx2,?_⟩;rw[hln,hld x hx2,eJ hx2];rcases (vq hf (h.ld _ (Hp hx2))).1 hgx with h1|h1
     ·exact Or.inl ⟨hx2,h1⟩
     ·exact Or.inr h1
    ·rw[hla hx,hg] at hgx;simp at hgx
   ·rintro ⟨hx2,h1⟩;refine⟨by omega,?_⟩;rw[hlt x hx2 (by omega)];rw[hln,hld x hx2,eJ hx2] at h1;refine(vq hf (h.ld _ (Hp hx2))).2 ?_;rcases h1 with ⟨_,h1⟩|h1
    ·exact Or.inl h1
    ·exact Or.inr h1
 ·rw[List.map_append,List.map_map];have e:(Mm.blk∘cE f.L)=Mm.blk:=by funext x;exact(fp f.L x).2.1
  rw[e];refine List.nodup_append.2 ⟨h.nd,by simp,λa ha b hb=>?_⟩;simp at hb;obtain⟨x,hx,rfl⟩:=H8.1 ha;rw[hb];exact hne x hx
 ·rcases Hv.1 hx with hx|hx
  ·obtain⟨y,hy,rfl⟩:=H8.1 hx;rw[(fp f.L y).1];exact h.ld y hy
  ·rw[Hw] at hx;subst hx;exact hf
 ·rcases Hv.1 hq with hq|hq
  ·obtain⟨x,y,hx,hy,e1,e2,hp⟩:=h.pr q (List.mem_filter.1 hq).1;refine⟨cE f.L x,cE f.L y,by simp only[Hv,H8];exact Or.inl ⟨x,hx,rfl⟩,by simp only[Hv,H8];exact Or.inl ⟨y,hy,rfl⟩,by rw[(fp f.L x).2.1];exact e1,by rw[(fp f.L y).2.1];exact e2,by rw[(fp f.L x).1,(fp f.L y).1];exact hp⟩
  ·obtain⟨x,hx,xpl,_,rfl⟩:=hal q (hmem q hq);refine⟨cE f.L ms[x],f,by simp only[Hv,H8];exact Or.inl ⟨_,Hp hx,rfl⟩,by simp,by rw[(fp f.L _).2.1];rfl,rfl,by rw[(fp f.L _).1];exact hpr x hx xpl⟩
theorem Gd.ldb{o ov:Int}{N R:Nat}{Q:Int}{t:Ft}(g:Gd o ov N R Q t):fo R t:=⟨g.a,g.b,g.d,g.z,g.pl0,g.pl⟩
structure lr{p o ov:Int}(G:Gb.bw (Gb.bi o ov) p)(N R:Nat)(ms:List Mm)(ix:Nat->Nat):Prop where
 mb:∀k (h:k<ms.length),fM G N R (ix k) ms[k].L ms[k].r
 all:∀j,G.live j->∃k,k<ms.length/\ix k=j
theorem lr.msg{p o ov:Int}{G:Gb.bw (Gb.bi o ov) p}{N R:Nat}{ms:List Mm}{ix:Nat->Nat}(h:lr G N R ms ix):n6 G N R ms:=λx hx=>by obtain⟨i,hi,rfl⟩:=List.mem_iff_getElem.1 hx;exact⟨_,h.mb i hi⟩
theorem B7{p o ov:Int}{N R:Nat}{G:Gb.bw (Gb.bi o ov) p}{ms:List Mm}{qs:List Pq}{ix:Nat->Nat}(h:jj R ms qs)(hm:lr G N R ms ix)(hg:∀q∈qs,∀i j (hi:i<ms.length) (hj:j<ms.length),q.b1=ms[i].blk->q.b2=ms[j].blk->Gb.Rl G (ix i) (bC (aV q ms[i].L 1)) (ix j) (bC (aV q ms[j].L (p-1)))):Gb.da G:=by
 refine Gb.zO (ld:=iL R ms) (ix:=ix) h.inv (λk hk=>?_) hm.all λa b hp=>?_
 ·rw[eJ hk];exact(hm.mb k hk).ld
 ·obtain⟨ha,hb,q,hq,e1,e2⟩:=hp;obtain⟨x,y,hx,hy,f1,f2,hp2⟩:=h.pr q hq;have ex:x=ms[a]:=kK h.nd hx (Hp ha) (f1.symm.trans e1);have ey:y=ms[b]:=kK h.nd hy (Hp hb) (f2.symm.trans e2);subst ex ey;have gx:=(hm.mb a ha).gd ms[a].L (by simp);have gy:=(hm.mb b hb).gd ms[b].L (by simp);have hlc:aE R (jY o ov N q ms[a].L.pl)=Gb.pN (iL R ms a) (iL R ms b):=by rw[eJ ha,eJ hb];show _=Gb.bP.lc _ _;rw[hp2.lc gx.ldb gy.ldb];rfl
  refine⟨bC (aV q ms[a].L 1),bC (aV q ms[b].L (p-1)),?_,?_,hg q hq a b ha hb e1 e2⟩
  ·rw[<-hlc,eJ ha];exact(hp2.byx (c:=1) gx gy).1.te gx
  ·rw[<-hlc,eJ hb];exact(hp2.byx (c:=p-1) gx gy).2.te gy
theorem B5{p o ov:Int}{N R:Nat}(hx:bj p o ov N R){G:Gb.bw (Gb.bi o ov) p}{ms:List Mm}{qs:List Pq}{ix:Nat->Nat}(h:jj R ms qs)(hm:lr G N R ms ix){X:Gb.Fn Gb.Te}{P t:Ft}{rows:List (List Ft)}(hL:LI G N R X P (some t) rows)(hX:Gb.Vb G (λ_=>True) X)(hf:fm ms t=none):¬Gb.da G:=λhA=>by
 refine Co hx hL hA hX λj hj hd=>?_;obtain⟨k,hk,rfl⟩:=hm.all j hj;have gt:=(hL.tr t rfl).1;rw[(hm.mb k hk).ld,<-eJ hk] at hd;obtain⟨y,hy,hn,hd2⟩:=Gb.zP h.inv hk hd;rw[eJ hy] at hd2;have hin:=(vn (h.ld _ (Hp hy)) gt.ldb).2 hd2;have hgo:ms[y].gone=false:=by
  cases e:ms[y].gone with
  |true=>exact absurd ⟨hy,e⟩ hn
  |false=>rfl
 unfold fm at hf;refine List.find?_eq_none.1 hf ms[y] (List.mem_filter.2 ⟨Hp hy,?_⟩) ?_
 ·unfold dE at hin;simp only[Bool.and_eq_true,decide_eq_true_eq] at hin;have:=gt.pl0;simp only[decide_eq_true_eq];omega
 ·unfold eU;rw[hgo,hin];rfl
end Go.Proofs.YtglijodcbdcngaaGreat
namespace Go.Proofs.YtglijodcbdcngaaGreat
set_option linter.unusedSimpArgs false
set_option linter.unusedVariables false
open Go.Proofs.Tryz Go.RowKit Go.Sort
def jl(a b:Int):Int:=if a=0 then b else a
theorem Cp(a b c d:Int):jl (aR a b) (aR c d)=if a<b then-1 else if b<a then 1 else if c<d then-1 else if d<c then 1 else 0:=by unfold jl aR;split<;>(try split)<;>(try split)<;>simp_all
theorem Cq(vb:Nat)(a b:Int)(w:World)(h0:w.cell? ⟨vb,0,none⟩=some (.int .i64 a))(h1:w.cell? ⟨vb,1,none⟩=some (.int .i64 b)):Calls prog 108 #[.slice (some ⟨vb,0,none⟩) 2 2] w λe w'=>e=.returned (.int .i64 (jl a b))/\w'=w:=by
 go_enter func108,ntmps108;go_wp2_with fail;go_loopw [8] (λi wr=>wr=w/\(i=.int .i64 0\/(i=.int .i64 1/\a=0)\/(i=.int .i64 2/\a=0/\b=0))) (λi _=>2-(intOf i).toNat);case atStart=>exact⟨rfl,Or.inl rfl⟩
 case round=>
  obtain⟨rfl,rfl|⟨rfl,ha⟩|⟨rfl,ha,hb⟩⟩:=hrel
  ·by_cases ha:a=0
   ·subst ha;go_wp2_with fail;go_roundw;case rel=>exact⟨trivial,Or.inr (Or.inl ⟨by go_num,trivial⟩)⟩
    case measure=>simp[intOf]
   ·have hn:(a==0)=false:=by simpa using ha
    have HE:Ic (jl a b=a):=by show _=_;unfold jl;rw[if_neg ha]
    go_wp2;go_ret;exact⟨by rw[HE.o];rfl,rfl⟩
  ·subst ha;by_cases hb:b=0
   ·subst hb;go_wp2_with fail;go_roundw;case rel=>exact⟨trivial,Or.inr (Or.inr ⟨by go_num,trivial,trivial⟩)⟩
    case measure=>simp[intOf]
   ·have hn:(b==0)=false:=by simpa using hb
    have HE:Ic (jl 0 b=b):=by show _=_;unfold jl;rw[if_pos rfl]
    go_wp2;go_ret;exact⟨by rw[HE.o];rfl,rfl⟩
  ·subst ha hb;go_wp2;go_ret;exact⟨rfl,rfl⟩
def jm(x y:Pq):Int:=jl (aR x.dg y.dg) (aR x.k y.k)
theorem vt(w:World)(a b:Int)(T:TypeId):(w.alloc (.cells #[.int .i64 a,.int .i64 b] T)).cell? ⟨w.heap.size,0,none⟩=some (.int .i64 a)/\(w.alloc (.cells #[.int .i64 a,.int .i64 b] T)).cell? ⟨w.heap.size,1,none⟩=some (.int .i64 b):=by simp[go_sem]
theorem Cr(x y:Pq)(W:World):Calls prog 62 #[.agg (aI x).toArray,.agg (aI y).toArray] W λe w'=>e=.returned (.int .i64 (jm x y))/\∃q os',w'=grow (W.drewN q) os':=by
 have hc1:=λW'=>i5 x.dg y.dg W';have hc2:=λW'=>vu x.k y.k W';unfold jm;generalize aR x.dg y.dg=c1 at hc1⊢;generalize aR x.k y.k=c2 at hc2⊢;obtain⟨w2,hw2⟩:∃w2,w2=(W.alloc (.cells #[.pointer (some ⟨x.b1,0,none⟩),.pointer (some ⟨x.b2,0,none⟩),.int .u16 x.a,.int .u16 x.b,.int .u16 x.d,.int .u16 x.z,.int .i64 x.dg,.int .i64 x.k] 104)).alloc (.cells #[.pointer (some ⟨y.b1,0,none⟩),.pointer (some ⟨y.b2,0,none⟩),.int .u16 y.a,.int .u16 y.b,.int .u16 y.d,.int .u16 y.z,.int .i64 y.dg,.int .i64 y.k] 104):=⟨_,rfl⟩;have HG2:Ic (∃os,w2=grow W os):=by rw[hw2];exact⟨_,by rw[alloc_eq_grow,alloc_eq_grow,grow_grow]⟩
 have K0:Ic (w2.drew.cell? ⟨W.heap.size,6,none⟩=some (.int .i64 x.dg)/\w2.drew.cell? ⟨W.heap.size,7,none⟩=some (.int .i64 x.k)/\w2.drew.cell? ⟨W.heap.size+1,6,none⟩=some (.int .i64 y.dg)/\w2.drew.cell? ⟨W.heap.size+1,7,none⟩=some (.int .i64 y.k)):=by rw[hw2];simp[go_sem,Ic]
 have KA:Ic (∀C,(w2.drew.alloc C).cell? ⟨W.heap.size,6,none⟩=some (.int .i64 x.dg)/\(w2.drew.alloc C).cell? ⟨W.heap.size,7,none⟩=some (.int .i64 x.k)/\(w2.drew.alloc C).cell? ⟨W.heap.size+1,6,none⟩=some (.int .i64 y.dg)/\(w2.drew.alloc C).cell? ⟨W.heap.size+1,7,none⟩=some (.int .i64 y.k)):=λC=>by obtain⟨f0,f1,f2,f3⟩:=K0.o;exact⟨ae f0 af,ae f1 af,ae f2 af,ae f3 af⟩
 have HOR:Ic (Calls prog 108 #[.slice (some ⟨w2.heap.size,0,none⟩) 2 2] (w2.drew.alloc (.cells #[.int .i64 c1,.int .i64 c2] 3)) λe w'=>e=.returned (.int .i64 (jl c1 c2))/\w'=w2.drew.alloc (.cells #[.int .i64 c1,.int .i64 c2] 3)):=Cq w2.heap.size c1 c2 _ (vt w2.drew c1 c2 _).1 (vt w2.drew c1 c2 _).2;have HC1:=aa hc1;have HC2:=aa hc2;clear hc1 hc2;unfold aI;go_enter func62,ntmps62;go_upto_region 1 with fail;rw[<-hw2];clear hw2;go_region_held (λW9=>W9.cell? ⟨W.heap.size,6,none⟩=some (.int .i64 x.dg)/\W9.cell? ⟨W.heap.size,7,none⟩=some (.int .i64 x.k)/\W9.cell? ⟨W.heap.size+1,6,none⟩=some (.int .i64 y.dg)/\W9.cell? ⟨W.heap.size+1,7,none⟩=some (.int .i64 y.k))
  (first|with_reducible exact K0.o|exact KA.o _)
  (first|(go_at_call 109;refine(HC1.o _).mono ?_;rintro e w' ⟨rfl,rfl⟩)|(go_at_call 110;refine(HC2.o _).mono ?_;rintro e w' ⟨rfl,rfl⟩)|(go_at_call 108;refine HOR.o.mono ?_;rintro e w' ⟨rfl,rfl⟩))
 all_goals
  go_wp2;go_ret;obtain⟨os,h⟩:=HG2.o;exact⟨rfl,1,_,by rw[h,alloc_eq_grow];exact grow_grow (w:=W.drew) ..⟩
theorem qw(x y:Pq):ltOf jm x y=decide (x.dg<y.dg\/(x.dg=y.dg/\x.k<y.k)):=by
 unfold ltOf jm;rw[Cp];by_cases h1:x.dg<y.dg
 ·simp[h1]
 ·by_cases h2:y.dg<x.dg
  ·have:x.dg≠y.dg:=by omega
   simp[h1,h2,this]
  ·have e:x.dg=y.dg:=by omega
   by_cases h3:x.k<y.k
   ·simp[e,h3]
   ·by_cases h4:y.k<x.k<;>simp[e,h3,h4]
theorem vw:SWO (ltOf jm) where
 irrefl x:=by rw[qw];simp
 trans x y z h1 h2:=by rw[qw] at*;simp at*;omega
 ntrans x y z h1 h2:=by rw[qw] at*;simp at*;omega
theorem Cs(w:World):(isAgg 104).run prog w=.ok true w:=by kernel_rfl
theorem Ct(w:World):(Go.sizeOf 104).run prog w=.ok 8 w:=by kernel_rfl
theorem Cu(q:Pq)(qs:List Pq):ct (q::qs)=aI q++ct qs:=rfl
theorem vx[Inhabited Pq]:∀(fs:List Pq)(j:Nat),j<fs.length*8->(ct fs)[j]?=some ((aI fs.toArray[j/8]!)[j%8]!)
 |[],j,h=>by simp at h
 |t::fs,j,h=>by
  rw[Cu];by_cases hj:j<8
  ·rw[List.getElem?_append_left (by simpa [aI] using hj)];have e1:j/8=0:=by omega
   have e2:j%8=j:=by omega
   rw[e1,e2];have e3:(t::fs).toArray[0]! =t:=rfl;rw[e3,Ht (by simpa [aI] using hj),getElem!_pos _ j (by simpa [aI] using hj)]
  ·rw[List.getElem?_append_right (by simp[aI];omega)];have ih:=vx fs (j-8) (by simp at h;omega);have e0:(aI t).length=8:=rfl;rw[e0,ih];have e1:j/8=(j-8)/8+1:=by omega
   have e2:j%8=(j-8)%8:=by omega
   rw[e1,e2];have e3:(t::fs).toArray[(j-8)/8+1]! =fs.toArray[(j-8)/8]!:=by
    have hl:(j-8)/8<fs.length:=by simp at h;omega
    rw[getElem!_pos _ _ (by simpa using hl),getElem!_pos _ _ (by simpa using hl)];simp
   rw[e3]
theorem Cv[Inhabited Pq]{w:World}{B g cap:Nat}{fs:List Pq}(h:w.ownsRow B 104 8 (.slice (some ⟨g,0,none⟩) fs.length cap) fs.length (ct fs)):HoldsK aI 8 w g 0 fs.toArray:=by
 intro j hj;rw[size_flatK] at hj;have hj2:j<fs.length*8:=by simpa using hj
 refine⟨?_,by rw[Hy];exact h.frozenAt j⟩;rw[Hy,h.cellAt j hj2,vx fs j hj2,get_flatK _ _ _ _ hj];rfl
theorem Cw[Inhabited Pq]{w:World}{g cap:Nat}{fs:List Pq}(h:HoldsK aI 8 w g 0 fs.toArray):ip w (.slice (some ⟨g,0,none⟩) fs.length cap) fs:=by
 refine⟨_,cap,rfl,λj hj=>⟨g,0,rfl,?_⟩⟩;have hc:∀i,i<8->w.cell? ⟨g,0+j*8+i,none⟩=(aI fs[j])[i]?:=λi hi=>by
  have hjl:j*8+i<fs.length*8:=by omega
  have h1:=(h (j*8+i) (by rw[size_flatK];simpa using hjl)).1;rw[get_flatK _ _ _ _ (by simpa using hjl)] at h1;have e1:(j*8+i)/8=j:=by omega
  have e2:(j*8+i)%8=i:=by omega
  rw[e1,e2,getElem!_pos _ j (by simpa using hj)] at h1;rw[show 0+j*8+i=0+(j*8+i) by omega,h1,Ht (by simpa [aI] using hi),getElem!_pos _ i (by simpa [aI] using hi)];simp
 exact⟨hc 0 (by omega),hc 1 (by omega),hc 2 (by omega),hc 3 (by omega),hc 4 (by omega),hc 5 (by omega),hc 6 (by omega),hc 7 (by omega)⟩
theorem Cx[Inhabited Pq]{w:World}{g n:Nat}{os:Array Obj}(d:Array Pq):w.grownBy (sortWorldK aI 8 w g 0 n d os) (some g):=by refine⟨rfl,rfl,rfl,by simp[sortWorldK,putRowK],λk hk hne=>?_⟩;unfold sortWorldK putRowK;rw[heap_grow_old _ _ (by simpa using hk)];have:g≠k:=λe=>hne (by rw[e]);simp[putRow,mapBlock,Sort.ahead,Array.getElem?_modify,this]
theorem Cy[Inhabited Pq](g cap:Nat)(fs:List Pq)(w:World)(hH:HoldsK aI 8 w g 0 fs.toArray)(hblk:g<w.heap.size)(hsz:fs.length<4611686018427387904):Calls prog 61 #[.slice (some ⟨g,0,none⟩) fs.length cap,.func (.func 62) #[] #[]] w λe w'=>e=.returned (.tuple #[])/\∃d' n os,PermIn 0 fs.length fs.toArray d'/\w'=sortWorldK aI 8 w g 0 n d' os:=by
 have eg:∀args w,(callFunc 62 args).run prog w=.ok (.enter 62 args) w:=enters_of func62 (by kernel_rfl) rfl;have hcmp:CmpLays prog 62 #[] aI 8 jm g 0 fs.toArray.size w:=λ_ _ _ _ x y=>Cr x y _;have hlim:Lib.bitLen fs.toArray.size<4611686018427387904:=Nat.lt_of_le_of_lt (Lib.bitLen_le fs.toArray.size 62 (by simp;try omega) (by omega)) (by omega);have hp:=AnyQ.pdqsortCmpFunc_all (P:=prog) Tryz.pdqPr 8 Cs Ct aI jm 62 #[] vw g 0 cap fs.toArray w eg hcmp ⟨λ_=>rfl,qx,hH,hblk⟩ (fs.toArray.size+1) 0 fs.toArray.size (Lib.bitLen fs.toArray.size) fs.toArray w (by omega) rfl (SWK.start hH) (Hl _) (He _) (by simpa using hsz) hlim (Or.inl rfl);change Calls prog 106 _ _ _ at hp;have hl:=Tryz.bits_Len (fs.length:Int) w (by omega) (by omega);rw[Int.toNat_natCast] at hl;have wr:IntKind.u64.wrap (fs.length:Int)=fs.length:=by simp[IntKind.wrap,IntKind.bits,IntKind.signed];omega
 have hps:=pdq_sorts (ltOf jm) vw fs.toArray 0 fs.toArray.size (Lib.bitLen fs.toArray.size) true true (Hl _) (He _) (Or.inl rfl);simp only[List.size_toArray] at hp hps hlim;have HPS:=aa hps;have HP:=aa hp;have HL:=aa hl;clear hH hcmp hps hp hl eg;generalize pdq (ltOf jm) fs.toArray 0 fs.length (Lib.bitLen fs.length) true true=dd at HPS HP;generalize Lib.bitLen fs.length=bl at HP HL hlim;go_enter func61,ntmps61;go_wp2_with (first|(go_at_call 107;refine HL.o.mono ?_;rintro e w' ⟨rfl,rfl⟩)|(go_at_call 106;refine HP.o.mono ?_;rintro e w' ⟨rfl,n,os,rfl⟩));go_end0;exact⟨rfl,dd,n,os,HPS.o.1,rfl⟩
theorem Cz(w:World):Calls prog 61 #[.slice none 0 0,.func (.func 62) #[] #[]] w λe w'=>e=.returned (.tuple #[])/\w'=w:=by
 have hp:=λW=>AnyF.pdqsortCmpFunc_none (P:=prog) Tryz.pdqPr none 0 0 (.func (.func 62) #[] #[]) W;change∀W,Calls prog 106 _ _ _ at hp;have HL:=aa (λW=>Tryz.bits_Len 0 W (by omega) (by omega));have HP:=aa hp;clear hp;have e0:Lib.bitLen (0:Int).toNat=0:=by decide
 rw[show (Lib.bitLen (0:Int).toNat:Nat)=0 from e0] at HL;go_enter func61,ntmps61;go_wp2_with (first|(go_at_call 107;refine(HL.o _).mono ?_;rintro e w' ⟨rfl,rfl⟩)|(go_at_call 106;refine(HP.o _).mono ?_;rintro e w' ⟨rfl,rfl⟩));go_end0;exact⟨rfl,rfl⟩
theorem BX(B:Nat)(v:Value)(qs:List Pq)(w:World)(hp:bD B w v qs)(hn:qs.length<=1000000):Calls prog 61 #[v,.func (.func 62) #[] #[]] w λe w'=>e=.returned (.tuple #[])/\∃srt:List Pq,srt.Perm qs/\ip w' v srt/\ao (λk=>v.ownBlock=some k) w w':=by
 have inh:Inhabited Pq:=⟨⟨0,0,0,0,0,0,0,0⟩⟩;rcases hp.own.2 with ⟨h1,h2⟩|⟨g,cap,ai,h1,_⟩
 ·subst h1;have e:qs=[]:=List.eq_nil_of_length_eq_zero (by have:=lF qs;simp[h2] at this;omega);subst e;refine(Cz w).mono ?_;rintro e w' ⟨rfl,rfl⟩;exact⟨rfl,[],List.Perm.refl _,⟨none,0,rfl,λj h=>by simp at h⟩,ao.refl _ _⟩
 ·subst h1;have hlt:=Hd hp.own g rfl;have hH:=Cv hp.own;refine(Cy g cap qs w hH hlt.2 (by omega)).mono ?_;rintro e w' ⟨rfl,d',n,os,hpm,hw⟩;have hds:d'.size=qs.length:=by simpa using hpm.1
  have e1:d'.toList.length=qs.length:=by simpa using hds
  refine⟨rfl,d'.toList,?_,?_,?_⟩
  ·have h:=hpm.2.2;rw[show qs.toArray.extract 0 qs.length=qs.toArray from by simp,show d'.extract 0 qs.length=d' from by rw[<-hds];simp] at h;simpa using h
  ·have h:=holdsK_sortWorldK aI 8 w g 0 n qs.toArray d' os hlt.2 hH (by simpa using hds);rw[<-hw] at h;have k:=Cw (cap:=cap) (fs:=d'.toList) (by simpa using h);rw[e1] at k;exact k
  ·have hg:=Cx (w:=w) (g:=g) (n:=n) (os:=os) d';rw[<-hw] at hg;exact ao.of_grown hg λk e=>e
end Go.Proofs.YtglijodcbdcngaaGreat
namespace Go.Proofs.YtglijodcbdcngaaGreat
set_option linter.unusedSimpArgs false
set_option linter.unusedVariables false
open Go.Proofs.Tryz Go.RowKit
theorem bH.sorted{p:Int}{B:Nat}{w w':World}{mb ob R g:Nat}{dv pv:Value}{us:List Value}{ms:List Mm}{qs:List Pq}(h:bH p B w mb ob R g dv pv us ms qs)(hf:ao (λk=>pv.ownBlock=some k) w w'):gM p w' mb R ms/\w'.cell? ⟨mb,0,none⟩=some (.pointer (some ⟨ob,0,none⟩))/\w'.cell? ⟨mb,3,none⟩=some pv/\bS w w':=by
 have hT:∀{T:TypeId},104≠T->∀k,pv.ownBlock=some k->cX w T k:=λhT k hk=>bM h.prs.own hk hT;have hA:ei p B w' R g us ms:=h.mks.frm hf h.prs.kd λk hk=>⟨hT (by decide) k hk,hT (by decide) k hk⟩;have hmb:¬pv.ownBlock=some mb:=λe=>by obtain⟨ai,e2⟩:=cD h.box (g:=mb) rfl;exact hT (T:=98) (by decide) mb e ai e2
 obtain⟨c0,_,c2,c3,c4⟩:=h.cells;exact⟨⟨⟨g,R,hf.cell c2 hmb,λpl hp=>⟨_,(hA.at pl hp).1,hA.pts pl hp⟩⟩,λx hx=>(hA.mem x hx).mbr,hf.cell c4 hmb⟩,hf.cell c0 hmb,hf.cell c3 hmb,bS.of_frm hf (hT (by decide))⟩
theorem CA{ms:List Mm}{qs srt:List Pq}{n:Nat}{F:Mm->Pq}{T:Pq->Bool}(hs:srt.Perm ((jk ms n).map F)):(qs.filter T++bY [] srt).length<=qs.length+ms.length:=by have h1:=n7 srt [];have h2:=hs.length_eq;have h3:(jk ms n).length<=ms.length:=Hk (List.length_filter_le _ _) (List.length_filter_le _ _);have h4:=List.length_filter_le T qs;rw[Ia] at h2;simp only[List.length_nil] at h1;rw[Hx];omega
theorem vy{o ov:Int}{N R:Nat}{Q:Int}{t:Ft}(h3:N<=3)(h0:0<N)(g:Gd o ov N R Q t):aL R t.pl.toNat (aJ N t)=aE R t:=by
 have hN:N=1\/N=2\/N=3:=by omega
 have h1:=g.n1;have h2:=g.n2;rcases hN with rfl|rfl|rfl
 ·have e1:=h1 (by omega);have e2:=h2 (by omega);unfold aL aE aJ;simp[e1,e2]
 ·have e2:=h2 (by omega);unfold aL aE aJ;simp[e2]
 ·unfold aL aE aJ;simp
theorem vz{o ov:Int}{N R:Nat}(h0:0<N)(h3:N<=3){v:List (List Tm)}{Q:Int}(hv:∀i,∀u∈v.getD i [],u.2.length=N/\(∀x∈u.2,0<=x)/\ag u.2<=Q)(φ:Gb.Te->Int):∀n,n<=R->bV R φ (eC o ov N v n)=Gb.ln φ (ci R v n)
 |0,_=>rfl
 |n+1,hn=>by
  simp only[eC,ci];rw[qy,jZ,vz h0 h3 hv φ n (by omega)];congr 1;have key:∀f:List Tm,(∀u∈f,u.2.length=N/\(∀x∈u.2,0<=x)/\ag u.2<=Q)->bV R φ (f.map (cJ o ov N n))=Gb.ln φ (f.map λt=>(t.1,aL R n t.2)):=by
   intro f;induction f with
   |nil=>intro _;rfl
   |cons u f ih=>intro h;obtain⟨a1,a2,a3⟩:=h u (by simp);obtain⟨g,e1,e2,e3,_⟩:=mN (o:=o) (ov:=ov) (R:=R) (i:=n) h0 h3 a1 a2 a3 (by omega);rw[List.map_cons,List.map_cons,iq,Gb.ln,ih λx hx=>h x (by simp[hx]),e2,<-vy h3 h0 g,e1,e3];simp
  exact key _ (hv n)
theorem CB{R:Nat}(φ:Gb.Te->Int){f g:List Ft}(h:f.Perm g):bV R φ f=bV R φ g:=by
 induction h with
 |nil=>rfl
 |cons x _ ih=>rw[iq,iq,ih]
 |swap x y l=>simp only[iq];omega
 |trans _ _ i1 i2=>rw[i1,i2]
theorem vA{p inv:Int}{R:Nat}(φ:Gb.Te->Int):∀fs:List Ft,p∣bV R φ (fs.map (dD p inv))-inv*bV R φ fs
 |[]=>⟨0,by simp[og]⟩
 |t::fs=>by
  obtain⟨a,ha⟩:=vA (p:=p) (inv:=inv) φ fs;rw[List.map_cons,iq,iq];have e1:aE R (dD p inv t)=aE R t:=rfl;have e2:(dD p inv t).c=t.c*inv%p:=rfl;rw[e1,e2];have h:=Int.emod_add_mul_ediv (t.c*inv) p;refine⟨a-(t.c*inv/p)*φ (aE R t),?_⟩;rw[Int.mul_sub,<-ha];have e3:t.c*inv%p=t.c*inv-p*(t.c*inv/p):=by omega
  rw[e3];generalize t.c*inv/p=z;generalize φ (aE R t)=f;generalize bV R φ fs=s;generalize bV R φ (List.map (dD p inv) fs)=s2;grind
theorem BV{p o ov:Int}{N R:Nat}(hx:bj p o ov N R){lss:List (List (List Tm))}(hl:cF p o N R lss){k:Nat}(hk:k<lss.length){t:Ft}{ts:List Ft}(h:mP p o ov N R 200 (lss.getD k []) (t::ts))(hp:(t::ts).Perm (eC o ov N (lss.getD k []) R))(hd:∀u∈t::ts,u.a+u.b+u.d<=40):fM (bq p o ov N R hx lss hl) N R k (dD p (aC p t.c) t) (ts.map (dD p (aC p t.c))):=by
 have hc:=h.co t (by simp);obtain⟨i1,i2,i3⟩:=gJ hx.pr hc;have hld:=h.ld;simp only[List.head?_cons,Option.map_some] at hld;have hvk:=hl.ok _ (de lss k hk);have e0:dD p (aC p t.c) t::ts.map (dD p (aC p t.c))=(t::ts).map (dD p (aC p t.c)):=rfl;refine⟨⟨hk,by rw[hld];rfl⟩,?_,i3,λφ=>?_,?_,λu hu=>?_,λu hu=>?_⟩
 ·show aL R ((aq o ov (lss.getD k []) (lss.getD k []).length).getD (0,aM)).1 ((aq o ov (lss.getD k []) (lss.getD k []).length).getD (0,aM)).2.2=aE R t;rw[hld];exact vy hx.n3 hx.n0 (h.gd t (by simp))
 ·have e1:(bq p o ov N R hx lss hl).iv k=aC p t.c:=by show aC p ((aq o ov (lss.getD k []) (lss.getD k []).length).getD (0,aM)).2.1=_;rw[hld];rfl
  have e2:Gb.ln φ ((bq p o ov N R hx lss hl).g k)=bV R φ (t::ts):=by rw[CB φ hp,vz (Q:=200) hx.n0 hx.n3 (λi u hu=>⟨(hvk.canon i).len u hu,hvk.nn i u hu,hvk.deg i u hu⟩) φ R (He _)];rfl
  rw[e0,e1,e2];exact vA φ (t::ts)
 ·rw[e0];unfold Dn;rw[List.pairwise_map];exact h.dn
 ·rw[e0] at hu;obtain⟨v,hv,rfl⟩:=H8.1 hu;have c:=h.co v hv;have:=lH hx.pr (show 1<=v.c by omega) c.2 i1 i2;show 0<v.c*aC p t.c%p/\v.c*aC p t.c%p<p;omega
 ·rw[e0] at hu;obtain⟨v,hv,rfl⟩:=H8.1 hu;have g:=h.gd v hv;exact⟨g.k,g.a,g.b,g.d,hd v hv,g.z,g.pl0,g.pl,g.n1,g.n2⟩
theorem BU{p o ov:Int}{N R:Nat}(hx:bj p o ov N R){lss:List (List (List Tm))}(hl:cF p o N R lss){k:Nat}(h:mP p o ov N R 200 (lss.getD k []) []):¬(bq p o ov N R hx lss hl).live k:=λhv=>by have h2:=hv.2;rw[h.ld] at h2;simp at h2
structure im{p o ov:Int}(G:Gb.bw (Gb.bi o ov) p)(N R k:Nat)(ms:List Mm)(qs:List Pq)(ix:Nat->Nat):Prop where
 mki:jj R ms qs
 mb:∀i (h:i<ms.length),fM G N R (ix i) ms[i].L ms[i].r
 all:∀j,j<k->G.live j->∃i,i<ms.length/\ix i=j
 ml:ms.length<=k
 ql:qs.length<=k*k
theorem im.nil{p o ov:Int}(G:Gb.bw (Gb.bi o ov) p)(N R:Nat):im G N R 0 [] [] id:=⟨jj.nil R,λi h=>by simp at h,λj h=>by omega,by simp,by simp⟩
theorem im.skip{p o ov:Int}{G:Gb.bw (Gb.bi o ov) p}{N R k:Nat}{ms:List Mm}{qs:List Pq}{ix:Nat->Nat}(h:im G N R k ms qs ix)(hn:¬G.live k):im G N R (k+1) ms qs ix:=
 ⟨h.mki,h.mb,λj hj hv=>h.all j (Nat.lt_of_le_of_ne (by omega) λe=>hn (e ▸ hv)) hv,by have:=h.ml;omega,by have:=h.ql;have:k*k<=(k+1)*(k+1):=Nat.mul_le_mul (by omega) (by omega);omega⟩
theorem im.step{p o ov:Int}{G:Gb.bw (Gb.bi o ov) p}{N R k:Nat}{ms:List Mm}{qs srt:List Pq}{ix:Nat->Nat}{f:Mm}{k0 k1 k2:Int}{dg:Nat->Int}{n:Nat}(h:im G N R k ms qs ix)(hm:fM G N R k f.L f.r)(hg:f.gone=false)(hne:∀x∈ms,x.blk≠f.blk)(hn:f.L.pl.toNat=n)(hs:srt.Perm ((jk ms n).map λx=>dN k0 k1 k2 dg x f)):∃ix',im G N R (k+1) (ms.map (cE f.L)++[f]) (qs.filter (λq=>!io ms f.L q)++bY [] srt) ix':=by
 subst hn;have hf:=(hm.gd f.L (by simp)).ldb;refine⟨λi=>if i<ms.length then ix i else k,h.mki.step hf hg hne hs,λi hi=>?_,λj hj hv=>?_,by have:=h.ml;simp;omega,?_⟩
 ·by_cases hi2:i<ms.length
  ·rw[if_pos hi2];rw[List.getElem_append_left (by simpa using hi2),List.getElem_map,(fp f.L _).1,(fp f.L _).2.2];exact h.mb i hi2
  ·rw[if_neg hi2];rw[List.getElem_append_right (by simp;omega)];have e:i-(ms.map (cE f.L)).length=0:=by simp at hi⊢;omega
   simp only[e,List.getElem_cons_zero];exact hm
 ·by_cases e:j=k
  ·subst e;exact⟨ms.length,by simp,by rw[if_neg (by omega)]⟩
  ·obtain⟨i,hi,e2⟩:=h.all j (by omega) hv;exact⟨i,by simp;omega,by rw[if_pos hi];exact e2⟩
 ·have:=CA (qs:=qs) (T:=λq=>!io ms f.L q) hs;have h1:=h.ml;have h2:=h.ql;have:(k+1)*(k+1)=k*k+2*k+1:=by grind
  omega
theorem vB{W:World}{a c:Addr}{u v x:Value}(h:W.cell? a=some u)(hc:W.cell? c=some v)(hne:u≠v):(W.setCell c x).cell? a=some u:=by
 rw[World.cell?_setCell_other]
 ·exact h
 ·intro e;rw[<-e,hc] at h;exact hne (by simpa using h.symm)
def cH(W:World)(cb:Nat):Prop:=W.heap[cb]?=some (.cells #[.pointer none] 88 (0,0))
theorem cH.new(X:World):cH (X.alloc (.cells #[.pointer none] 88)) X.heap.size:=heap_alloc_new X _
theorem cH.lt{W:World}{cb:Nat}(h:cH W cb):cb<W.heap.size:=by unfold cH at h;apply Ib;intro hle;rw[Array.getElem?_eq_none hle] at h;simp at h
theorem cH.below{W W':World}{cb:Nat}(h:cH W cb)(hb:Below W.heap.size W W'):cH W' cb:=(hb.block cb h.lt).trans h
theorem cH.cell{W:World}{cb:Nat}(h:cH W cb):W.cell? ⟨cb,0,none⟩=some (.pointer none):=by rw[cell_of_row _ cb _ _ 88 (0,0) h];simp
theorem cH.fz{W:World}{cb:Nat}(h:cH W cb):W.frozen? ⟨cb,0,none⟩=false:=by unfold cH at h;unfold World.frozen?;simp[h]
theorem cH.al{W:World}{cb:Nat}{A:Obj}(h:cH W cb):cH (W.alloc A) cb:=h.below af
theorem cH.dr{W:World}{cb:Nat}(h:cH W cb):cH W.drew cb:=h
def lq(p o ov:Int)(N R:Nat)(w wx:World)(cb:Nat):Prop:=∃w0 ob sv mb g us dv,Below w.heap.size w w0/\iK w0 ob p o ov N R sv/\fI w0 dv R (λ_=>0)/\Below w0.heap.size w0 wx/\bH p w0.heap.size wx mb ob R g dv (.slice none 0 0) us [] []/\wx.cell? ⟨cb,0,none⟩=some (.pointer (some ⟨mb,0,none⟩))/\¬cX wx 88 cb
theorem lq.drew{p o ov:Int}{N R:Nat}{w wx:World}{cb:Nat}(h:lq p o ov N R w wx cb):lq p o ov N R w wx.drew cb:=by obtain⟨w0,ob,sv,mb,g,us,dv,h1,h2,h3,h4,h5,h6,h7⟩:=h;exact⟨w0,ob,sv,mb,g,us,dv,h1,h2,h3,h4.drew,h5.next (Hf _ _).drew,h6,h7⟩
theorem BR{p o ov:Int}{N R:Nat}{w w0 W:World}{ob mb g:Nat}{sv dv:Value}{us:List Value}(h1:Below w.heap.size w w0)(h2:iK w0 ob p o ov N R sv)(h3:fI w0 dv R λ_=>0)(h4:Below w0.heap.size w0 W)(h5:bH p w0.heap.size W mb ob R g dv (.slice none 0 0) us [] []):lq p o ov N R w (W.alloc (.cells #[.pointer (some ⟨mb,0,none⟩)] 88)) W.heap.size:=by refine⟨w0,ob,sv,mb,g,us,dv,h1,h2,h3,h4.trans (af.mono h4.size),h5.next af,?_,λh=>h _ (heap_alloc_new W _)⟩;rw[cell_of_row _ W.heap.size _ _ 88 (0,0) (heap_alloc_new W _)];simp
theorem vC(W:World)(cb:Nat)(x:Value):ao (λk=>k=cb) W (W.setCell ⟨cb,0,none⟩ x):=
 ⟨rfl,rfl,rfl,by simp[World.setCell],λk _ hn=>Below.heap_setCell _ _ _ _ hn⟩
theorem BS{p o ov:Int}{N R:Nat}{w w0 W:World}{ob mb g cb:Nat}{sv dv:Value}{us:List Value}(h1:Below w.heap.size w w0)(h2:iK w0 ob p o ov N R sv)(h3:fI w0 dv R λ_=>0)(h4:Below w0.heap.size w0 W)(h5:bH p w0.heap.size W mb ob R g dv (.slice none 0 0) us [] [])(ha:cH w0 cb)(hcb:w.heap.size<=cb):lq p o ov N R w (W.setCell ⟨cb,0,none⟩ (.pointer (some ⟨mb,0,none⟩))) cb:=by
 have hs:(w0.setCell ⟨cb,0,none⟩ (.pointer (some ⟨mb,0,none⟩))).heap.size=w0.heap.size:=by simp[World.setCell]
 have ha2:=ha.below h4;have hf:=vC W cb (.pointer (some ⟨mb,0,none⟩));have hf0:=vC w0 cb (.pointer (some ⟨mb,0,none⟩));have hlt:=ha.lt;have hk:bO dY W cb:=lI ha2 λu hu=>by simp at hu;subst hu;intro x e;cases e
 have hT:∀{T:TypeId},88≠T->cX W T cb:=λhT ai e=>by rw[show W.heap[cb]?=_ from ha2] at e;simp only[H6,Obj.cells.injEq] at e;exact hT e.2.1
 have hK:∀k,k=cb->bO dY W k:=λk e=>by rw[e];exact hk
 refine⟨w0.setCell ⟨cb,0,none⟩ (.pointer (some ⟨mb,0,none⟩)),ob,sv,mb,g,us,dv,h1.setCell hcb _,?_,?_,?_,?_,?_,?_⟩
 ·have hc:=ha.cell;obtain⟨⟨l,c0,c1,c2,c3,c4⟩,hsl⟩:=h2;have hcx:∀{b j:Nat}{u:Value},(∀q,u≠.pointer q)->w0.cell? ⟨b,j,none⟩=some u->(w0.setCell ⟨cb,0,none⟩ (.pointer (some ⟨mb,0,none⟩))).cell? ⟨b,j,none⟩=some u:=λhu h=>vB h hc (hu none);obtain⟨sa,sc,rfl,hse⟩:=hsl;refine⟨⟨by rw[hs];exact l,hcx (by simp) c0,hcx (by simp) c1,hcx (by simp) c2,hcx (by simp) c3,hcx (by simp) c4⟩,?_⟩;refine⟨sa,sc,rfl,λhp=>?_⟩;obtain⟨b,off,e1,hlt2,hi⟩:=hse hp;exact⟨b,off,e1,by rw[hs];exact hlt2,λi hi2=>hcx (by simp) (hi i hi2)⟩
 ·have hc:=ha.cell;obtain⟨b,off,c,e1,e2⟩:=h3;exact⟨b,off,c,e1,λpl hp=>vB (e2 pl hp) hc (by simp)⟩
 ·refine⟨h4.os,h4.tape,h4.output,by rw[hs];simpa [World.setCell] using h4.size,λk hk2=>?_⟩;rw[hs] at hk2;have e:=h4.block k hk2;simp only[World.setCell,Array.getElem?_modify,e]
 ·rw[hs];refine⟨hf.own h5.box λk hk2 e=>?_,h5.dvs,h5.mks.frm hf hK λk e=>by rw[e];exact⟨hT (by decide),hT (by decide)⟩,bD.nil _ _⟩;have:=Hd h5.box k hk2;omega
 ·exact World.cell?_setCell_same' W ⟨cb,0,none⟩ _ (by rw[ha2.cell];rfl)
 ·intro hn;refine hn #[.pointer (some ⟨mb,0,none⟩)] ?_;simp only[World.setCell,Array.getElem?_modify];rw[show W.heap[cb]?=_ from ha2];simp
end Go.Proofs.YtglijodcbdcngaaGreat
