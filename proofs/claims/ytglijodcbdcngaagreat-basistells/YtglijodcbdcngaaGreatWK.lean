/- LeadOf of the reference. -/
import Derived.Test.YtglijodcbdcngaaGreatPP
import Derived.Test.YtglijodcbdcngaaGreatTL
import Derived.Test.YtglijodcbdcngaaGreatH
import Derived.Test.YtglijodcbdcngaaGreatPI
set_option maxHeartbeats 2000000
set_option maxRecDepth 100000
namespace Go.Proofs.YtglijodcbdcngaaGreat
set_option linter.unusedSimpArgs false
set_option linter.unusedVariables false
open Go.Proofs.Tryz Go.RowKit
def dk:Ld->Int
 |none=>0
 |some (_,u)=>u.1
def ce:Ld->List Int
 |none=>[]
 |some (_,u)=>u.2
def cZ(o ov:Int)(st:Ld)(i:Nat)(f:List Tm)(m:Nat):Ld:=if m=0 then st else dG o ov st i f
theorem yJ(o ov:Int)(st:Ld)(i:Nat)(f:List Tm):cZ o ov st i f 0=st:=rfl
theorem yK(o ov:Int)(st:Ld)(i:Nat)(f:List Tm):cZ o ov st i f f.length=dG o ov st i f:=by
 unfold cZ;cases f with
 |nil=>simp[dG]
 |cons t ts=>rw[if_neg (by simp)]
theorem yL{o ov:Int}{st:Ld}{i:Nat}{f:List Tm}{m:Nat}(hm:m<f.length)(h:cZ o ov st i f m=none):cZ o ov st i f (m+1)=some (i,f.getD m aM):=by
 cases f with
 |nil=>simp at hm
 |cons t ts=>
  rcases m with _|m
  ·rw[yJ] at h;subst h;simp[cZ,dG]
  ·unfold cZ at h;rw[if_neg (by omega)] at h;simp only[dG] at h;split at h
   ·simp at h
   ·split at h<;>simp at h
theorem yM{o ov:Int}{N:Nat}{st:Ld}{i:Nat}{f:List Tm}{m j:Nat}{u:Tm}(hov:ov=1\/ov=2)(hf:fw o f)(hl:cT N f)(hm:m<f.length)(hst:∀j' u',st=some (j',u')->j'<i/\u'.2.length=N)(h:cZ o ov st i f m=some (j,u)):cZ o ov st i f (m+1)=if gI o ov i (f.getD m aM).2 j u.2 then some (i,f.getD m aM) else some (j,u):=by
 cases f with
 |nil=>simp at hm
 |cons t ts=>
  rcases m with _|m
  ·rw[yJ] at h;subst h;obtain⟨hj,hu⟩:=hst j u rfl;have htl:t.2.length=u.2.length:=by rw[hl t (by simp),hu]
   have hl2:cZ o ov (some (j,u)) i (t::ts) 1=if ov=1/\0<aF o t.2 u.2 then some (i,t) else some (j,u):=by unfold cZ;rw[if_neg (by omega)];rfl
   have hg:(t::ts).getD 0 aM=t:=rfl;rw[hl2,hg];unfold gI;rcases hov with rfl|rfl
   ·rw[if_neg (show¬((1:Int)=2/\(i:Int)≠j) by omega)];by_cases he:t.2=u.2
    ·have hz:aF o t.2 u.2=0:=(fj o t.2 u.2 htl).2 he;rw[if_neg (by rw[hz];omega),if_pos (show fi t.2 u.2=true from Hi he),Hh (show¬(i:Int)<j by omega)];simp
    ·rw[if_neg (show¬fi t.2 u.2=true by unfold fi;simpa using he)];unfold cL;by_cases hp:0<aF o t.2 u.2
     ·rw[if_pos ⟨rfl,hp⟩,Hi hp];rfl
     ·rw[if_neg (λh=>hp h.2),Hh hp];rfl
   ·rw[if_neg (show¬((2:Int)=1/\0<aF o t.2 u.2) by omega),if_pos (show (2:Int)=2/\(i:Int)≠j by omega),Hh (show¬(i:Int)<j by omega)];simp
  ·have h1:cZ o ov st i (t::ts) (m+1+1)=some (j,u):=by unfold cZ at h⊢;rw[if_neg (by omega)] at h⊢;exact h
   rw[h1];have hm2:m<ts.length:=by simpa using hm
   have hg:(t::ts).getD (m+1) aM=ts.getD m aM:=rfl;rw[hg];have hmem:ts.getD m aM∈ts:=eA ts m hm2;have hlt:=hf.1 _ hmem;have hxl:(ts.getD m aM).2.length=N:=hl _ (List.mem_cons_of_mem _ hmem);have htN:t.2.length=N:=hl t (by simp);generalize ts.getD m aM=x at hlt hxl;have hanti:¬0<aF o x.2 t.2:=by rw[kA];omega
   have hne:x.2≠t.2:=by intro e;have:=(fj o t.2 x.2 (by omega)).2 e.symm;omega
   have hb:gI o ov i x.2 j u.2=false:=by
    unfold cZ at h;rw[if_neg (by omega)] at h;simp only[dG] at h;have key:∀{j':Nat}{u':Tm},j'=i/\u'=t->gI o ov i x.2 j' u'.2=false:=by rintro j' u' ⟨rfl,rfl⟩;unfold gI;rw[if_neg (λh=>h.2 rfl),if_neg (show¬fi x.2 u'.2=true by unfold fi;simpa using hne)];unfold cL;exact Hh hanti
    split at h
    ·simp only[H6,Prod.mk.injEq] at h;exact key ⟨h.1.symm,h.2.symm⟩
    ·rename_i j0 u0;split at h
     ·simp only[H6,Prod.mk.injEq] at h;exact key ⟨h.1.symm,h.2.symm⟩
     ·rename_i hno;simp only[H6,Prod.mk.injEq] at h;obtain⟨rfl,rfl⟩:=h;obtain⟨hj,hu⟩:=hst j0 u0 rfl;unfold gI;rcases hov with rfl|rfl
      ·rw[if_neg (show¬((1:Int)=2/\(i:Int)≠j0) by omega)];split
       ·exact Hh (by omega)
       ·unfold cL;refine Hh (λhp=>hno ⟨rfl,jQ o t.2 x.2 u0.2 (by omega) (by omega) hlt hp⟩)
      ·rw[if_pos (show (2:Int)=2/\(i:Int)≠j0 by omega)];exact Hh (by omega)
   rw[hb];simp
structure kq(w wr:World)(p n o v:Int)(st:Ld):Prop where
 below:Below w.heap.size w wr
 box:aX wr w.heap.size p n o v
 res:wr.ownsRow w.heap.size 54 2 (.slice (some ⟨w.heap.size+1,0,none⟩) 1 1) 1 [.int .i64 0,.slice none 0 0]
 own:∃ea ec,wr.ownsRow w.heap.size 54 2 (.slice (some ⟨w.heap.size+1+1,0,none⟩) 1 1) 1 [.int .i64 (dk st),.slice ea (ce st).length ec]/\Sl w (.slice ea (ce st).length ec) (ce st)
theorem kq.next{w wr w':World}{p n o v:Int}{st:Ld}(h:kq w wr p n o v st)(hb:Below wr.heap.size wr w'):kq w w' p n o v st:=by obtain⟨ea,ec,h1,h2⟩:=h.own;exact⟨h.below.trans (hb.mono h.below.size),h.box.below hb,aH h.res hb,ea,ec,aH h1 hb,h2⟩
theorem kq.put{w wr:World}{p n o v:Int}{st:Ld}(h:kq w wr p n o v st)(i:Nat)(t:Tm)(ea:Option Addr)(ec:Nat)(hs:Sl w (.slice ea t.2.length ec) t.2):kq w ((wr.setCell ⟨w.heap.size+1+1,0,none⟩ (.int .i64 t.1)).setCell ⟨w.heap.size+1+1,1,none⟩ (.slice ea t.2.length ec)) p n o v (some (i,t)):=by
 obtain⟨ea0,ec0,h1,_⟩:=h.own;have s1:=h1.stored 0 (.int .i64 t.1);have s2:=s1.1.stored 1 (.slice ea t.2.length ec);have hg:=cj s1.2 s2.2;have hlt:=h.box.1;refine⟨h.below.trans (ck hg (by omega) h.below.size),?_,h.res.kept hg (Or.inr (by simp[Value.ownBlock])),ea,ec,?_,hs⟩
 ·have far:=λo=>iX (o:=o) hg hlt (show w.heap.size≠w.heap.size+1+1 by omega);obtain⟨_,b0,b1,b2,b3⟩:=h.box;exact⟨Hj hlt hg.size,by rw[far];exact b0,by rw[far];exact b1,by rw[far];exact b2,by rw[far];exact b3⟩
 ·have:=s2.1;simpa [dk,ce] using this
theorem kq.first(w:World)(p n o v:Int):kq w (((w.alloc (.cells #[.int .i64 p,.int .i64 n,.int .i64 o,.int .i64 v] 23)).alloc (.cells #[.int .i64 0,.slice none 0 0] 54)).alloc (.cells #[.int .i64 0,.slice none 0 0] 54)) p n o v none:=by
 have h1:=nv (w:=w.alloc (.cells #[.int .i64 p,.int .i64 n,.int .i64 o,.int .i64 v] 23)) (B:=w.heap.size) (by simp) 0 (.slice none 0 0);have h2:=nv (w:=(w.alloc (.cells #[.int .i64 p,.int .i64 n,.int .i64 o,.int .i64 v] 23)).alloc (.cells #[.int .i64 0,.slice none 0 0] 54)) (B:=w.heap.size) (by simp;omega) 0 (.slice none 0 0);refine⟨cW.trans (af.mono cW.size),((aX.new w p n o v _).below af).below af,?_,none,0,?_,none,0,rfl,λh=>by simp[ce] at h⟩
 ·have:=aH h1 (af (A:=.cells #[.int .i64 0,.slice none 0 0] 54));simpa using this
 ·simpa [dk,ce] using h2
structure jD(w wr:World)(p n o v:Int):Prop where
 below:Below w.heap.size w wr
 box:aX wr w.heap.size p n o v
 res:wr.ownsRow w.heap.size 54 2 (.slice (some ⟨w.heap.size+1,0,none⟩) 1 1) 1 [.int .i64 0,.slice none 0 0]
theorem jD.next{w wr w':World}{p n o v:Int}(h:jD w wr p n o v)(hb:Below wr.heap.size wr w'):jD w w' p n o v:=
 ⟨h.below.trans (hb.mono h.below.size),h.box.below hb,aH h.res hb⟩
theorem jD.first(w:World)(p n o v:Int):jD w ((w.alloc (.cells #[.int .i64 p,.int .i64 n,.int .i64 o,.int .i64 v] 23)).alloc (.cells #[.int .i64 0,.slice none 0 0] 54)) p n o v:=by have h1:=nv (w:=w.alloc (.cells #[.int .i64 p,.int .i64 n,.int .i64 o,.int .i64 v] 23)) (B:=w.heap.size) (by simp) 0 (.slice none 0 0);exact⟨cW,(aX.new w p n o v _).below af,by simpa using h1⟩
theorem jD.cells{w wr:World}{p n o v:Int}(h:jD w wr p n o v):wr.cell? ⟨w.heap.size+1,0,none⟩=some (.int .i64 0)/\wr.cell? ⟨w.heap.size+1,1,none⟩=some (.slice none 0 0)/\wr.frozen? ⟨w.heap.size+1,0,none⟩=false/\wr.frozen? ⟨w.heap.size+1,1,none⟩=false:=
 ⟨h.res.cellAt 0 (by omega),h.res.cellAt 1 (by omega),h.res.frozenAt 0,h.res.frozenAt 1⟩
theorem jD.put{w wr:World}{p n o v:Int}(h:jD w wr p n o v)(c:Int)(u:Value):Below w.heap.size w ((wr.setCell ⟨w.heap.size+1,0,none⟩ (.int .i64 c)).setCell ⟨w.heap.size+1,1,none⟩ u)/\((wr.setCell ⟨w.heap.size+1,0,none⟩ (.int .i64 c)).setCell ⟨w.heap.size+1,1,none⟩ u).cell? ⟨w.heap.size+1,0,none⟩=some (.int .i64 c)/\((wr.setCell ⟨w.heap.size+1,0,none⟩ (.int .i64 c)).setCell ⟨w.heap.size+1,1,none⟩ u).cell? ⟨w.heap.size+1,1,none⟩=some u:=by have s1:=h.res.stored 0 (.int .i64 c);have s2:=s1.1.stored 1 u;exact⟨h.below.trans (ck (cj s1.2 s2.2) (by omega) h.below.size),s2.1.cellAt 0 (by omega),s2.1.cellAt 1 (by omega)⟩
theorem Cd{w:World}{c1:Int}{s1:Value}{e1:List Int}{T:TypeId}(h1:Sl w s1 e1):Pl (w.alloc (.cells #[.int .i64 c1,s1] T)) (.slice (some ⟨w.heap.size,0,none⟩) 1 1) [(c1,e1)]:=by
 refine⟨_,1,rfl,He _,λ_=>⟨w.heap.size,0,rfl,by simp,λi hi=>?_⟩⟩;rcases i with _|i
 ·exact⟨by simp[go_sem],s1,by simp[go_sem],h1.below bp⟩
 ·simp at hi
def F0:List Int->Int
 |[]=>-1
 |z::_=>z
def Ha(L:List Int):Prop:=∀y∈L,y=F0 L
theorem F3{w w':World}{n:Nat}(h:w'.ownsRow w.heap.size 31 1 (.slice (some ⟨w.heap.size,0,none⟩) n n) n (madeCells (Value.cells (.slice none 0 0)) (n*1)).toList):Vl w' (.slice (some ⟨w.heap.size,0,none⟩) n n) (List.replicate n []):=by
 have hlt:=(Hd h w.heap.size rfl).2;refine⟨_,n,by rw[List.length_replicate],λ_=>⟨w.heap.size,0,rfl,hlt,λi hi=>⟨.slice none 0 0,?_,?_⟩⟩⟩
 ·rw[List.length_replicate] at hi;rw[Hy,h.cellAt i (by omega)];simp[madeCells,Value.cells,hi,Nat.mod_one]
 ·rw[List.length_replicate] at hi;have e:(List.replicate n ([]:List Tm)).getD i []=[]:=by simp[Hs,hi]
  rw[e];exact Pl.empty _
def eI(p o:Int)(R:Nat)(cs:List (List Tm))(vss:List (List (List Tm))):Nat->List (List Tm)
 |0=>List.replicate R []
 |k+1=>ch p o (eI p o R cs vss k) (aN p o (cs.getD k []) (vss.getD k []))
def kF(p o:Int)(c f:List Tm):Bool:=(decide (0<(c.length:Int))&&decide (0<(f.length:Int))&&decide (200<cI (-1) c+cI (-1) f))||bX (aG p o (aB p c f))
def If(p o rank:Int)(cs:List (List Tm))(vss:List (List (List Tm))):Decidable ((∃i,i<vss.length/\∃k:Nat,(k:Int)<rank/\kF p o (cs.getD i []) ((vss.getD i []).getD k [])=true)\/(eI p o rank.toNat cs vss vss.length).any bX=true):=
 decidable_of_iff ((List.range vss.length).any (λi=>(List.range rank.toNat).any λk=>kF p o (cs.getD i []) ((vss.getD i []).getD k []))=true\/(eI p o rank.toNat cs vss vss.length).any bX=true)
  (or_congr (by
   simp only[List.any_eq_true,List.mem_range];exact⟨fun⟨i,h1,k,h2,h3⟩=>⟨i,h1,k,by omega,h3⟩,fun⟨i,h1,k,h2,h3⟩=>⟨i,h1,k,by omega,h3⟩⟩) Iff.rfl)
def eT(p n o v rank:Int)(cs:List (List Tm))(vss:List (List (List Tm))):Int:=
 if bQ p n o v rank vss≠0 then bQ p n o v rank vss else if cs.length≠vss.length then 1 else if jg p n o v cs≠0 then jg p n o v cs else haveI:=If p o rank cs vss;if (∃i,i<vss.length/\∃k:Nat,(k:Int)<rank/\kF p o (cs.getD i []) ((vss.getD i []).getD k [])=true)\/(eI p o rank.toNat cs vss vss.length).any bX=true then 2 else 0
theorem uT{p n o v rank:Int}{vss:List (List (List Tm))}(h:bQ p n o v rank vss=0):bo p n o v=0/\(1<=rank/\rank<=40)/\vss.length<=60/\∀u∈vss,(u.length:Int)=rank/\∀f∈u,cz p n o f=0:=by
 unfold bQ at h;by_cases hr:bo p n o v=0
 ·rw[if_neg (by simpa using hr)] at h;unfold gf at h;cases hb:bW rank 1 40
  ·rw[if_pos hb] at h;exact absurd h (by decide)
  ·rw[if_neg (by rw[hb];simp)] at h;by_cases hl:60<vss.length
   ·rw[if_pos hl] at h;exact absurd h (by decide)
   ·rw[if_neg hl] at h;refine⟨hr,by simpa [bW] using hb,by omega,λu hu=>?_⟩;have h1:=yI h u hu;unfold eM at h1;by_cases hu2:(u.length:Int)=rank
    ·rw[if_neg (by simpa using hu2)] at h1;exact⟨hu2,se h1⟩
    ·rw[if_pos hu2] at h1;exact absurd h1 (by decide)
 ·rw[if_pos hr] at h;exact absurd h hr
theorem F4{ts:List Tm}(h:bX ts=false):ts.length<=2000:=by unfold bX at h;simp at h;omega
theorem dW{P:Program}{ops:Array Oper}{Q:Exit->Act->World->Prop}{md:Region.Mode}{S:World->Prop}{i:Nat}{oi:Oper}{d:Option Tmp}{v:Value}{fuel:Nat}{listed:Array Bool}{a:Act}{w:World}(hi:ops[i]?=some oi)(hd:oi.dst=d)(hs:Region.noSelect ops=true)(hf:Region.free md ops listed i=true)(hr:(Region.ready md ops listed).contains i=true)(hQ:∀c a w,Q (.panic c) (a.put d v) w->Q (.panic c) a w)(hy:YieldsIf P ops S oi v a)(hS:S w)(h:wpAnyH P md ops Q S fuel (listed.setIfInBounds i true) (a.put d v) w):wpAnyH P md ops Q S (fuel+1) listed a w:=by subst hd;exact wpAnyH_take hi hs hf hr hQ hy hS h
theorem F5{p o:Int}{N:Nat}(he:aZ p=0){c f:List Tm}(hc:cN p o N c)(hf:cN p o N f):kF p o c f=bX (aG p o (aB p c f)):=by
 unfold kF;cases c with
 |nil=>simp
 |cons t c=>
  cases f with
  |nil=>simp
  |cons u f=>
   cases hg:bX (aG p o (aB p (t::c) (u::f)))
   ·rw[xS he hc.canon hf.canon] at hg;have h2:=of_decide_eq_false (Bool.or_eq_false_iff.1 hg).1;have b1:=jG t.2 (λx hx=>by have:=hc.bd t (by simp) x hx;omega);have b2:=jG u.2 (λx hx=>by have:=hf.bd u (by simp) x hx;omega);have a1:cI (-1) (t::c)<=ag t.2:=pd _ _ (lB hc.canon) (by omega);have a2:cI (-1) (u::f)<=ag u.2:=pd _ _ (lB hf.canon) (by omega);have h3:¬200<cI (-1) (t::c)+cI (-1) (u::f):=by omega
    rw[Hh h3,Bool.and_false,Bool.false_or]
   ·rw[Bool.or_true]
def cU(p o:Int)(cs:List (List Tm))(vss:List (List (List Tm)))(k i:Nat):List Tm:=aG p o (aB p (cs.getD i []) ((vss.getD i []).getD k []))
def dQ(p o:Int)(cs:List (List Tm))(vss:List (List (List Tm)))(k m:Nat):List (List Tm):=(List.range m).map (cU p o cs vss k)
structure da(p o:Int)(N R:Nat)(cs:List (List Tm))(vss:List (List (List Tm))):Prop where
 c:∀c∈cs,cN p o N c
 v:∀u∈vss,u.length=R/\∀f∈u,cN p o N f
 l:cs.length=vss.length
theorem da.at{p o:Int}{N R:Nat}{cs:List (List Tm)}{vss:List (List (List Tm))}(h:da p o N R cs vss){k i:Nat}(hi:i<vss.length)(hk:k<R):cN p o N (cs.getD i [])/\cN p o N ((vss.getD i []).getD k []):=by have h1:=h.v _ (de vss i hi);exact⟨h.c _ (cG cs i (by rw[h.l];exact hi)),h1.2 _ (cG _ k (by rw[h1.1];exact hk))⟩
theorem da.pr{p o:Int}{N R:Nat}{cs:List (List Tm)}{vss:List (List (List Tm))}(hp:2<=p)(h:da p o N R cs vss){k i:Nat}(hi:i<vss.length)(hk:k<R):bk p o N (cU p o cs vss k i)/\Bd (cU p o cs vss k i):=by obtain⟨h1,h2⟩:=h.at hi hk;refine⟨cP.col hp (cP.prod hp h1.canon.okl h2.canon.okl),λt ht x hx=>?_⟩;obtain⟨y,hy,ey⟩:=ke ht;rw[ey] at hx;exact(rj hp h1.canon.len h2.canon.len h1.bd h2.bd y hy).2.1 x hx
theorem yN{p:Int}{n:Nat}:∀{fss:List (List Tm)},(∀f∈fss,cP p n f)->cP p n fss.flatten
 |[],_=>⟨λt ht=>by simp at ht,λt ht=>by simp at ht⟩
 |f::r,h=>by rw[List.flatten_cons];exact(h f (by simp)).append (yN (λg hg=>h g (by simp[hg])))
theorem F6(p o:Int)(cs:List (List Tm))(vss:List (List (List Tm)))(k m:Nat):dQ p o cs vss k (m+1)=dQ p o cs vss k m++[cU p o cs vss k m]:=sk _ _
theorem ps{p o:Int}{cs:List (List Tm)}{vss:List (List (List Tm))}{k m:Nat}{f:List Tm}(h:f∈dQ p o cs vss k m):∃i,i<m/\f=cU p o cs vss k i:=by obtain⟨i,hi,e⟩:=H8.1 h;exact⟨i,List.mem_range.1 hi,e.symm⟩
theorem da.okl{p o:Int}{N R:Nat}{cs:List (List Tm)}{vss:List (List (List Tm))}(hp:2<=p)(h:da p o N R cs vss){k m:Nat}(hm:m<=vss.length)(hk:k<R):cP p N (dQ p o cs vss k m).flatten:=
 yN (λf hf=>by obtain⟨i,hi,rfl⟩:=ps hf;exact(h.pr hp (by omega) hk).1.okl)
theorem mo{p o:Int}{N R:Nat}{cs:List (List Tm)}{vss:List (List (List Tm))}(hp:2<=p)(h:da p o N R cs vss){k:Nat}(hk:k<R):∀m,m<=vss.length->(eI p o R cs vss m).length=R/\(eI p o R cs vss m).getD k []=aG p o (dQ p o cs vss k m).flatten
 |0,_=>⟨by simp[eI],by simp[eI,dQ,Hs,hk];rfl⟩
 |m+1,hm=>by
  obtain⟨h1,h2⟩:=mo hp h hk m (by omega);have hv:=h.v _ (de vss m (by omega));have hpl:(aN p o (cs.getD m []) (vss.getD m [])).length=R:=by unfold aN;rw[Ia];exact hv.1
  refine⟨by simp only[eI];rw[iu (by rw[h1,hpl])];exact h1,?_⟩;simp only[eI];rw[lU (by rw[h1,hpl]) (by rw[h1];exact hk),h2];have e:(aN p o (cs.getD m []) (vss.getD m [])).getD k []=cU p o cs vss k m:=by unfold aN cU;exact kh _ _ k (by rw[hv.1];exact hk)
  rw[e,F6,List.flatten_append];have e2:[cU p o cs vss k m].flatten=cU p o cs vss k m:=by simp
  rw[e2];have o1:=h.okl hp (k:=k) (m:=m) (by omega) hk;have o2:=(h.pr hp (i:=m) (by omega) hk).1.okl;exact bT.col hp ((cP.col (o:=o) hp o1).okl.append o2) (o1.append o2) (bT.append (ni p o _) (bT.refl p _))
def eo(p o:Int)(cs:List (List Tm))(vss:List (List (List Tm)))(m k:Nat):Int:=if (dQ p o cs vss k m).any bX=true\/2000<(aG p o (dQ p o cs vss k m).flatten).length then 2 else 0
def iB(p o:Int)(cs:List (List Tm))(vss:List (List (List Tm)))(m k:Nat):List Tm:=if eo p o cs vss m k=0 then aG p o (dQ p o cs vss k m).flatten else []
theorem yO{p o:Int}{cs:List (List Tm)}{vss:List (List (List Tm))}{m k i:Nat}(hi:i<m)(h:bX (cU p o cs vss k i)=true):eo p o cs vss m k=2/\iB p o cs vss m k=[]:=by
 have e:eo p o cs vss m k=2:=by have hany:(dQ p o cs vss k m).any bX=true:=List.any_eq_true.2 ⟨cU p o cs vss k i,H8.2 ⟨i,List.mem_range.2 hi,rfl⟩,h⟩;unfold eo;rw[if_pos (Or.inl hany)]
 exact⟨e,by unfold iB;rw[e];rfl⟩
theorem F7{p o:Int}{cs:List (List Tm)}{vss:List (List (List Tm))}{m k:Nat}(h:∀i,i<m->bX (cU p o cs vss k i)=false):(dQ p o cs vss k m).any bX=false:=by rw[List.any_eq_false];intro f hf;obtain⟨i,hi,rfl⟩:=ps hf;rw[h i hi];simp
theorem yP{p o:Int}{cs:List (List Tm)}{vss:List (List (List Tm))}{m k:Nat}(h:2000<(aG p o (dQ p o cs vss k m).flatten).length):eo p o cs vss m k=2/\iB p o cs vss m k=[]:=by
 have e:eo p o cs vss m k=2:=by unfold eo;rw[if_pos (Or.inr h)]
 exact⟨e,by unfold iB;rw[e];rfl⟩
theorem sn{p o:Int}{cs:List (List Tm)}{vss:List (List (List Tm))}{m k:Nat}(h:∀i,i<m->bX (cU p o cs vss k i)=false)(h2:¬2000<(aG p o (dQ p o cs vss k m).flatten).length):eo p o cs vss m k=0/\iB p o cs vss m k=aG p o (dQ p o cs vss k m).flatten:=by
 have e:eo p o cs vss m k=0:=by unfold eo;rw[if_neg (by rw[F7 h];rintro (h|h);cases h;exact h2 h)]
 exact⟨e,by unfold iB;rw[e];rfl⟩
theorem F8{ts:List Tm}(h:bX ts=false):∀x∈ts,ag x.2<=200:=λx hx=>by
 by_cases h2:200<ag x.2
 ·rw[xR hx h2] at h;cases h
 ·omega
theorem yQ{p o:Int}{cs:List (List Tm)}{vss:List (List (List Tm))}{m k:Nat}(h:∀i,i<m->bX (cU p o cs vss k i)=false):bX (aG p o (dQ p o cs vss k m).flatten)=decide (2000<(aG p o (dQ p o cs vss k m).flatten).length):=by refine xQ (λx hx=>?_);obtain⟨y,hy,ey⟩:=ke hx;obtain⟨f,hf,hyf⟩:=List.mem_flatten.1 hy;obtain⟨i,hi,rfl⟩:=ps hf;rw[ey];exact F8 (h i hi) y hyf
theorem F9{E:Nat->Int}{m:Nat}(h:∀k,k<m->E k=0\/E k=2):(ee E m 0=0/\∀k,k<m->E k=0)\/(ee E m 0=2/\∃k,k<m/\E k=2):=by
 by_cases hz:∀k,k<m->E k=0
 ·exact Or.inl ⟨sg hz,hz⟩
 ·refine Or.inr ?_;have hex:∀d,d<=m->(∀k,k<d->E k=0)\/∃k,k<d/\E k≠0/\∀j,j<k->E j=0:=by
   intro d;induction d with
   |zero=>intro _;exact Or.inl (λk hk=>by omega)
   |succ d ih=>
    intro hd;rcases ih (by omega) with h1|⟨k,h1,h2,h3⟩
    ·by_cases h4:E d=0
     ·exact Or.inl (λk hk=>by
       by_cases h5:k<d
       ·exact h1 k h5
       ·rw[show k=d by omega];exact h4)
     ·exact Or.inr ⟨d,by omega,h4,h1⟩
    ·exact Or.inr ⟨k,by omega,h2,h3⟩
  rcases hex m (He _) with h1|⟨k,h1,h2,h3⟩
  ·exact absurd h1 hz
  ·have h4:E k=2:=(h k h1).resolve_left h2;exact⟨by rw[sh h1 h3 h2,h4],k,h1,h4⟩
theorem Ga(p o:Int)(cs:List (List Tm))(vss:List (List (List Tm)))(m k:Nat):eo p o cs vss m k=0\/eo p o cs vss m k=2:=by
 unfold eo;split
 ·exact Or.inr rfl
 ·exact Or.inl rfl
open Classical in
theorem Gc{p n o v:Int}{N R:Nat}{cs:List (List Tm)}{vss:List (List (List Tm))}(he:aZ p=0)(hp:2<=p)(h:da p o N R cs vss)(hv0:bQ p n o v (R:Int) vss=0)(hp0:jg p n o v cs=0):ee (eo p o cs vss vss.length) R 0=eT p n o v (R:Int) cs vss/\kU (eo p o cs vss vss.length) (iB p o cs vss vss.length) R=if eT p n o v (R:Int) cs vss=0 then eI p o R cs vss vss.length else []:=by
 have hmany:∀i,i<vss.length->∀k,k<R->kF p o (cs.getD i []) ((vss.getD i []).getD k [])=bX (cU p o cs vss k i):=λi hi k hk=>F5 he (h.at hi hk).1 (h.at hi hk).2;have hdef:eT p n o v (R:Int) cs vss=if (∃i,i<vss.length/\∃k:Nat,(k:Int)<(R:Int)/\kF p o (cs.getD i []) ((vss.getD i []).getD k [])=true)\/(eI p o R cs vss vss.length).any bX=true then 2 else 0:=by
  unfold eT;rw[if_neg (by rw[hv0];simp),if_neg (by rw[h.l];simp),if_neg (by rw[hp0];simp)];by_cases hC:(∃i,i<vss.length/\∃k:Nat,(k:Int)<(R:Int)/\kF p o (cs.getD i []) ((vss.getD i []).getD k [])=true)\/(eI p o R cs vss vss.length).any bX=true
  ·rw[if_pos hC];exact if_pos (by rw[Int.toNat_natCast];exact hC)
  ·rw[if_neg hC];exact if_neg (by rw[Int.toNat_natCast];exact hC)
 rcases F9 (E:=eo p o cs vss vss.length) (m:=R) (λk _=>Ga p o cs vss vss.length k) with ⟨h1,h2⟩|⟨h1,k,hk,h2⟩
 ·have hg:∀k,k<R->∀i,i<vss.length->bX (cU p o cs vss k i)=false:=λk hk i hi=>by
   cases hgk:bX (cU p o cs vss k i)
   ·rfl
   ·have:=(yO hi hgk).1;rw[h2 k hk] at this;exact absurd this (by decide)
  have hn:∀k,k<R->¬2000<(aG p o (dQ p o cs vss k vss.length).flatten).length:=λk hk h3=>by have:=(yP h3).1;rw[h2 k hk] at this;exact absurd this (by decide)
  have hz:eT p n o v (R:Int) cs vss=0:=by
   rw[hdef,if_neg];rintro (⟨i,hi,k,hk,h3⟩|h3)
   ·rw[hmany i hi k (by omega),hg k (by omega) i hi] at h3;cases h3
   ·obtain⟨f,hf,hgf⟩:=List.any_eq_true.1 h3;obtain⟨k,hk,rfl⟩:=List.getElem_of_mem hf;have hkR:k<R:=by
     by_cases hR:0<R
     ·rw[(mo hp h hR vss.length (He _)).1] at hk;exact hk
     ·have hR0:R=0:=by omega
      subst hR0;exfalso;have:(eI p o 0 cs vss vss.length)=[]:=by
       have hh:∀m,eI p o 0 cs vss m=[]:=by
        intro m;induction m with
        |zero=>rfl
        |succ m ih=>simp only[eI];rw[ih];rfl
       exact hh _
      rw[this] at hk;simp at hk
    have e:=(mo hp h hkR vss.length (He _)).2;rw[Hs,Ht hk,Option.getD_some] at e;rw[e,yQ (hg k hkR),Hh (hn k hkR)] at hgf;cases hgf
  refine⟨by rw[h1,hz],?_⟩;rw[if_pos hz,yG h1];by_cases hR:0<R
  ·have hlen:=(mo hp h hR vss.length (He _)).1;refine List.ext_getElem (by rw[Ia,List.length_range,hlen]) (λk hk1 hk2=>?_);rw[List.getElem_map,List.getElem_range];have hkR:k<R:=by rw[hlen] at hk2;exact hk2
   have e:=(mo hp h hkR vss.length (He _)).2;rw[Hs,Ht hk2,Option.getD_some] at e;rw[e,(sn (hg k hkR) (hn k hkR)).2]
  ·have hR0:R=0:=by omega
   subst hR0;have hh:∀m,eI p o 0 cs vss m=[]:=by
    intro m;induction m with
    |zero=>rfl
    |succ m ih=>simp only[eI];rw[ih];rfl
   rw[hh];rfl
 ·have hz:eT p n o v (R:Int) cs vss=2:=by
   rw[hdef,if_pos];by_cases hg:∀i,i<vss.length->bX (cU p o cs vss k i)=false
   ·refine Or.inr ?_;have e:=(mo hp h hk vss.length (He _));refine List.any_eq_true.2 ⟨_,cG _ k (by rw[e.1];exact hk),?_⟩;rw[e.2,yQ hg];by_cases h3:2000<(aG p o (dQ p o cs vss k vss.length).flatten).length
    ·exact Hi h3
    ·rw[(sn hg h3).1] at h2;exact absurd h2 (by decide)
   ·refine Or.inl ?_;obtain⟨i,h3⟩:=Classical.not_forall.1 hg;obtain⟨hi,h4⟩:=Classical.not_imp.1 h3;refine⟨i,hi,k,by omega,?_⟩;rw[hmany i hi k hk];simpa using h4
  refine⟨by rw[h1,hz],?_⟩;rw[hz,if_neg (by decide),yH (by rw[h1];decide)]
theorem Ge(rb cb lb:Nat)(x:Value)(fss:List (List Tm))(E:Nat->Int)(R:Nat->List Tm)(w:World)(hm:fss.length<=1000)(pf:Vl w x fss)(H:∀i w' fa fc,i<fss.length->Below w.heap.size w w'->Pl w' (.slice fa (fss.getD i []).length fc) (fss.getD i [])->Calls prog 245 #[.int .i64 i,.slice fa (fss.getD i []).length fc,.pointer (some ⟨rb,0,none⟩),.pointer (some ⟨cb,0,none⟩),.pointer (some ⟨lb,0,none⟩)] w' λe w''=>∃u,e=.returned (.tuple #[u,.int .i64 (E i)])/\Pl w'' u (R i)/\Below w'.heap.size w' w''):Calls prog 244 #[x,.func (.func 245) #[] #[.pointer (some ⟨rb,0,none⟩),.pointer (some ⟨cb,0,none⟩),.pointer (some ⟨lb,0,none⟩)]] w λe w'=>∃u,e=.returned (.tuple #[u,.int .i64 (ee E fss.length 0)])/\Vl w' u (kU E R fss.length)/\Below w.heap.size w w':=by
 have HX:=aa pf;have HH:=aa H;obtain⟨ax,cx,rfl,_⟩:=pf;obtain⟨i0,hi,hz0,hz1,hz2⟩:=info_parts Tryz.infoPolyW;clear H;go_enter func244,ntmps244;go_wp2_with (at_make;refine wpList_make_full _ rfl _ _ 33 rfl w.heap.size 31 i0 _ 1 underlying33 hi hz0 hz1 .i64 .i64 _ _ fss.length rfl rfl rfl rfl (by rw[hz2];omega) (by unfold maxLen;omega) (He _) ?_;intro w1 hown hgrow;have HV0:=aa (eX.made hown hgrow);clear hown hgrow);clear hi hz0 hz1 hz2;go_loopw [16] (λi wr=>∃(k:Nat)(us:List Value),k<=fss.length/\i=.int .i64 k/\us.length=k/\(∀j,j<k->E j=0)/\eX w wr w.heap.size fss.length us ((List.range k).map R)) (λi _=>fss.length-(intOf i).toNat);case atStart=>exact⟨0,[],Hl _,rfl,rfl,λj hj=>by omega,HV0.o⟩
 case round=>
  clear HV0;obtain⟨k,us,hk,rfl,hul,hz,hv⟩:=hrel;have HZ:=aa hz;have HV:=aa hv;have HUL:=aa hul;clear hz hv hul;by_cases hk2:k<fss.length
  ·obtain⟨b,off,fa,fc,rfl,hlt,c0,hpf⟩:=ez HX.o k hk2;have d0:=ae c0 HV.o.below;have HC:=aa (HH.o k wr fa fc hk2 HV.o.below (hpf.below HV.o.below));have HHIT:=aa (λh=>sh (E:=E) hk2 HZ.o h);generalize fss.getD k []=f at c0 d0 hpf HC;clear c0 hpf;cases he:(E k !=0)
   ·have HE0:Ic (E k=0):=by simpa [Ic] using he
    go_wp2_with (go_at_call 245;refine HC.o.mono ?_;rintro e w2 ⟨u,rfl,hu,hb2⟩;have HV2:=aa (HV.o.next hb2);have HU:=aa hu;obtain⟨ua,uc,rfl,_,_⟩:=hu;obtain⟨ov,x0,x1⟩:=HV2.o.cells (by have:=HUL.o;omega);rw[HUL.o] at x0 x1;clear hb2);go_roundw;case rel=>
     refine⟨k+1,us++[.slice ua (R k).length uc],by omega,by go_num,by rw[jT,HUL.o],λj hj=>?_,?_⟩
     ·rcases Nat.lt_or_ge j k with h|h
      ·exact HZ.o j h
      ·rw[show j=k by omega];exact HE0.o
     ·rw[sk];have h:=HV2.o.put (by have:=HUL.o;omega) _ _ HU.o;rw[HUL.o] at h;exact h
    case measure=>simp[intOf];omega
   ·have HF:Ic (ee E fss.length 0=E k):=HHIT.o (by simpa using he);have HNE:Ic (E k≠0):=by simpa [Ic] using he
    go_wp2_with (go_at_call 245;refine HC.o.mono ?_;rintro e w2 ⟨u,rfl,hu,hb2⟩;have HV2:=aa (HV.o.next hb2);obtain⟨ua,uc,rfl,_,_⟩:=hu;clear hb2);go_ret2;refine⟨.slice none 0 0,by rw[HF.o];rfl,?_,HV2.o.below⟩;rw[yH (by rw[HF.o];exact HNE.o)];exact⟨none,0,rfl,λh=>by simp at h⟩
  ·have e:k=fss.length:=by omega
   subst e;have HF:Ic (ee E fss.length 0=0):=sg HZ.o;have HD:=aa (HV.o.done HUL.o);go_wp2;go_ret2;refine⟨.slice (some ⟨w.heap.size,0,none⟩) fss.length fss.length,by rw[HF.o];rfl,?_,HV.o.below⟩;rw[yG HF.o];exact HD.o
theorem Gf(p n o v:Int)(N R q:Nat)(x y:Value)(cs:List (List Tm))(vss:List (List (List Tm)))(w:World)(hp:2<=p/\p<=101)(ho:o=1\/o=2)(hN0:0<N)(hN:N<=3)(hA:da p o N R cs vss)(hm:vss.length<=60)(hq:q<R)(hcur:∀i,i<vss.length->ai p n o v [cs.getD i [],(vss.getD i []).getD q []]=0)(pc:Vl w x cs)(pv:Wl w y vss):Calls prog 246 #[az p n o v,x,y,.int .i64 (q:Int)] w λe w'=>∃u,e=.returned (.tuple #[u,.int .i64 (eo p o cs vss vss.length q)])/\Pl w' u (iB p o cs vss vss.length q)/\Below w.heap.size w w':=by
 have HX:=aa pc;have HY:=aa pv;have HA:=aa hA;have HP:=aa hp;have HO:=aa ho;have HCU:=aa hcur;have HT:=aa (xW p n o v);have HNN:=aa (Hg hN0 hN);obtain⟨ax,cx,rfl,_⟩:=pc;obtain⟨ay,cy,rfl,_⟩:=pv;obtain⟨w1,hw1⟩:∃w1,w1=w.alloc (.cells #[.int .i64 p,.int .i64 n,.int .i64 o,.int .i64 v] 23):=⟨_,rfl⟩;have HBX:Ic (aX w1 w.heap.size p n o v):=by rw[hw1];exact aX.new w p n o v _
 have HBW:Ic (Below w.heap.size w w1):=by rw[hw1];exact bp
 have hs1:Ic (w1.heap.size=w.heap.size+1):=by show _=_;rw[hw1];simp
 obtain⟨i0,hi,hz0,hz1,hz2⟩:=info_parts Tryz.infoPolyW;have HI:=aa (Hg hi (Hg hz0 (Hg hz1 hz2)));clear hA hp ho hcur hN0 hN hi hz0 hz1 hz2;go_enter func246,ntmps246;go_wp2_with (at_make;rw[<-hw1];refine wpList_make_full _ rfl _ _ 32 rfl w1.heap.size 31 i0 _ 1 underlying32 HI.o.1 HI.o.2.1 HI.o.2.2.1 .i64 .i64 _ _ vss.length rfl rfl rfl rfl (by rw[HI.o.2.2.2];omega) (by unfold maxLen;omega) (He _) ?_;intro w2 hown hgrow;have HV0:=aa (eX.made hown hgrow);clear hown hgrow);clear hw1;go_loopw [21] (λi wr=>∃(k:Nat)(us:List Value),k<=vss.length/\i=.int .i64 k/\us.length=k/\(∀j,j<k->bX (cU p o cs vss q j)=false)/\eX w1 wr (w.heap.size+1) vss.length us ((List.range k).map (cU p o cs vss q))) (λi _=>vss.length-(intOf i).toNat);case atStart=>have h0:=HV0.o;rw[hs1.o] at h0;exact⟨0,[],Hl _,rfl,rfl,λj hj=>by omega,h0⟩
 case round=>
  clear HV0;obtain⟨k,us,hk,rfl,hul,hz,hv⟩:=hrel;have HZ:=aa hz;have HV:=aa hv;have HUL:=aa hul;clear hz hv hul;by_cases hk2:k<vss.length
  ·have hk3:k<cs.length:=by rw[HA.o.l];exact hk2
   have hkI:(k:Int)<(cs.length:Int):=by omega
   obtain⟨b,off,fa,fc,rfl,hlt,c0,hpf⟩:=ez HX.o k hk3;obtain⟨b2,off2,va,vc,rfl,hlt2,d0,hpv⟩:=jd HY.o k hk2;have hvl:=(HA.o.v _ (de vss k hk2)).1;obtain⟨b3,off3,ga,gc,rfl,hlt3,e0,hpg⟩:=ez hpv q (by rw[hvl];exact hq);have d1:=ae (ae d0 HBW.o) HV.o.below;rw[hvl] at d0 d1;have HCK:=aa (HCU.o k hk2);have HPK:Ic (cU p o cs vss q k=aG p o (aB p (cs.getD k []) ((vss.getD k []).getD q []))):=rfl;have HGR:=aa (λh=>yO (p:=p) (o:=o) (cs:=cs) (vss:=vss) (m:=vss.length) (k:=q) (i:=k) hk2 h);have HNX:Ic (bX (cU p o cs vss q k)=false->∀j,j<k+1->bX (cU p o cs vss q j)=false):=λh j hj=>by
    by_cases h2:j<k
    ·exact HZ.o j h2
    ·have e:j=k:=by omega
     subst e;exact h
   have HRS:=aa (sk (cU p o cs vss q) k);generalize cU p o cs vss q k=z at HPK HGR HNX HRS;generalize cs.getD k []=c at c0 hpf HCK HPK;generalize (vss.getD k []).getD q []=f at e0 hpg HCK HPK;obtain⟨_,bx0,bx1,bx2,bx3⟩:=HBX.o;have KEEP:Ic (∀W,Below w1.heap.size w1 W->(Ic (Below w1.heap.size w1 W)/\W.cell? ⟨w.heap.size,0,none⟩=some (.int .i64 p)/\W.cell? ⟨w.heap.size,1,none⟩=some (.int .i64 n)/\W.cell? ⟨w.heap.size,2,none⟩=some (.int .i64 o)/\W.cell? ⟨w.heap.size,3,none⟩=some (.int .i64 v)/\W.cell? ⟨b,off+k,none⟩=some (.slice fa c.length fc)/\W.cell? ⟨b3,off3+q,none⟩=some (.slice ga f.length gc))):=
    λW hb=>⟨hb,ae bx0 hb,ae bx1 hb,ae bx2 hb,ae bx3 hb,ae (ae c0 HBW.o) hb,ae (ae e0 HBW.o) hb⟩
   have HPF:=aa (hpf.below HBW.o);have HPG:=aa (hpg.below HBW.o);have HB0:Ic (Below w1.heap.size w1 wr.drew):=HV.o.below.drew;have HVD:Ic (eX w1 wr.drew (w.heap.size+1) vss.length us ((List.range k).map (cU p o cs vss q))):=HV.o.next ((Hf _ _).drew);clear bx0 bx1 bx2 bx3 c0 d0 e0 hpf hpg hpv hvl;cases hg:bX z
   ·have HMU:Ic (gF 0 p o c f=0/\jy 0 p o c f=z):=by rw[HPK.o];exact nr rfl (by rw[<-HPK.o];exact hg)
    have HN2:=aa (HNX.o hg);clear hg;go_wp2_with fail;go_region_held (λW=>Ic (Below w1.heap.size w1 W)/\W.cell? ⟨w.heap.size,0,none⟩=some (.int .i64 p)/\W.cell? ⟨w.heap.size,1,none⟩=some (.int .i64 n)/\W.cell? ⟨w.heap.size,2,none⟩=some (.int .i64 o)/\W.cell? ⟨w.heap.size,3,none⟩=some (.int .i64 v)/\W.cell? ⟨b,off+k,none⟩=some (.slice fa c.length fc)/\W.cell? ⟨b3,off3+q,none⟩=some (.slice ga f.length gc))
     (first|exact KEEP.o _ HB0.o|exact KEEP.o _ HB9.o)
     (first|(go_at_call 272;refine(xU p n o v _ HT.o _ _ c f _ ?_ ?_).mono ?_;exact HPF.o.below HB0.o;exact HPG.o.below HB0.o;rw[HCK.o,HMU.o.1,HMU.o.2];rintro e w9 ⟨u9,rfl,hu9,hb9⟩;have HU9:=aa hu9;have HV9:=aa (HVD.o.next hb9);have HB9:=aa (show Below w1.heap.size w1 w9 from HB0.o.trans (hb9.mono HB0.o.size));obtain⟨ua9,uc9,rfl,_,_⟩:=hu9;obtain⟨ov,x0,x1⟩:=HV9.o.cells (by have:=HUL.o;omega);rw[HUL.o] at x0 x1;clear hb9))
    go_wp2;go_roundw;case rel=>refine⟨k+1,us++[.slice ua9 z.length uc9],by omega,by go_num,by rw[jT,HUL.o],HN2.o,?_⟩;rw[HRS.o];have h:=HV9.o.put (by have:=HUL.o;omega) _ _ HU9.o;rw[HUL.o] at h;exact h
    case measure=>simp[intOf];omega
   ·have HMU:Ic (gF 0 p o c f=2/\jy 0 p o c f=[]):=np rfl (by rw[<-HPK.o];exact hg);have HG2:=aa (HGR.o hg);clear hg;go_wp2_with fail;go_region_held (λW=>Ic (Below w1.heap.size w1 W)/\W.cell? ⟨w.heap.size,0,none⟩=some (.int .i64 p)/\W.cell? ⟨w.heap.size,1,none⟩=some (.int .i64 n)/\W.cell? ⟨w.heap.size,2,none⟩=some (.int .i64 o)/\W.cell? ⟨w.heap.size,3,none⟩=some (.int .i64 v)/\W.cell? ⟨b,off+k,none⟩=some (.slice fa c.length fc)/\W.cell? ⟨b3,off3+q,none⟩=some (.slice ga f.length gc))
     (first|exact KEEP.o _ HB0.o|exact KEEP.o _ HB9.o)
     (first|(go_at_call 272;refine(xU p n o v _ HT.o _ _ c f _ ?_ ?_).mono ?_;exact HPF.o.below HB0.o;exact HPG.o.below HB0.o;rw[HCK.o,HMU.o.1,HMU.o.2];rintro e w9 ⟨u9,rfl,hu9,hb9⟩;have HB9:=aa (show Below w1.heap.size w1 w9 from HB0.o.trans (hb9.mono HB0.o.size));obtain⟨ua9,uc9,rfl,_,_⟩:=hu9;clear hb9))
    go_wp2;go_ret2;refine⟨.slice none 0 0,by rw[HG2.o.1];rfl,?_,HBW.o.trans (HB9.o.mono HBW.o.size)⟩;rw[HG2.o.2];exact Pl.empty _
  ·have e:k=vss.length:=by omega
   subst e;have HD:=aa (HV.o.done HUL.o);have HLN:Ic ((dQ p o cs vss q vss.length).length=vss.length):=by show _=_;unfold dQ;rw[Ia,List.length_range]
   have HPF:Ic (∀f∈(List.range vss.length).map (cU p o cs vss q),bk p o N f/\Bd f/\f.length<=2000):=λf hf=>by obtain⟨i,hi,rfl⟩:=ps hf;have h1:=HA.o.pr HP.o.1 (k:=q) (i:=i) hi hq;exact⟨h1.1,h1.2,F4 (HZ.o i hi)⟩
   obtain⟨_,bx0,bx1,bx2,bx3⟩:=HBX.o.below HV.o.below;have HBN:=aa (HBW.o.trans (HV.o.below.mono HBW.o.size));have HLO:=aa (λh=>yP (p:=p) (o:=o) (cs:=cs) (vss:=vss) (m:=vss.length) (k:=q) h);have HOK:=aa (λh=>sn (p:=p) (o:=o) (cs:=cs) (vss:=vss) (m:=vss.length) (k:=q) HZ.o h);have HSU:Ic (∀W,Below wr.heap.size wr W->Calls prog 273 #[az p n o v,.slice (some ⟨w.heap.size+1,0,none⟩) vss.length vss.length] W λe w'=>∃u,e=.returned u/\Pl w' u (aG p o (dQ p o cs vss q vss.length).flatten)/\Below W.heap.size W w'):=λW hb=>EW p n o v N 2000 _ _ W HP.o HO.o HNN.o.1 HNN.o.2 HPF.o (by rw[HLN.o];omega) (by rw[HLN.o];omega) (HD.o.below hb)
   generalize aG p o (dQ p o cs vss q vss.length).flatten=s at HSU HLO HOK;by_cases hl:2000<s.length
   ·have HL2:=aa (HLO.o hl);have hlI:(2000:Int)<(s.length:Int):=by omega
    go_wp2_with (go_at_call 273;refine(HSU.o _ (Hf _ _)).mono ?_;rintro e w8 ⟨u8,rfl,hu8,hb8⟩;have HB8:=aa (HBN.o.trans (hb8.mono HBN.o.size));obtain⟨ua8,uc8,rfl,_,_⟩:=hu8;clear hb8);go_ret2;refine⟨.slice none 0 0,by rw[HL2.o.1];rfl,?_,HB8.o⟩;rw[HL2.o.2];exact Pl.empty _
   ·have HL2:=aa (HOK.o hl);have hlI:¬(2000:Int)<(s.length:Int):=by omega
    go_wp2_with (go_at_call 273;refine(HSU.o _ (Hf _ _)).mono ?_;rintro e w8 ⟨u8,rfl,hu8,hb8⟩;have HU8:=aa hu8;have HB8:=aa (HBN.o.trans (hb8.mono HBN.o.size));obtain⟨ua8,uc8,rfl,_,_⟩:=hu8;clear hb8);go_ret2;exact⟨_,by rw[HL2.o.1];rfl,by rw[HL2.o.2];exact HU8.o,HB8.o⟩
theorem Gg(p n o v:Int)(N R q rb cb lb:Nat)(fv:Value)(ax ay:Option Addr)(cx cy:Nat)(cs:List (List Tm))(vss:List (List (List Tm)))(w:World)(hp:2<=p/\p<=101)(ho:o=1\/o=2)(hN0:0<N)(hN:N<=3)(hA:da p o N R cs vss)(hm:vss.length<=60)(hq:q<R)(hcur:∀i,i<vss.length->ai p n o v [cs.getD i [],(vss.getD i []).getD q []]=0)(bx:aX w rb p n o v)(hc:w.cell? ⟨cb,0,none⟩=some (.slice ax cs.length cx))(hl:w.cell? ⟨lb,0,none⟩=some (.slice ay vss.length cy))(pc:Vl w (.slice ax cs.length cx) cs)(pv:Wl w (.slice ay vss.length cy) vss):Calls prog 245 #[.int .i64 q,fv,.pointer (some ⟨rb,0,none⟩),.pointer (some ⟨cb,0,none⟩),.pointer (some ⟨lb,0,none⟩)] w λe w'=>∃u,e=.returned (.tuple #[u,.int .i64 (eo p o cs vss vss.length q)])/\Pl w' u (iB p o cs vss vss.length q)/\Below w.heap.size w w':=by have HC:=aa (Gf p n o v N R q _ _ cs vss w hp ho hN0 hN hA hm hq hcur pc pv);obtain⟨_,bx0,bx1,bx2,bx3⟩:=bx;clear hp ho hA hcur pc pv;go_enter func245,ntmps245;go_wp2_with (go_at_call 246;refine HC.o.mono ?_;rintro e w9 ⟨u9,rfl,hu9,hb9⟩;have HU9:=aa hu9;have HB9:=aa hb9;obtain⟨ua9,uc9,rfl,_,_⟩:=hu9;clear hb9);go_ret2;exact⟨_,rfl,HU9.o,HB9.o⟩
def kG(p n o v rank:Int)(cs:List (List Tm))(vss:List (List (List Tm))):List (List Tm):=if eT p n o v rank cs vss=0 then eI p o rank.toNat cs vss vss.length else []
theorem sq{p n o v rank:Int}{cs:List (List Tm)}{vss:List (List (List Tm))}(h:eT p n o v rank cs vss≠0):kG p n o v rank cs vss=[]:=by unfold kG;rw[if_neg h]
theorem Gh{w:World}{A B C:Obj}:Below w.heap.size w (((w.alloc A).alloc B).alloc C):=(((Hf _ _).alloc (He _) _).alloc (by simp) _).alloc (by simp;omega) _
theorem Bw(p n o v rank:Int)(x y:Value)(cs:List (List Tm))(vss:List (List (List Tm)))(w:World)(pc:Vl w x cs)(pv:Wl w y vss):Calls prog 211 #[az p n o v,.int .i64 rank,x,y] w λe w'=>∃u,e=.returned (.tuple #[u,.int .i64 (eT p n o v rank cs vss)])/\Vl w' u (kG p n o v rank cs vss)/\Below w.heap.size w w':=by
 have HX:=aa pc;have HY:=aa pv;obtain⟨ax,cx,rfl,_⟩:=pc;obtain⟨ay,cy,rfl,_⟩:=pv;obtain⟨w2,hw2⟩:∃w2,w2=((w.alloc (.cells #[.int .i64 p,.int .i64 n,.int .i64 o,.int .i64 v] 23)).alloc (.cells #[.slice ax cs.length cx] 32)).alloc (.cells #[.slice ay vss.length cy] 24):=⟨_,rfl⟩;have hb2:Below w.heap.size w w2:=by rw[hw2];exact Gh
 have hbx:aX w2 w.heap.size p n o v:=by rw[hw2];exact(aX.new w p n o v _).below cW
 have hcf:w2.cell? ⟨w.heap.size+1,0,none⟩=some (.slice ax cs.length cx):=by rw[hw2];simp[go_sem]
 have hlf:w2.cell? ⟨w.heap.size+2,0,none⟩=some (.slice ay vss.length cy):=by rw[hw2];simp[go_sem]
 have HB2:=aa hb2;have HBX:=aa hbx;have HCF:=aa hcf;have HLF:=aa hlf;have HYW:=aa (HY.o.below hb2);have HXW:=aa (HX.o.below hb2);clear hb2 hbx hcf hlf;by_cases hz:bQ p n o v rank vss=0
 rotate_left
 ·have he:eT p n o v rank cs vss=bQ p n o v rank vss:=by unfold eT;rw[if_pos hz]
  have HR:=aa (sq (p:=p) (n:=n) (o:=o) (v:=v) (rank:=rank) (cs:=cs) (vss:=vss) (by rw[he];exact hz));rw[HR.o,he];clear he;obtain⟨_,bx0,bx1,bx2,bx3⟩:=HBX.o;have hcf:=HCF.o;have hlf:=HLF.o;have hzB:(bQ p n o v rank vss !=0)=true:=by simpa using hz
  clear hz;go_enter func211,ntmps211;go_wp2_with fail;try rw[<-hw2]
  refine(jh p n o v rank _ vss _ HYW.o).mono ?_;rintro e w3 ⟨rfl,hb3⟩;have HB3:=aa (HB2.o.trans (hb3.mono HB2.o.size));clear hb3;go_wp2;go_ret2;exact⟨_,rfl,Vl.empty _,HB3.o⟩
 obtain⟨hR,hrk,hv60,hvs⟩:=uT hz;have HZ:=aa hz;have HRR:=aa hR;clear hz;obtain⟨_,bx0,bx1,bx2,bx3⟩:=HBX.o;have hcf:=HCF.o;have hlf:=HLF.o;by_cases hl:cs.length=vss.length
 rotate_left
 ·have he:eT p n o v rank cs vss=1:=by unfold eT;rw[if_neg (by rw[HZ.o];simp),if_pos hl]
  have HR:=aa (sq (p:=p) (n:=n) (o:=o) (v:=v) (rank:=rank) (cs:=cs) (vss:=vss) (by rw[he];decide));rw[HR.o,he];clear he hR hvs;have hlI:¬((cs.length:Int)=(vss.length:Int)):=λh=>hl (Int.ofNat.inj h);go_enter func211,ntmps211;go_wp2_with fail;try rw[<-hw2]
  refine(jh p n o v rank _ vss _ HYW.o).mono ?_;rw[HZ.o];rintro e w3 ⟨rfl,hb3⟩;have HB3:=aa (HB2.o.trans (hb3.mono HB2.o.size));have g1:=ae hcf hb3;have g2:=ae hlf hb3;clear hb3 bx0 bx1 bx2 bx3 hcf hlf hw2;go_wp2;go_ret2;exact⟨_,rfl,Vl.empty _,HB3.o⟩
 have HPE:Ic (jg p n o v cs=dB p n o cs):=by show _=_;unfold jg;rw[if_pos hR]
 have HL:=aa hl;have HM:Ic (cs.length<=1200000000000):=by show _<=_;omega
 by_cases hpz:jg p n o v cs=0
 rotate_left
 ·have he:eT p n o v rank cs vss=dB p n o cs:=by unfold eT;rw[if_neg (by rw[HZ.o];simp),if_neg (by rw[hl];simp),if_pos hpz,HPE.o]
  have HR:=aa (sq (p:=p) (n:=n) (o:=o) (v:=v) (rank:=rank) (cs:=cs) (vss:=vss) (by rw[he,<-HPE.o];exact hpz));rw[HR.o,he];have hzB:(dB p n o cs !=0)=true:=by rw[<-HPE.o];simpa using hpz
  clear he hR hvs hpz;rw[HL.o] at hcf;have HXV:Ic (Vl w2 (.slice ax vss.length cx) cs):=by rw[<-HL.o];exact HXW.o
  have hw3:=hw2;rw[HL.o] at hw3;rw[HL.o];clear hl hw2;go_enter func211,ntmps211;go_wp2_with fail;try rw[<-hw3]
  refine(jh p n o v rank _ vss _ HYW.o).mono ?_;rw[HZ.o];rintro e w3 ⟨rfl,hb3⟩;have HB3:=aa (HB2.o.trans (hb3.mono HB2.o.size));have HX3:=aa (HXV.o.below hb3);have g1:=ae hcf hb3;have g2:=ae hlf hb3;have h0:=ae bx0 hb3;have h1:=ae bx1 hb3;have h2:=ae bx2 hb3;have h3:=ae bx3 hb3;clear hb3 bx0 bx1 bx2 bx3 hcf hlf hw3;go_wp2_with (go_at_call 52;refine(rX p n o v _ cs _ HRR.o HM.o HX3.o).mono ?_;rintro e w4 ⟨rfl,hb4⟩;have HB4:=aa (HB3.o.trans (hb4.mono HB3.o.size));clear hb4);go_ret2;exact⟨_,rfl,Vl.empty _,HB4.o⟩
 obtain⟨R,rfl⟩:∃R:Nat,rank=(R:Int):=⟨rank.toNat,by omega⟩;have HPZ:=aa hpz;obtain⟨hpr,hn1,hn2,ho,_⟩:=kX hR;have HP:=aa (dU hpr);have hcs:=(FB hpz).2;have HA:Ic (da p o n.toNat R cs vss):=⟨λc hc=>(pe hR (hcs c hc)).1,λu hu=>⟨by have:=(hvs u hu).1;omega,λf hf=>(pe hR ((hvs u hu).2 f hf)).1⟩,hl⟩;have HCU:Ic (∀q,q<R->∀i,i<vss.length->ai p n o v [cs.getD i [],(vss.getD i []).getD q []]=0):=λq hq i hi=>E8 hR (λf hf=>by
  have hu:=hvs _ (de vss i hi);simp only[List.mem_cons,List.not_mem_nil,or_false] at hf;rcases hf with rfl|rfl
  ·exact hcs _ (cG cs i (by rw[hl];exact hi))
  ·exact hu.2 _ (cG _ q (by omega)))
 have HALL:=aa (Gc (n:=n) (v:=v) hpr HP.o.1 HA.o HZ.o hpz);have HCR:Ic (kG p n o v (R:Int) cs vss=kU (eo p o cs vss vss.length) (iB p o cs vss vss.length) R):=by show _=_;unfold kG;rw[HALL.o.2,Int.toNat_natCast]
 rw[HCR.o,<-HALL.o.1];have hR40:R<=40:=by omega
 have HLR:Ic ((List.replicate R ([]:List Tm)).length=R):=by show _=_;rw[List.length_replicate]
 have HEA:=aa (fun(W:World)(u:Value)(hb:Below w2.heap.size w2 W) (hu:Vl W u (List.replicate R []))=>Ge w.heap.size (w.heap.size+1) (w.heap.size+2) u (List.replicate R []) (eo p o cs vss vss.length) (iB p o cs vss vss.length) W (by rw[HLR.o];omega) hu (λi w' fa fc hi hb' hpf=>by
  have hb2:=hb.trans (hb'.mono hb.size);exact Gg p n o v n.toNat R i w.heap.size (w.heap.size+1) (w.heap.size+2) _ ax ay cx cy cs vss w' HP.o ho (by omega) (by omega) HA.o hv60 (by rw[HLR.o] at hi;exact hi) (HCU.o i (by rw[HLR.o] at hi;exact hi)) (HBX.o.below hb2) (ae HCF.o hb2) (ae HLF.o hb2) (HXW.o.below hb2) (HYW.o.below hb2)))
 rw[HLR.o] at HEA;obtain⟨i0,hi,hz0,hz1,hz2⟩:=info_parts Tryz.infoPolyW;have HI:=aa (Hg hi (Hg hz0 (Hg hz1 hz2)));have HF0:Ic (dB p n o cs=0):=by show _=_;rw[<-HPE.o];exact HPZ.o
 rw[HL.o] at hcf;have HXV:Ic (Vl w2 (.slice ax vss.length cx) cs):=by rw[<-HL.o];exact HXW.o
 have hw3:=hw2;rw[HL.o] at hw3;rw[HL.o];clear hR hrk hvs hl hpz hpr hn1 hn2 ho hcs hi hz0 hz1 hz2 hw2;go_enter func211,ntmps211;go_wp2_with fail;try rw[<-hw3]
 refine(jh p n o v (R:Int) _ vss _ HYW.o).mono ?_;rw[HZ.o];rintro e w3 ⟨rfl,hb3⟩;have HB3:=aa hb3;have HX3:=aa (HXV.o.below hb3);have g1:=ae hcf hb3;have g2:=ae hlf hb3;have h0:=ae bx0 hb3;have h1:=ae bx1 hb3;have h2:=ae bx2 hb3;have h3:=ae bx3 hb3;clear hb3 bx0 bx1 bx2 bx3 hcf hlf hw3;go_wp2_with (first|(go_at_call 52;refine(rX p n o v _ cs _ HRR.o HM.o HX3.o).mono ?_;rw[HF0.o];rintro e w4 ⟨rfl,hb4⟩;have HB4:=aa (show Below w2.heap.size w2 w4 from HB3.o.trans (hb4.mono HB3.o.size));clear hb4 g1 g2 h0 h1 h2 h3)|(at_make;refine wpList_make_full _ rfl _ _ 33 rfl w4.heap.size 31 i0 _ 1 underlying33 HI.o.1 HI.o.2.1 HI.o.2.2.1 .i64 .i64 _ _ R rfl rfl rfl rfl (by rw[HI.o.2.2.2];omega) (by unfold maxLen;omega) (He _) ?_;intro w5 hown hgrow;have HV5:=aa (F3 hown);have HB5:Ic (Below w2.heap.size w2 w5):=HB4.o.trans ((⟨hgrow.os,hgrow.tape,hgrow.output,hgrow.size,λk hk=>hgrow.block k hk (by simp)⟩:Below w4.heap.size w4 w5).mono HB4.o.size);clear hown hgrow)|(go_at_call 244;refine(HEA.o _ _ HB5.o HV5.o).mono ?_;rintro e w6 ⟨u6,rfl,hu6,hb6⟩;have HU6:=aa hu6;have HB6:=aa (HB2.o.trans ((HB5.o.trans (hb6.mono HB5.o.size)).mono HB2.o.size));obtain⟨ua6,uc6,rfl,_⟩:=hu6;clear hb6));go_ret2;exact⟨_,rfl,HU6.o,HB6.o⟩
end Go.Proofs.YtglijodcbdcngaaGreat
