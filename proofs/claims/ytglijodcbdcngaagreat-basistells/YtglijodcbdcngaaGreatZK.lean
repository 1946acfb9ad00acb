/- The sum's greatest. -/
import Derived.Test.YtglijodcbdcngaaGreatZH
set_option maxHeartbeats 2000000
set_option maxRecDepth 100000
namespace Go.Proofs.YtglijodcbdcngaaGreat
set_option linter.unusedSimpArgs false
set_option linter.unusedVariables false
open Go.Proofs.Tryz Go.RowKit
def dO(wr:World)(g:Nat)(t:Ft):World:=((((((wr.setCell ⟨g,0,none⟩ (.int .i64 t.k)).setCell ⟨g,1,none⟩ (.int .u16 t.a)).setCell ⟨g,2,none⟩ (.int .u16 t.b)).setCell ⟨g,3,none⟩ (.int .u16 t.d)).setCell ⟨g,4,none⟩ (.int .u16 t.z)).setCell ⟨g,5,none⟩ (.int .u8 t.pl)).setCell ⟨g,6,none⟩ (.int .u8 t.c)
def Bx(B:Nat)(wr:World)(g:Nat)(t:Ft):Prop:=wr.ownsRow B 144 7 (.slice (some ⟨g,0,none⟩) 1 1) 1 (aA t)
theorem Bx.put{B:Nat}{wr:World}{g:Nat}{t0:Ft}(h:Bx B wr g t0)(t:Ft):Bx B (dO wr g t) g t/\wr.grownBy (dO wr g t) (some g):=by have s1:=Hq h 0 (.int .i64 t.k);have s2:=s1.1.stored 1 (.int .u16 t.a);have s3:=s2.1.stored 2 (.int .u16 t.b);have s4:=s3.1.stored 3 (.int .u16 t.d);have s5:=s4.1.stored 4 (.int .u16 t.z);have s6:=s5.1.stored 5 (.int .u8 t.pl);have s7:=s6.1.stored 6 (.int .u8 t.c);exact⟨s7.1,cj (cj (cj (cj (cj (cj s1.2 s2.2) s3.2) s4.2) s5.2) s6.2) s7.2⟩
theorem Bx.at{B:Nat}{wr:World}{g:Nat}{t:Ft}(h:Bx B wr g t):cC wr g 0 t:=lR λj u hj=>by
 have hl:j<7:=by have:=(List.getElem?_eq_some_iff.1 hj).1;simpa [aA] using this
 rw[Hy,Hc h j (by omega)];exact hj
theorem Bx.below{B:Nat}{wr w':World}{g:Nat}{t:Ft}(h:Bx B wr g t)(hb:Below wr.heap.size wr w'):Bx B w' g t:=aH h hb
theorem Bx.new(w:World)(B:Nat)(hB:B<=w.heap.size):Bx B (w.alloc (.cells #[.int .i64 0,.int .u16 0,.int .u16 0,.int .u16 0,.int .u16 0,.int .u8 0,.int .u8 0] 144)) w.heap.size ⟨0,0,0,0,0,0,0⟩:=
 ⟨by simp[aA],.inr ⟨w.heap.size,1,_,rfl,hB,heap_alloc_new w _,He _,by decide,by simp,by simp[aA]⟩⟩
def yX(w:World)(rv:Value)(rows:List (List Ft)):Prop:=∃ra rc,rv=.slice ra rows.length rc/\∀i,i<rows.length->∃b off u,ra=some ⟨b,off,none⟩/\b<w.heap.size/\w.cell? ⟨b,off+i,none⟩=some u/\Fv w u (rows.getD i [])
def fS(g:Option Ft):List Ft->Option Ft
 |[]=>g
 |t::_=>match g with
  |none=>some t
  |some g=>if g.k<t.k then some t else some g
def eF(rows:List (List Ft)):Option Ft:=rows.foldl fS none
def bE(g:Option Ft):Ft:=g.getD ⟨0,0,0,0,0,0,0⟩
structure GW(w wr:World)(g:Option Ft):Prop where
 below:Below w.heap.size w wr
 res:Bx w.heap.size wr w.heap.size ⟨0,0,0,0,0,0,0⟩
 box:Bx w.heap.size wr (w.heap.size+1) (bE g)
theorem GW.next{w wr w':World}{g:Option Ft}(h:GW w wr g)(hb:Below wr.heap.size wr w'):GW w w' g:=⟨h.below.trans (hb.mono h.below.size),h.res.below hb,h.box.below hb⟩
theorem GW.put{w wr:World}{g:Option Ft}(h:GW w wr g)(t:Ft):GW w (dO wr (w.heap.size+1) t) (some t):=by have s:=h.box.put t;exact⟨h.below.trans (ck s.2 (by omega) h.below.size),World.ownsRow.kept h.res s.2 (Or.inr (by simp[Value.ownBlock])),s.1⟩
theorem GA(sb:Nat)(rv:Value)(rows:List (List Ft))(w:World)(hsb:sb<w.heap.size)(h1:w.cell? ⟨sb,1,none⟩=some rv)(hr:yX w rv rows)(hn:rows.length<=1000):Calls prog 202 #[.pointer (some ⟨sb,0,none⟩)] w λe w'=>e=.returned (.tuple #[aY (bE (eF rows)),.bool (eF rows).isSome])/\Below w.heap.size w w':=by
 obtain⟨ra,rc,rfl,hat⟩:=hr;have HAT:=aa hat;clear hat;obtain⟨w1,hw1⟩:∃w1,w1=(w.alloc (.cells #[.int .i64 0,.int .u16 0,.int .u16 0,.int .u16 0,.int .u16 0,.int .u8 0,.int .u8 0] 144)).alloc (.cells #[.int .i64 0,.int .u16 0,.int .u16 0,.int .u16 0,.int .u16 0,.int .u8 0,.int .u8 0] 144):=⟨_,rfl⟩;have H0:Ic (GW w w1 none):=by show GW _ _ _;rw[hw1];refine⟨cW,(Bx.new w _ (He _)).below af,?_⟩;have h:=Bx.new (w.alloc (.cells #[.int .i64 0,.int .u16 0,.int .u16 0,.int .u16 0,.int .u16 0,.int .u8 0,.int .u8 0] 144)) w.heap.size (by simp);simpa [bE] using h
 have q1:w1.cell? ⟨sb,1,none⟩=some (.slice ra rows.length rc):=ae h1 H0.o.below;go_enter func202,ntmps202;go_wp2_with fail;rw[<-hw1];clear hw1;go_wp2;clear q1;go_loopw [5,13] (λf i wr=>∃m:Nat,m<=rows.length/\i=.int .i64 m/\f=.bool (eF (rows.take m)).isSome/\GW w wr (eF (rows.take m))) (λ_ i _=>rows.length-(intOf i).toNat);case atStart=>exact⟨0,Hl _,rfl,rfl,H0.o⟩
 case round=>
  clear H0;obtain⟨m,hm,rfl,rfl,ht⟩:=hrel;have HT:=aa ht;clear ht;by_cases hm2:m<rows.length
  ·obtain⟨rb,off,u,rfl,hlt,hc,hf⟩:=HAT.o m hm2;have HTK:Ic (eF (rows.take (m+1))=fS (eF (rows.take m)) (rows.getD m [])):=by show _=_;unfold eF;rw[List.take_succ_eq_append_getElem hm2,List.foldl_append];simp[Hs,hm2]
   generalize eF (rows.take m)=g at HT HTK⊢;generalize rows.getD m []=row at hf HTK;have z1:=ae hc HT.o.below;cases row with
   |nil=>
    obtain⟨a,cap,rfl,_,_⟩:=hf;go_wp2;go_quiet (fail);have HBQ:=aa (below_drewN (Hf wr.heap.size wr) nq);generalize wr.drewN nq=wq at HBQ⊢;have HTQ:=aa (HT.o.next HBQ.o);go_wp2;go_roundw;case rel=>exact⟨m+1,by omega,by go_num,by rw[HTK.o];rfl,by rw[HTK.o];exact HTQ.o⟩
    case measure=>simp[intOf];omega
   |cons t ts=>
    obtain⟨b,of2,cap,rfl,hcap,hlt2,hft,_,_⟩:=hf.head;obtain⟨f0,f1,f2,f3,f4,f5,f6⟩:=hft.keep HT.o.below;cases g with
    |none=>
     simp only[Option.isSome_none];go_wp2;go_quiet (fail);have HBQ:=aa (below_drewN (Hf wr.heap.size wr) nq);generalize wr.drewN nq=wq at HBQ⊢;have HTQ:=aa (HT.o.next HBQ.o);obtain⟨f0,f1,f2,f3,f4,f5,f6⟩:=hft.keep HTQ.o.below;obtain⟨x0,x1,x2,x3,x4,x5,x6⟩:=HTQ.o.box.at;have y0:=Hb HTQ.o.box 0;have y1:=Hb HTQ.o.box 1;have y2:=Hb HTQ.o.box 2;have y3:=Hb HTQ.o.box 3;have y4:=Hb HTQ.o.box 4;have y5:=Hb HTQ.o.box 5;have y6:=Hb HTQ.o.box 6;simp only[Hy] at x0 x1 x2 x3 x4 x5 x6;have HP:=aa (HTQ.o.put t);unfold dO at HP;go_wp2;go_roundw;case rel=>exact⟨m+1,by omega,by go_num,by rw[HTK.o];rfl,by rw[HTK.o];exact HP.o⟩
     case measure=>simp[intOf];omega
    |some g=>
     simp only[Option.isSome_some];obtain⟨x0,x1,x2,x3,x4,x5,x6⟩:=HT.o.box.at;simp only[Hy,bE,Option.getD_some] at x0 x1 x2 x3 x4 x5 x6;by_cases hk:g.k<t.k
     ·skip
      go_wp2;go_quiet (fail);have HBQ:=aa (below_drewN (Hf wr.heap.size wr) nq);generalize wr.drewN nq=wq at HBQ⊢;have HTQ:=aa (HT.o.next HBQ.o);obtain⟨f0,f1,f2,f3,f4,f5,f6⟩:=hft.keep HTQ.o.below;obtain⟨x0,x1,x2,x3,x4,x5,x6⟩:=HTQ.o.box.at;have y0:=Hb HTQ.o.box 0;have y1:=Hb HTQ.o.box 1;have y2:=Hb HTQ.o.box 2;have y3:=Hb HTQ.o.box 3;have y4:=Hb HTQ.o.box 4;have y5:=Hb HTQ.o.box 5;have y6:=Hb HTQ.o.box 6;simp only[Hy] at x0 x1 x2 x3 x4 x5 x6;have HP:=aa (HTQ.o.put t);unfold dO at HP;go_wp2;go_roundw;case rel=>exact⟨m+1,by omega,by go_num,by rw[HTK.o];simp[fS,hk],by rw[HTK.o];simp only[fS,hk,if_true];exact HP.o⟩
      case measure=>simp[intOf];omega
     ·have HK:=aa hk;go_wp2;go_quiet (fail);have HBQ:=aa (below_drewN (Hf wr.heap.size wr) nq);generalize wr.drewN nq=wq at HBQ⊢;have HTQ:=aa (HT.o.next HBQ.o);go_wp2;go_roundw;case rel=>exact⟨m+1,by omega,by go_num,by rw[HTK.o];simp only[fS];rw[if_neg (show¬g.k<t.k from by have:=HK.o;omega)];rfl,by rw[HTK.o];simp only[fS];rw[if_neg (show¬g.k<t.k from by have:=HK.o;omega)];exact HTQ.o⟩
      case measure=>simp[intOf];omega
  ·have e:m=rows.length:=by omega
   subst e;rw[Hz (He _)] at HT⊢;obtain⟨x0,x1,x2,x3,x4,x5,x6⟩:=HT.o.box.at;obtain⟨v0,v1,v2,v3,v4,v5,v6⟩:=HT.o.res.at;have y0:=Hb HT.o.res 0;have y1:=Hb HT.o.res 1;have y2:=Hb HT.o.res 2;have y3:=Hb HT.o.res 3;have y4:=Hb HT.o.res 4;have y5:=Hb HT.o.res 5;have y6:=Hb HT.o.res 6;simp only[Hy] at x0 x1 x2 x3 x4 x5 x6 v0 v1 v2 v3 v4 v5 v6;have HP:=aa (HT.o.res.put (bE (eF rows)));have HBP:=aa (HT.o.below.trans (ck HP.o.2 (He _) HT.o.below.size));have hpat:=HP.o.1.at;unfold dO at hpat;obtain⟨r0,r1,r2,r3,r4,r5,r6⟩:=hpat;simp only[Hy] at r0 r1 r2 r3 r4 r5 r6;go_wp2;refine Hn (v:=.tuple #[aY (bE (eF rows)),.bool (eF rows).isSome]) (by simp[results,Tryz.results202,go_sem,r0,r1,r2,r3,r4,r5,r6,aY]) rfl ⟨rfl,HBP.o⟩
end Go.Proofs.YtglijodcbdcngaaGreat
namespace Go.Proofs.YtglijodcbdcngaaGreat
open Go.Proofs.Tryz
set_option linter.unusedSimpArgs false
set_option linter.unusedVariables false
def aw(k:Int):List Ft->Int
 |[]=>0
 |t::ts=>(if t.k=k then t.c else 0)+aw k ts
theorem iM(k:Int):∀f g:List Ft,aw k (f++g)=aw k f+aw k g
 |[],g=>by simp[aw]
 |t::f,g=>by simp only[List.cons_append,aw,iM k f g];omega
theorem GB(k:Int){f g:List Ft}(h:f.Perm g):aw k f=aw k g:=by
 induction h with
 |nil=>rfl
 |cons x _ ih=>simp only[aw,ih]
 |swap x y l=>simp only[aw];omega
 |trans _ _ h1 h2=>exact h1.trans h2
theorem oE{k:Int}:∀{f:List Ft},(∀t∈f,t.k≠k)->aw k f=0
 |[],_=>rfl
 |t::f,h=>by simp only[aw,if_neg (h t (by simp)),oE (f:=f) λu hu=>h u (by simp[hu])];rfl
def Dn(fs:List Ft):Prop:=fs.Pairwise λa b=>b.k<a.k
theorem Dn.tail{t:Ft}{ts:List Ft}(h:Dn (t::ts)):Dn ts:=(List.pairwise_cons.1 h).2
theorem Dn.head{t:Ft}{ts:List Ft}(h:Dn (t::ts)):∀u∈ts,u.k<t.k:=(List.pairwise_cons.1 h).1
theorem Dn.le{t:Ft}{ts:List Ft}(h:Dn (t::ts)):∀u∈t::ts,u.k<=t.k:=λu hu=>by
 rcases List.mem_cons.1 hu with rfl|hu
 ·omega
 ·have:=h.head u hu;omega
theorem kV(P:List Ft->List Ft->Prop)(hl:∀g,P [] g)(hr:∀f,P f [])(h1:∀t u f g,u.k<t.k->P f (u::g)->P (t::f) (u::g))(h2:∀t u f g,t.k<u.k->P (t::f) g->P (t::f) (u::g))(h3:∀t u f g,t.k=u.k->P f g->P (t::f) (u::g)):∀f g,P f g
 |[],g=>hl g
 |t::f,[]=>hr _
 |t::f,u::g=>by
  by_cases ha:u.k<t.k
  ·exact h1 t u f g ha (kV P hl hr h1 h2 h3 f (u::g))
  ·by_cases hb:t.k<u.k
   ·exact h2 t u f g hb (kV P hl hr h1 h2 h3 (t::f) g)
   ·exact h3 t u f g (by omega) (kV P hl hr h1 h2 h3 f g)
theorem GC(p k:Int):∀f g:List Ft,p∣aw k (cw p f g)-(aw k f+aw k g):=by
 refine kV _ (λg=>?_) (λf=>?_) (λt u f g h ih=>?_) (λt u f g h ih=>?_) (λt u f g h ih=>?_)
 ·rw[nA];exact⟨0,by simp[aw]⟩
 ·rw[nB];exact⟨0,by simp[aw]⟩
 ·rw[nC h];simp only[aw] at ih⊢;obtain⟨q,hq⟩:=ih;exact⟨q,by omega⟩
 ·rw[nD h];simp only[aw] at ih⊢;obtain⟨q,hq⟩:=ih;exact⟨q,by omega⟩
 ·obtain⟨q,hq⟩:=ih;by_cases hc:(t.c+u.c)%p=0
  ·rw[nF h hc];obtain⟨m,hm⟩:=Int.dvd_of_emod_eq_zero hc;simp only[aw,h];by_cases hk:u.k=k
   ·rw[if_pos hk,if_pos hk];exact⟨q-m,by rw[Int.mul_sub];omega⟩
   ·rw[if_neg hk,if_neg hk];exact⟨q,by omega⟩
  ·rw[nE h hc];obtain⟨m,hm⟩:=gC p (t.c+u.c);simp only[aw,h];by_cases hk:u.k=k
   ·rw[if_pos hk,if_pos hk,if_pos hk];exact⟨q+m,by rw[Int.mul_add];omega⟩
   ·rw[if_neg hk,if_neg hk,if_neg hk];exact⟨q,by omega⟩
def fN(x t:Ft):Prop:=x.k=t.k/\x.a=t.a/\x.b=t.b/\x.d=t.d/\x.z=t.z/\x.pl=t.pl
theorem GD(p:Int)(hp:2<=p):∀f g:List Ft,(∀t∈f,0<t.c/\t.c<p)->(∀t∈g,0<t.c/\t.c<p)->∀x∈cw p f g,(∃t,(t∈f\/t∈g)/\fN x t)/\0<x.c/\x.c<p:=by
 refine kV _ (λg=>?_) (λf=>?_) (λt u f g h ih=>?_) (λt u f g h ih=>?_) (λt u f g h ih=>?_)
 ·rw[nA];exact λ_ hg x hx=>⟨⟨x,Or.inr hx,rfl,rfl,rfl,rfl,rfl,rfl⟩,hg x hx⟩
 ·rw[nB];exact λhf _ x hx=>⟨⟨x,Or.inl hx,rfl,rfl,rfl,rfl,rfl,rfl⟩,hf x hx⟩
 ·intro hf hg x hx;rw[nC h] at hx;rcases List.mem_cons.1 hx with rfl|hx
  ·exact⟨⟨x,by simp,rfl,rfl,rfl,rfl,rfl,rfl⟩,hf x (by simp)⟩
  ·obtain⟨⟨y,hy,ha⟩,hc⟩:=ih (λy hy=>hf y (by simp[hy])) hg x hx;exact⟨⟨y,by rcases hy with hy|hy<;>simp[hy],ha⟩,hc⟩
 ·intro hf hg x hx;rw[nD h] at hx;rcases List.mem_cons.1 hx with rfl|hx
  ·exact⟨⟨x,by simp,rfl,rfl,rfl,rfl,rfl,rfl⟩,hg x (by simp)⟩
  ·obtain⟨⟨y,hy,ha⟩,hc⟩:=ih hf (λy hy=>hg y (by simp[hy])) x hx;exact⟨⟨y,by rcases hy with hy|hy<;>simp[hy],ha⟩,hc⟩
 ·intro hf hg x hx;have ih':=ih (λy hy=>hf y (by simp[hy])) (λy hy=>hg y (by simp[hy]));by_cases hc:(t.c+u.c)%p=0
  ·rw[nF h hc] at hx;obtain⟨⟨y,hy,ha⟩,hc⟩:=ih' x hx;exact⟨⟨y,by rcases hy with hy|hy<;>simp[hy],ha⟩,hc⟩
  ·rw[nE h hc] at hx;rcases List.mem_cons.1 hx with rfl|hx
   ·have h1:=Int.emod_nonneg (t.c+u.c) (show p≠0 by omega);have h2:=Int.emod_lt_of_pos (t.c+u.c) (show 0<p by omega);exact⟨⟨t,by simp,rfl,rfl,rfl,rfl,rfl,rfl⟩,by simp only;omega,by simp only;omega⟩
   ·obtain⟨⟨y,hy,ha⟩,hc⟩:=ih' x hx;exact⟨⟨y,by rcases hy with hy|hy<;>simp[hy],ha⟩,hc⟩
theorem sD(p:Int):∀(f g:List Ft),∀x∈cw p f g,∃t,(t∈f\/t∈g)/\x.k=t.k:=by
 refine kV _ (λg=>?_) (λf=>?_) (λt u f g h ih=>?_) (λt u f g h ih=>?_) (λt u f g h ih=>?_)
 ·rw[nA];exact λx hx=>⟨x,Or.inr hx,rfl⟩
 ·rw[nB];exact λx hx=>⟨x,Or.inl hx,rfl⟩
 ·intro x hx;rw[nC h] at hx;rcases List.mem_cons.1 hx with rfl|hx
  ·exact⟨x,by simp,rfl⟩
  ·obtain⟨y,hy,ha⟩:=ih x hx;exact⟨y,by rcases hy with hy|hy<;>simp[hy],ha⟩
 ·intro x hx;rw[nD h] at hx;rcases List.mem_cons.1 hx with rfl|hx
  ·exact⟨x,by simp,rfl⟩
  ·obtain⟨y,hy,ha⟩:=ih x hx;exact⟨y,by rcases hy with hy|hy<;>simp[hy],ha⟩
 ·intro x hx;by_cases hc:(t.c+u.c)%p=0
  ·rw[nF h hc] at hx;obtain⟨y,hy,ha⟩:=ih x hx;exact⟨y,by rcases hy with hy|hy<;>simp[hy],ha⟩
  ·rw[nE h hc] at hx;rcases List.mem_cons.1 hx with rfl|hx
   ·exact⟨t,by simp,rfl⟩
   ·obtain⟨y,hy,ha⟩:=ih x hx;exact⟨y,by rcases hy with hy|hy<;>simp[hy],ha⟩
theorem GF(p:Int):∀f g:List Ft,Dn f->Dn g->Dn (cw p f g):=by
 refine kV _ (λg=>?_) (λf=>?_) (λt u f g h ih=>?_) (λt u f g h ih=>?_) (λt u f g h ih=>?_)
 ·rw[nA];exact λ_ hg=>hg
 ·rw[nB];exact λhf _=>hf
 ·intro hf hg;rw[nC h];refine List.pairwise_cons.2 ⟨λx hx=>?_,ih hf.tail hg⟩;obtain⟨y,hy,e⟩:=sD p _ _ x hx;rcases hy with hy|hy
  ·have:=hf.head y hy;omega
  ·have:=hg.le y hy;omega
 ·intro hf hg;rw[nD h];refine List.pairwise_cons.2 ⟨λx hx=>?_,ih hf hg.tail⟩;obtain⟨y,hy,e⟩:=sD p _ _ x hx;rcases hy with hy|hy
  ·have:=hf.le y hy;omega
  ·have:=hg.head y hy;omega
 ·intro hf hg;by_cases hc:(t.c+u.c)%p=0
  ·rw[nF h hc];exact ih hf.tail hg.tail
  ·rw[nE h hc];refine List.pairwise_cons.2 ⟨λx hx=>?_,ih hf.tail hg.tail⟩;obtain⟨y,hy,e⟩:=sD p _ _ x hx;simp only;rcases hy with hy|hy
   ·have:=hf.head y hy;omega
   ·have:=hg.head y hy;omega
theorem mR:∀(M:Nat)(l:List Nat),l.Nodup->(∀x∈l,x<M)->l.length<=M
 |0,l,_,h=>by
  cases l with
  |nil=>simp
  |cons x l=>exact absurd (h x (by simp)) (by omega)
 |M+1,l,hn,h=>by
  by_cases hm:M∈l
  ·have h1:=List.length_erase_of_mem hm;have h2:=mR M (l.erase M) (hn.erase M) (λx hx=>by
    have:=(List.Nodup.mem_erase_iff hn).1 hx;have:=h x this.2;omega)
   omega
  ·exact Hk (mR M l hn λx hx=>by
    have:=h x hx;have:x≠M:=λe=>hm (e ▸ hx);omega) (by omega)
theorem GG{g:Option Ft}{row:List Ft}(hd:Dn row):(∀u,g=some u->∃t,fS g row=some t/\u.k<=t.k)/\(∀u∈row,∃t,fS g row=some t/\u.k<=t.k)/\(∀t,fS g row=some t->g=some t\/∃ts,row=t::ts):=by
 cases row with
 |nil=>exact⟨λu h=>⟨u,h,Int.le_refl _⟩,λu h=>by simp at h,λt h=>Or.inl h⟩
 |cons t ts=>
  cases g with
  |none=>exact⟨λu h=>by simp at h,λu h=>⟨t,rfl,hd.le u h⟩,λx h=>by simp only[fS,H6] at h;exact Or.inr ⟨ts,by rw[h]⟩⟩
  |some g=>
   simp only[fS];split
   ·exact⟨λu h=>⟨t,rfl,by simp at h;subst h;omega⟩,λu h=>⟨t,rfl,hd.le u h⟩,λx h=>by simp only[H6] at h;exact Or.inr ⟨ts,by rw[h]⟩⟩
   ·exact⟨λu h=>⟨g,rfl,by simp at h;subst h;omega⟩,λu h=>⟨g,rfl,by have:=hd.le u h;omega⟩,λx h=>Or.inl h⟩
theorem sE:∀(rows:List (List Ft)) (g:Option Ft),(∀r∈rows,Dn r)->(∀u,g=some u->∃t,rows.foldl fS g=some t/\u.k<=t.k)/\(∀r∈rows,∀u∈r,∃t,rows.foldl fS g=some t/\u.k<=t.k)/\(∀t,rows.foldl fS g=some t->g=some t\/∃ts,(t::ts)∈rows)
 |[],g,_=>⟨λu h=>⟨u,h,Int.le_refl _⟩,λr h=>by simp at h,λt h=>Or.inl h⟩
 |r::rows,g,hd=>by
  obtain⟨a1,a2,a3⟩:=GG (g:=g) (hd r (by simp));obtain⟨b1,b2,b3⟩:=sE rows (fS g r) λr hr=>hd r (by simp[hr]);refine⟨λu h=>?_,λr' hr' u hu=>?_,λt h=>?_⟩
  ·obtain⟨t,ht,hk⟩:=a1 u h;obtain⟨t2,ht2,hk2⟩:=b1 t ht;exact⟨t2,ht2,by omega⟩
  ·rcases List.mem_cons.1 hr' with rfl|hr'
   ·obtain⟨t,ht,hk⟩:=a2 u hu;obtain⟨t2,ht2,hk2⟩:=b1 t ht;exact⟨t2,ht2,by omega⟩
   ·exact b2 r' hr' u hu
  ·rcases b3 t h with h|⟨ts,h⟩
   ·rcases a3 t h with h|⟨ts,rfl⟩
    ·exact Or.inl h
    ·exact Or.inr ⟨ts,by simp⟩
   ·exact Or.inr ⟨ts,by simp[h]⟩
theorem vP{rows:List (List Ft)}(hd:∀r∈rows,Dn r)(h:eF rows=none):∀r∈rows,r=[]:=by
 intro r hr;cases r with
 |nil=>rfl
 |cons t ts=>obtain⟨x,hx,_⟩:=(sE rows none hd).2.1 _ hr t (by simp);rw[eF] at h;rw[h] at hx;simp at hx
theorem yY{rows:List (List Ft)}(hd:∀r∈rows,Dn r){t:Ft}(h:eF rows=some t):(∃ts,(t::ts)∈rows)/\∀r∈rows,∀u∈r,u.k<=t.k:=by
 obtain⟨_,b2,b3⟩:=sE rows none hd;refine⟨?_,λr hr u hu=>?_⟩
 ·rcases b3 t h with h|h
  ·simp at h
  ·exact h
 ·obtain⟨x,hx,hk⟩:=b2 r hr u hu;rw[eF] at h;rw[h] at hx;simp at hx;subst hx;exact hk
def dR(key:Int):List Ft->List Ft
 |[]=>[]
 |t::ts=>if t.k=key then ts else t::ts
def hU(key:Int):List Ft->Int
 |[]=>0
 |t::_=>if t.k=key then t.c else 0
def tk(key:Int)(rows:List (List Ft)):List (List Ft):=rows.map (dR key)
def cV(key:Int)(rows:List (List Ft)):Int:=(rows.map (hU key)).sum
theorem sF(key:Int)(r:List Ft):∀u∈dR key r,u∈r:=by
 cases r with
 |nil=>exact λu h=>h
 |cons t ts=>
  simp only[dR];split
  ·exact λu h=>by simp[h]
  ·exact λu h=>h
theorem qE{key:Int}{r:List Ft}(h:Dn r):Dn (dR key r):=by
 cases r with
 |nil=>exact h
 |cons t ts=>
  simp only[dR];split
  ·exact h.tail
  ·exact h
theorem GH{key:Int}{r:List Ft}(h:Dn r)(hk:∀u∈r,u.k<=key):∀u∈dR key r,u.k<key:=by
 cases r with
 |nil=>exact λu h=>by simp[dR] at h
 |cons t ts=>
  simp only[dR];split
  ·rename_i e;exact λu hu=>by have:=h.head u hu;omega
  ·rename_i e;intro u hu;have h1:=hk t (by simp);have h2:=h.le u hu;omega
theorem GI(key k:Int){r:List Ft}:aw k r=aw k (dR key r)+if k=key then hU key r else 0:=by
 cases r with
 |nil=>simp[dR,hU,aw]
 |cons t ts=>
  simp only[dR,hU];by_cases h:t.k=key
  ·rw[if_pos h,if_pos h];simp only[aw];by_cases hk:k=key
   ·rw[if_pos (by omega),if_pos hk];omega
   ·rw[if_neg (by omega),if_neg hk];omega
  ·rw[if_neg h,if_neg h];simp
theorem sG(key k:Int):∀rows:List (List Ft),aw k rows.flatten=aw k (tk key rows).flatten+if k=key then cV key rows else 0
 |[]=>by simp[tk,cV,aw]
 |r::rows=>by
  have h1:=GI key k (r:=r);have h2:=sG key k rows;simp only[tk,cV,List.map_cons,List.flatten_cons,List.sum_cons,iM] at h2⊢;split at h1
  ·rename_i e;simp only[if_pos e] at h2⊢;omega
  ·rename_i e;simp only[if_neg e] at h2⊢;omega
def eY(rows:List (List Ft)):Nat:=(rows.map List.length).sum
theorem yZ(key:Int):∀rows:List (List Ft),eY (tk key rows)<=eY rows
 |[]=>by simp[tk,eY]
 |r::rows=>by
  have h:=yZ key rows;have h1:(dR key r).length<=r.length:=by
   cases r with
   |nil=>simp[dR]
   |cons t ts=>simp only[dR];split<;>simp
  simp only[tk,eY,List.map_cons,List.sum_cons] at h⊢;omega
theorem zd{t:Ft}{ts:List Ft}:∀{rows:List (List Ft)},(t::ts)∈rows->eY (tk t.k rows)<eY rows
 |[],h=>by simp at h
 |r::rows,h=>by
  have h0:=yZ t.k rows;have h1:(dR t.k r).length<=r.length:=by
   cases r with
   |nil=>simp[dR]
   |cons t ts=>simp only[dR];split<;>simp
  rcases List.mem_cons.1 h with rfl|h
  ·simp only[tk,eY,List.map_cons,List.sum_cons,dR,if_pos] at h0⊢;simp only[List.length_cons];omega
  ·have h2:=zd h;simp only[tk,eY,List.map_cons,List.sum_cons] at h2⊢;omega
def Nx(p:Int)(rows:List (List Ft))(r:Option Ft)(rows2:List (List Ft)):Prop:=
 ∀P:List (List Ft)->Option Ft->List (List Ft)->Prop,(∀rows,eF rows=none->P rows none rows)->(∀rows (t:Ft),eF rows=some t->cV t.k rows%p≠0->P rows (some {t with c:=cV t.k rows%p}) (tk t.k rows))->
  (∀rows rows2 (t:Ft) r,eF rows=some t->cV t.k rows%p=0->P (tk t.k rows) r rows2->P rows r rows2)->P rows r rows2
theorem Nx.stop{p:Int}(rows:List (List Ft))(h:eF rows=none):Nx p rows none rows:=λ_ h1 _ _=>h1 rows h
theorem Nx.hit{p:Int}(rows:List (List Ft))(t:Ft)(h:eF rows=some t)(hz:cV t.k rows%p≠0):Nx p rows (some {t with c:=cV t.k rows%p}) (tk t.k rows):=λ_ _ h2 _=>h2 rows t h hz
theorem Nx.go{p:Int}(rows rows2:List (List Ft))(t:Ft)(r:Option Ft)(h:eF rows=some t)(hz:cV t.k rows%p=0)(hn:Nx p (tk t.k rows) r rows2):Nx p rows r rows2:=λP h1 h2 h3=>h3 rows rows2 t r h hz (hn P h1 h2 h3)
theorem Nx.ind{p:Int}{motive:∀rows r rows2,Nx p rows r rows2->Prop}(stop:∀rows h,motive rows none rows (Nx.stop rows h))(hit:∀rows t h hz,motive _ _ _ (Nx.hit rows t h hz))(go:∀rows rows2 t r h hz hn,motive _ _ _ hn->motive _ _ _ (Nx.go rows rows2 t r h hz hn)){rows:List (List Ft)}{r:Option Ft}{rows2:List (List Ft)}(h:Nx p rows r rows2):motive rows r rows2 h:=by have:=h (λa b c=>∃h,motive a b c h) (λa h1=>⟨_,stop a h1⟩) (λa t h1 h2=>⟨_,hit a t h1 h2⟩) (λa b t r h1 h2 ⟨h3,h4⟩=>⟨_,go a b t r h1 h2 h3 h4⟩);exact this.2
structure aO(p:Int)(G:Ft->Prop)(rows:List (List Ft)):Prop where
 dn:∀r∈rows,Dn r
 co:∀r∈rows,∀t∈r,0<t.c/\t.c<p
 gd:∀r∈rows,∀t∈r,G t
theorem aO.tk{p:Int}{G:Ft->Prop}{rows:List (List Ft)}(h:aO p G rows)(key:Int):aO p G (tk key rows):=by
 refine⟨λr hr=>?_,λr hr t ht=>?_,λr hr t ht=>?_⟩<;>(obtain⟨r0,h0,rfl⟩:=H8.1 hr)
 ·exact qE (h.dn r0 h0)
 ·exact h.co r0 h0 t (sF key r0 t ht)
 ·exact h.gd r0 h0 t (sF key r0 t ht)
theorem Nx.spec{p:Int}(hp:2<=p){G:Ft->Prop}(hG:∀x t,fN x t->G t->G x){rows rows2:List (List Ft)}{r:Option Ft}(h:Nx p rows r rows2):aO p G rows->aO p G rows2/\rows2.length=rows.length/\match r with
   |none=>∀k,p∣aw k rows.flatten
   |some t=>G t/\0<t.c/\t.c<p/\(∀r∈rows2,∀u∈r,u.k<t.k)/\∀k,p∣aw k rows.flatten-(aw k rows2.flatten+if k=t.k then t.c else 0):=by
 induction h using Nx.ind with
 |stop rows hg=>
  intro hr;refine⟨hr,rfl,λk=>?_⟩;have he:=vP hr.dn hg;rw[oE (λt ht=>by
   obtain⟨r,h1,h2⟩:=List.mem_flatten.1 ht;rw[he r h1] at h2;simp at h2)]
  exact⟨0,by omega⟩
 |hit rows t hg hne=>
  intro hr;obtain⟨⟨ts,hm⟩,hle⟩:=yY hr.dn hg;have h1:=Int.emod_nonneg (cV t.k rows) (show p≠0 by omega);have h2:=Int.emod_lt_of_pos (cV t.k rows) (show 0<p by omega);refine⟨hr.tk _,by simp[tk],hG _ t ⟨rfl,rfl,rfl,rfl,rfl,rfl⟩ (hr.gd _ hm t (by simp)),by simp only;omega,h2,λr hr2 u hu=>?_,λk=>?_⟩
  ·obtain⟨r0,h0,rfl⟩:=H8.1 hr2;exact GH (hr.dn r0 h0) (hle r0 h0) u hu
  ·rw[sG t.k k rows];by_cases hk:k=t.k
   ·simp only[if_pos hk];obtain⟨m,hm⟩:=gC p (cV t.k rows);exact⟨-m,by rw[Int.mul_neg];omega⟩
   ·simp only[if_neg hk];exact⟨0,by omega⟩
 |go rows rows2 t r hg hz hn ih=>
  intro hr;obtain⟨i1,i2,i3⟩:=ih (hr.tk _);refine⟨i1,by rw[i2];simp[tk],?_⟩;have hc:∀k,p∣aw k rows.flatten-aw k (tk t.k rows).flatten:=λk=>by
   rw[sG t.k k rows];obtain⟨m,hm⟩:=Int.dvd_of_emod_eq_zero hz;by_cases hk:k=t.k
   ·rw[if_pos hk];exact⟨m,by omega⟩
   ·rw[if_neg hk];exact⟨0,by omega⟩
  cases r with
  |none=>intro k;obtain⟨a,ha⟩:=hc k;obtain⟨b,hb⟩:=i3 k;exact⟨a+b,by rw[Int.mul_add];omega⟩
  |some x=>obtain⟨j1,j2,j3,j4,j5⟩:=i3;refine⟨j1,j2,j3,j4,λk=>?_⟩;obtain⟨a,ha⟩:=hc k;obtain⟨b,hb⟩:=j5 k;exact⟨a+b,by rw[Int.mul_add];omega⟩
end Go.Proofs.YtglijodcbdcngaaGreat
namespace Go.Proofs.YtglijodcbdcngaaGreat
set_option linter.unusedSimpArgs false
set_option linter.unusedVariables false
open Go.Proofs.Tryz Go.RowKit
def bO(Φ:Value->Prop)(w:World)(g:Nat):Prop:=∀j u,w.cell? ⟨g,j,none⟩=some u->Φ u
theorem bO.below{Φ:Value->Prop}{w w':World}{g:Nat}(h:bO Φ w g)(hb:w'.heap[g]?=w.heap[g]?):bO Φ w' g:=by intro j u hu;rw[World.cell?_of_block (a:=⟨g,j,none⟩) hb] at hu;exact h j u hu
theorem ox{Φ:Value->Prop}{w:World}{C:Array Value}{T:TypeId}(h:∀u∈C.toList,Φ u):bO Φ (w.alloc (.cells C T)) w.heap.size:=by
 intro j u hu;have e:(w.alloc (.cells C T)).cell? ⟨w.heap.size,j,none⟩=C[j]?:=by unfold World.cell?;rw[show (w.alloc (.cells C T)).heap[w.heap.size]?=some (.cells C T (0,0)) from heap_alloc_new w _];simp
 rw[e] at hu;exact h u (by rw[Array.mem_toList_iff];exact Array.mem_of_getElem? hu)
theorem lI{Φ:Value->Prop}{w:World}{g:Nat}{C:Array Value}{T:TypeId}(hg:w.heap[g]?=some (.cells C T (0,0)))(h:∀u∈C.toList,Φ u):bO Φ w g:=by
 intro j u hu;have e:w.cell? ⟨g,j,none⟩=C[j]?:=by unfold World.cell?;rw[hg];simp
 rw[e] at hu;exact h u (by rw[Array.mem_toList_iff];exact Array.mem_of_getElem? hu)
theorem wA{Φ:Value->Prop}{w:World}{g:Nat}{C:Array Value}{T:TypeId}(hg:w.heap[g]?=some (.cells C T (0,0)))(h:bO Φ w g):∀u∈C.toList,Φ u:=by intro u hu;obtain⟨j,hj,rfl⟩:=List.getElem_of_mem hu;refine h j _ ?_;unfold World.cell?;rw[hg];simp at hj⊢
theorem ze{Φ:Value->Prop}{w:World}{g j:Nat}{u y:Value}(h:bO Φ w g)(hu:Φ u)(hy:w.cell? ⟨g,j,none⟩=some y):bO Φ (w.setCell ⟨g,j,none⟩ u) g:=by
 intro i x hx;by_cases e:i=j
 ·subst e;rw[World.cell?_setCell_same _ _ _ hy] at hx;simp only[H6] at hx;rw[<-hx];exact hu
 ·rw[World.cell?_setCell_other] at hx
  ·exact h i x hx
  ·intro h2;apply e;simpa using h2.symm
theorem qU{P:Program}(w:World)(Φ:Value->Prop)(base:Nat)(t ty e:TypeId)(i:TypeInfo)(z:Value)(size bytes:Nat)(ht:P.underlying t=some (.slice e))(hi:P.info? e=some i)(hz:i.zero=some z)(hsize:i.size=size)(hby:i.bytes=bytes)(hzs:z.cells.size=size)(hsz:0<size)(hΦz:∀u∈z.cells.toList,Φ u)(v:Value)(n:Nat)(xs:List Value)(hown:w.ownsRow base e size v n xs)(hk:∀g,v.ownBlock=some g->bO Φ w g)(a:Addr)(m c:Nat)(news:List Value)(hm:0<m)(hl:news.length=m*size)(hnews:∀j u,news[j]?=some u->w.cell? (a.add j)=some u)(h1:∀u∈news,u.oneCell'=true)(hΦn:∀u∈news,Φ u)(h63:n+m<=maxLen)(hbytes:(n+m)*bytes<=140737488355328)(hbase:base<=w.heap.size):∃v' w',(Builtin.append_ #[t,t] ty #[v,.slice (some a) m c]).run P w=.ok v' w'/\w'.ownsRow base e size v' (n+m) (xs++news)/\w.grownBy w' v.ownBlock/\(∀g,v'.ownBlock=some g->bO Φ w' g)/\(v'.ownBlock=v.ownBlock\/v'.ownBlock=some w.heap.size):=by
 obtain⟨v',w',hr,h2,h3,_⟩:=run_append_own (P:=P) w base t ty e i z size bytes ht hi hz hsize hby hzs hsz v n xs hown a m c news hl hnews h1 h63 hbytes hbase;refine⟨v',w',hr,h2,h3,?_⟩;have hsmall:n+m<=9223372036854775807:=by simp only[maxLen] at h63;omega
 have hzero:∀(q:Nat),∀x∈(Builtin.zeroCells z.cells q).toList,Φ x:=by intro q x hx;simp[Builtin.zeroCells] at hx;obtain⟨l,hl,hx⟩:=hx;have hlt:l%z.cells.size<z.cells.size:=Nat.mod_lt _ (by omega);rw[getElem!_pos z.cells _ hlt] at hx;rw[<-hx];exact hΦz _ (by simp)
 subst hsize;subst hby;rcases hown.2 with ⟨rfl,rfl⟩|⟨g,cap,ai,rfl,hbg,hg,hnc,hcm,hcs,htake⟩
 ·have hr2:=run_append_nil (P:=P) w t ty e i z ht hi hz a m c news hl hnews (by omega) (by omega) (by have hb:=hbytes;simp only[Hy] at hb;omega);rw[hr] at hr2;simp only[Result.ok.injEq] at hr2;obtain⟨rfl,rfl⟩:=hr2;refine⟨λg hg=>?_,Or.inr rfl⟩;simp only[Value.ownBlock,H6] at hg;subst hg;refine ox (w:=w.drew) (λx hx=>?_);rw[Array.toList_append,Hv] at hx;rcases hx with hx|hx
  ·exact hΦn x (by simpa using hx)
  ·exact hzero _ x hx
 ·have hcur:=wA hg (hk g rfl);by_cases hroom:n+m<=cap
  ·have hfit:n*i.size+news.length<=ai.size:=by rw[hl,hcs,<-Nat.add_mul];exact Nat.mul_le_mul_right _ hroom
   have hr2:=run_append_room (P:=P) w t ty e i ht hi g n cap ai hg a m c news hl hnews h1 hroom hfit;rw[hr] at hr2;simp only[Result.ok.injEq] at hr2;obtain⟨rfl,rfl⟩:=hr2;refine⟨λg2 hg2=>?_,Or.inl rfl⟩;simp only[Value.ownBlock,H6] at hg2;subst hg2;refine lI (setRow_heap w g ai _ e _ hg) (λx hx=>?_);rw[List.toList_toArray,Hv,Hv] at hx;rcases hx with (hx|hx)|hx
   ·exact hcur x (List.mem_of_mem_take hx)
   ·exact hΦn x hx
   ·exact hcur x (List.mem_of_mem_drop hx)
  ·have holds:∀j x,xs[j]?=some x->w.cell? ((⟨g,0,none⟩:Addr).add j)=some x:=hown.cells (g:=g) rfl;have hr2:=run_append_grow (P:=P) w t ty e i z ht hi hz ⟨g,0,none⟩ n cap xs hown.1 holds a m c news hl hnews (by omega) (by omega) (growslice_fits (by omega) hbytes);rw[hr] at hr2;simp only[Result.ok.injEq] at hr2;obtain⟨rfl,rfl⟩:=hr2;refine⟨λg2 hg2=>?_,Or.inr rfl⟩;simp only[Value.ownBlock,H6] at hg2;subst hg2;refine ox (w:=w.drew) (λx hx=>?_);rw[Array.toList_append,Array.toList_append,Hv,Hv] at hx;rcases hx with (hx|hx)|hx
   ·rw[List.toList_toArray,<-htake] at hx;exact hcur x (List.mem_of_mem_take hx)
   ·exact hΦn x (by simpa using hx)
   ·exact hzero _ x hx
structure ao(S:Nat->Prop)(w w':World):Prop where
 os:w'.os=w.os
 tape:w'.tape=w.tape
 output:w'.output=w.output
 size:w.heap.size<=w'.heap.size
 block:∀k,k<w.heap.size->¬S k->w'.heap[k]?=w.heap[k]?
theorem ao.refl(S:Nat->Prop)(w:World):ao S w w:=⟨rfl,rfl,rfl,He _,λ_ _ _=>rfl⟩
theorem ao.trans{S T:Nat->Prop}{a b c:World}(h:ao S a b)(k:ao T b c)(ht:∀x,x<a.heap.size->T x->S x):ao S a c:=
 ⟨k.os.trans h.os,k.tape.trans h.tape,k.output.trans h.output,Hk h.size k.size,λi hi hs=>(k.block i (Hj hi h.size) (λx=>hs (ht i hi x))).trans (h.block i hi hs)⟩
theorem ao.wide{S T:Nat->Prop}{a b:World}(h:ao S a b)(hs:∀x,x<a.heap.size->S x->T x):ao T a b:=⟨h.os,h.tape,h.output,h.size,λk hk hT=>h.block k hk λx=>hT (hs k hk x)⟩
theorem ao.of_below{S:Nat->Prop}{a b:World}(h:Below a.heap.size a b):ao S a b:=⟨h.os,h.tape,h.output,h.size,λk hk _=>h.block k hk⟩
theorem ao.of_grown{S:Nat->Prop}{a b:World}{r:Option Nat}(h:a.grownBy b r)(hs:∀g,r=some g->S g):ao S a b:=⟨h.os,h.tape,h.output,h.size,λk hk hS=>h.block k hk λe=>hS (hs k e.symm)⟩
theorem ao.to_below{S:Nat->Prop}{B:Nat}{a b:World}(h:ao S a b)(hB:B<=a.heap.size)(hs:∀x,S x->B<=x):Below B a b:=⟨h.os,h.tape,h.output,h.size,λk hk=>h.block k (by omega) λx=>by have:=hs k x;omega⟩
theorem ao.cell{S:Nat->Prop}{a b:World}(h:ao S a b){p:Addr}{u:Value}(hc:a.cell? p=some u)(hs:¬S p.block):b.cell? p=some u:=
 (World.cell?_of_block (h.block p.block (Hr a p hc) hs)).trans hc
theorem ao.own{S:Nat->Prop}{a b:World}(h:ao S a b){B:Nat}{T:TypeId}{s:Nat}{v:Value}{n:Nat}{xs:List Value}(ho:a.ownsRow B T s v n xs)(hs:∀g,v.ownBlock=some g->¬S g):b.ownsRow B T s v n xs:=by
 refine⟨ho.1,?_⟩;rcases ho.2 with hn|⟨g,cap,ai,rfl,hb,hgg,rest⟩
 ·exact .inl hn
 ·refine .inr ⟨g,cap,ai,rfl,hb,?_,rest⟩;rw[h.block g (Array.getElem?_eq_some_iff.1 hgg).1 (hs g rfl)];exact hgg
theorem ao.kdb{S:Nat->Prop}{Φ:Value->Prop}{a b:World}(h:ao S a b){g:Nat}(hk:bO Φ a g)(hlt:g<a.heap.size)(hs:¬S g):bO Φ b g:=hk.below (h.block g hlt hs)
def iR(u:Value):Prop:=∀x,u≠.int .u16 x
theorem pw{w:World}{g:Nat}(h:di w g):bO iR w g:=λj u hu x e=>by obtain⟨_,_,_,h2⟩:=h j u hu;rw[h2] at e;cases e
theorem ju{S:Nat->Prop}{a b:World}(h:ao S a b)(hn:∀g,S g->bO iR a g){v:Value}{fs:List Ft}(hf:Fv a v fs):Fv b v fs:=by
 obtain⟨ad,cap,rfl,hc,h1⟩:=hf;refine⟨ad,cap,rfl,hc,λhp=>?_⟩;obtain⟨bl,off,rfl,hlt,hcs⟩:=h1 hp;have hne:¬S bl:=by
  intro hs;cases fs with
  |nil=>simp at hp
  |cons t ts=>exact hn bl hs _ _ (hcs 1 (.int .u16 t.a) rfl) t.a rfl
 exact⟨bl,off,rfl,Hj hlt h.size,λj u hj=>h.cell (hcs j u hj) hne⟩
structure dI(B:Nat)(w:World)(v:Value)(us:List Value)(rows:List (List Ft)):Prop where
 len:us.length=rows.length
 own:w.ownsRow B 93 1 v rows.length us
 kind:∀g,v.ownBlock=some g->di w g
 fvs:∀i,i<rows.length->Fv w (us.getD i aP) (rows.getD i [])
theorem dI.frm{B:Nat}{S:Nat->Prop}{w w':World}{v:Value}{us:List Value}{rows:List (List Ft)}(h:dI B w v us rows)(hf:ao S w w')(hn:∀g,S g->bO iR w g)(hs:∀g,v.ownBlock=some g->¬S g):dI B w' v us rows:=
 ⟨h.len,hf.own h.own hs,λg hg=>hf.kdb (h.kind g hg) (Hd h.own g hg).2 (hs g hg),λi hi=>ju hf hn (h.fvs i hi)⟩
theorem dI.next{B:Nat}{w w':World}{v:Value}{us:List Value}{rows:List (List Ft)}(h:dI B w v us rows)(hb:Below w.heap.size w w'):dI B w' v us rows:=
 h.frm (S:=λ_=>False) (ao.of_below hb) (λg hg=>hg.elim) (λg _ hg=>hg)
theorem dI.nil(B:Nat)(w:World):dI B w (.slice none 0 0) [] []:=
 ⟨rfl,World.ownsRow_nil _ _ _ _,λg hg=>by simp[Value.ownBlock] at hg,λi hi=>by simp at hi⟩
theorem dI.at{B:Nat}{w:World}{v:Value}{us:List Value}{rows:List (List Ft)}(h:dI B w v us rows)(i:Nat)(hi:i<rows.length):∃g c,v=.slice (some ⟨g,0,none⟩) rows.length c/\B<=g/\g<w.heap.size/\w.cell? ⟨g,i,none⟩=some (us.getD i aP)/\w.frozen? ⟨g,i,none⟩=false:=by
 obtain⟨a,c,rfl⟩:=cq h.own;obtain⟨g,rfl,_,hlt,hc⟩:=kz h.own i hi;have hl:=Hd h.own g rfl;have:i<us.length:=by rw[h.len];exact hi
 exact⟨g,c,rfl,hl.1,hl.2,by rw[hc];simp[Hs,this],Hb h.own i⟩
theorem dI.rws{B:Nat}{w:World}{v:Value}{us:List Value}{rows:List (List Ft)}(h:dI B w v us rows):yX w v rows:=by obtain⟨a,c,rfl⟩:=cq h.own;refine⟨a,c,rfl,λi hi=>?_⟩;obtain⟨g,c2,e,_,hlt,hc,_⟩:=h.at i hi;simp only[H7] at e;exact⟨g,0,us.getD i aP,e.1,hlt,by rw[Hy];exact hc,h.fvs i hi⟩
theorem gD{α:Type}(l:List α)(i j:Nat)(x d:α):(l.set i x).getD j d=if i=j/\j<l.length then x else l.getD j d:=by
 by_cases h:i=j
 ·subst h;by_cases h2:i<l.length
  ·simp[Hs,h2]
  ·simp[Hs,h2]
 ·simp[Hs,List.getElem?_set_ne h,h]
theorem dI.put{B:Nat}{w:World}{g c:Nat}{n:Nat}{us:List Value}{rows:List (List Ft)}(h:dI B w (.slice (some ⟨g,0,none⟩) n c) us rows)(i:Nat)(hi:i<rows.length)(u:Value)(f:List Ft)(hu:Fv w u f):dI B (w.setCell ⟨g,i,none⟩ u) (.slice (some ⟨g,0,none⟩) n c) (us.set i u) (rows.set i f)/\w.grownBy (w.setCell ⟨g,i,none⟩ u) (some g):=by
 have hn:n=rows.length:=by obtain⟨a,c2,e⟩:=cq h.own;simp only[H7] at e;exact e.2.1
 subst hn;have s:=Hq h.own i u;have hk:=pw (h.kind g rfl);have hf:ao (λk=>k=g) w (w.setCell ⟨g,i,none⟩ u):=ao.of_grown s.2 (λx e=>by simpa using e.symm);have hus:∃a n c,u=.slice a n c:=by obtain⟨a,c,e,_⟩:=hu;exact⟨a,_,c,e⟩
 obtain⟨g2,c2,e2,_,_,hc,_⟩:=h.at i hi;simp only[H7,H6,Addr.mk.injEq,true_and,and_true] at e2;obtain⟨rfl,_⟩:=e2;refine⟨⟨by simp[h.len],by rw[List.length_set];exact s.1,λg2 hg2=>?_,λj hj=>?_⟩,s.2⟩
 ·simp only[Value.ownBlock,H6] at hg2;subst hg2;exact ze (h.kind g rfl) hus hc
 ·rw[List.length_set] at hj;rw[gD,gD,h.len];by_cases e:i=j
  ·rw[if_pos ⟨e,hj⟩,if_pos ⟨e,hj⟩];exact ju hf (λk e=>by subst e;exact hk) hu
  ·rw[if_neg (λh=>e h.1),if_neg (λh=>e h.1)];exact ju hf (λk e=>by subst e;exact hk) (h.fvs j hj)
theorem dI.snoc{B:Nat}{w w2:World}{v v2:Value}{us:List Value}{rows:List (List Ft)}{u:Value}(h:dI B w v us rows)(hu:Fv w u [])(h2:w2.ownsRow B 93 1 v2 (rows.length+1) (us++[u]))(g2:w.grownBy w2 v.ownBlock)(k2:∀g,v2.ownBlock=some g->di w2 g):dI B w2 v2 (us++[u]) (rows++[[]]):=by
 have hf:ao (λk=>v.ownBlock=some k) w w2:=ao.of_grown g2 (λx e=>e);have hn:∀g,v.ownBlock=some g->bO iR w g:=λg hg=>pw (h.kind g hg);refine⟨by simp[h.len],by rw[Hx];exact h2,k2,λi hi=>?_⟩;rw[Hx] at hi;simp only[List.length_cons,List.length_nil] at hi;rcases Nat.lt_or_ge i rows.length with hl|hl
 ·have e1:(us++[u]).getD i aP=us.getD i aP:=by simp[Hs,List.getElem?_append_left (show i<us.length by rw[h.len];exact hl)]
  have e2:(rows++[[]]).getD i []=rows.getD i []:=by simp[Hs,List.getElem?_append_left hl]
  rw[e1,e2];exact ju hf hn (h.fvs i hl)
 ·have e:i=rows.length:=by omega
  subst e;have e1:(us++[u]).getD rows.length aP=u:=by rw[<-h.len];simp[Hs]
  have e2:(rows++[[]]).getD rows.length []=([]:List Ft):=by simp[Hs]
  rw[e1,e2];exact ju hf hn hu
structure aW(B:Nat)(w:World)(sb ob:Nat)(rv:Value)(us:List Value)(rows:List (List Ft)):Prop where
 box:w.ownsRow B 208 2 (.slice (some ⟨sb,0,none⟩) 1 1) 1 [.pointer (some ⟨ob,0,none⟩),rv]
 kind:bO iR w sb
 rws:dI B w rv us rows
theorem aW.next{B:Nat}{w w':World}{sb ob:Nat}{rv:Value}{us:List Value}{rows:List (List Ft)}(h:aW B w sb ob rv us rows)(hb:Below w.heap.size w w'):aW B w' sb ob rv us rows:=
 ⟨aH h.box hb,h.kind.below (hb.block sb (Hd h.box sb rfl).2),h.rws.next hb⟩
theorem aW.apart{B:Nat}{w:World}{sb ob:Nat}{rv:Value}{us:List Value}{rows:List (List Ft)}(h:aW B w sb ob rv us rows):rv.ownBlock≠some sb:=by
 intro e;rcases iG (by decide) h.rws.own h.box with h1|h1
 ·rw[h1] at e;cases e
 ·exact h1 (by rw[e];rfl)
theorem aW.lt{B:Nat}{w:World}{sb ob:Nat}{rv:Value}{us:List Value}{rows:List (List Ft)}(h:aW B w sb ob rv us rows):B<=sb/\sb<w.heap.size:=Hd h.box sb rfl
theorem aW.cells{B:Nat}{w:World}{sb ob:Nat}{rv:Value}{us:List Value}{rows:List (List Ft)}(h:aW B w sb ob rv us rows):w.cell? ⟨sb,0,none⟩=some (.pointer (some ⟨ob,0,none⟩))/\w.cell? ⟨sb,1,none⟩=some rv/\w.frozen? ⟨sb,1,none⟩=false:=
 ⟨Hc h.box 0 (by omega),Hc h.box 1 (by omega),Hb h.box 1⟩
theorem aW.put{B:Nat}{w:World}{sb ob g c n:Nat}{us:List Value}{rows:List (List Ft)}(h:aW B w sb ob (.slice (some ⟨g,0,none⟩) n c) us rows)(i:Nat)(hi:i<rows.length)(u:Value)(f:List Ft)(hu:Fv w u f):aW B (w.setCell ⟨g,i,none⟩ u) sb ob (.slice (some ⟨g,0,none⟩) n c) (us.set i u) (rows.set i f)/\w.grownBy (w.setCell ⟨g,i,none⟩ u) (some g):=by have s:=h.rws.put i hi u f hu;have hne:sb≠g:=λe=>h.apart (by rw[e];rfl);exact⟨⟨World.ownsRow.kept h.box s.2 (Or.inr (by simpa [Value.ownBlock] using hne)),h.kind.below (s.2.block sb h.lt.2 (by simpa using hne)),s.1⟩,s.2⟩
theorem aW.grow{B:Nat}{w w2:World}{sb ob:Nat}{rv v2:Value}{us:List Value}{rows:List (List Ft)}{u:Value}(h:aW B w sb ob rv us rows)(hu:Fv w u [])(h2:w2.ownsRow B 93 1 v2 (rows.length+1) (us++[u]))(g2:w.grownBy w2 rv.ownBlock)(k2:∀g,v2.ownBlock=some g->di w2 g):aW B (w2.setCell ⟨sb,1,none⟩ v2) sb ob v2 (us++[u]) (rows++[[]]):=by
 have hr:=h.rws.snoc hu h2 g2 k2;have hb2:=World.ownsRow.kept h.box g2 (Or.inr (by simpa [Value.ownBlock] using λe=>h.apart e.symm));have hk2:bO iR w2 sb:=h.kind.below (g2.block sb h.lt.2 (λe=>h.apart e.symm));have s:=Hq hb2 1 v2;have hav:∀x,v2≠.int .u16 x:=by obtain⟨a,c,e⟩:=cq hr.own;rw[e];exact λx h=>by cases h
 have hf:ao (λk=>k=sb) w2 (w2.setCell ⟨sb,1,none⟩ v2):=ao.of_grown s.2 (λx e=>by simpa using e.symm);refine⟨s.1,ze hk2 hav (Hc hb2 1 (by omega)),hr.frm hf (λg e=>by subst e;exact hk2) λg hg e=>?_⟩;subst e;rcases iG (by decide) hr.own hb2 with h1|h1
 ·rw[h1] at hg;cases hg
 ·exact h1 (by rw[hg];rfl)
def eV(sb:Nat)(rv:Value)(k:Nat):Prop:=k=sb\/rv.ownBlock=some k
end Go.Proofs.YtglijodcbdcngaaGreat
