/- eachPair, together, Times, Least, Over. -/
import Derived.Test.YteimdcndjjclnaaGreatA
import Derived.Deep.OwnRows
import Derived.Deep.RegionWith
set_option maxHeartbeats 400000
namespace Go.Proofs.YteimdcndjjclnaaGreat
set_option linter.all false
open Go.Proofs.Tryz Go.RowKit
def bL(g:Int->Int->Int):List Int->List Int->List Int
 |x::xs,y::ys=>g x y::bL g xs ys
 |_,_=>[]
theorem kF(g:Int->Int->Int)(xs ys:List Int)(h:xs.length=ys.length):(bL g xs ys).length=xs.length:=by
 induction xs generalizing ys with
 |nil=>cases ys<;>simp[bL]
 |cons x xs ih=>cases ys with
  |nil=>simp at h
  |cons y ys=>simp[bL,ih ys (by simpa using h)]
theorem sB(g:Int->Int->Int)(xs ys:List Int)(h:xs.length=ys.length)(k:Nat)(hk:k<xs.length):(bL g xs ys).getD k 0=g (xs.getD k 0) (ys.getD k 0):=by
 induction xs generalizing ys k with
 |nil=>simp at hk
 |cons x xs ih=>cases ys with
  |nil=>simp at h
  |cons y ys=>cases k with
   |zero=>simp[bL]
   |succ k=>have:=ih ys (by simpa using h) k (by simpa using hk);simpa [bL] using this
def lL(w wr:World)(n k:Nat)(zs:List Int):Prop:=
 Below w.heap.size w wr/\w.heap.size<wr.heap.size/\(∀i,i<n->(wr.cell? ⟨w.heap.size,i,none⟩).isSome=true/\wr.frozen? ⟨w.heap.size,i,none⟩=false)/\(∀i,i<k->wr.cell? ⟨w.heap.size,i,none⟩=some (.int .i64 (zs.getD i 0)))
theorem lL.start(w:World)(n:Nat)(zs:List Int):lL w (w.alloc (.cells (madeCells #[.int .i64 0] n) 3)) n 0 zs:=by refine⟨(Lf _ _).alloc (Lc _) _,by simp,λi hi=>⟨?_,by simp⟩,λi hi=>absurd hi (by omega)⟩;simp[size_madeCells,hi]
theorem lL.step{w wr:World}{n k:Nat}{zs:List Int}(h:lL w wr n k zs)(hk:k<n)(v:Int)(hv:v=zs.getD k 0):lL w (wr.setCell ⟨w.heap.size,k,none⟩ (.int .i64 v)) n (k+1) zs:=by
 obtain⟨h1,h2,h3,h4⟩:=h;subst hv;have ne:∀i,¬i=k->(⟨w.heap.size,k,none⟩:Addr)≠⟨w.heap.size,i,none⟩:=λi hi e=>hi (by injection e with _ e2 _;exact e2.symm);refine⟨h1.setCell (Lc _) _,by simpa using h2,λi hi=>?_,λi hi=>?_⟩
 .by_cases e:i=k
  .subst e;exact⟨by rw[World.cell?_setCell_same' wr _ _ (h3 i hi).1];rfl,by simpa using (h3 i hi).2⟩
  .rw[World.cell?_setCell_other (w:=wr) (h:=ne i e)];exact⟨(h3 i hi).1,by simpa using (h3 i hi).2⟩
 .by_cases e:i=k
  .subst e;rw[World.cell?_setCell_same' wr _ _ (h3 i hk).1]
  .rw[World.cell?_setCell_other (w:=wr) (h:=ne i e)];exact h4 i (by omega)
theorem lL.sl{w w':World}{zs:List Int}(h:lL w w' zs.length zs.length zs):Sl w' (.slice (some ⟨w.heap.size,0,none⟩) zs.length zs.length) zs:=
 ⟨_,_,rfl,λ_=>⟨_,_,rfl,h.2.1,λi hi=>by rw[Ly];exact h.2.2.2 i hi⟩⟩
def gW(xs ys:List Int):Bool:=decide (xs=ys)
theorem E8{xs ys:List Int}{k:Nat}(h:k<xs.length)(h2:k<ys.length)(ht:xs.take k=ys.take k)(he:xs.getD k 0=ys.getD k 0):xs.take (k+1)=ys.take (k+1):=by rw[LK h,LK h2,ht];simp[Lr,h,h2] at he;rw[he]
theorem E9(x y:Value)(xs ys:List Int)(w:World)(hm:xs.length<=3)(hs:Sl w x xs)(hs2:Sl w y ys):Calls prog 25 #[x,y] w λe w'=>e=.returned (.bool (gW xs ys))/\∃n,w'=w.drewN n:=by
 obtain⟨a,cap,rfl,h1⟩:=hs;obtain⟨a2,cap2,rfl,h2⟩:=hs2;by_cases hl:xs.length=ys.length
 .rw[<-hl];by_cases h0:xs.length=0
  .have e1:xs=[]:=LV.1 h0;have e2:ys=[]:=LV.1 (by omega);subst e1 e2;clear h1 h2 hl h0;go_enter func25,ntmps25;go_wp2;go_loop [5] (λi=>i=.int .i64 0) (λ_=>0);case atStart=>rfl
   case round=>subst hrel;go_wp2;go_ret;exact⟨rfl,0,rfl⟩
  .obtain⟨b,off,rfl,hlt,hc⟩:=h1 (by omega);obtain⟨b2,off2,rfl,hlt2,hc2⟩:=h2 (by omega);have HC:=ac hc;have HC2:=ac hc2;have HXY:=ac hl;clear h1 h2 hc hc2 hl h0;go_enter func25,ntmps25;go_wp2;go_loopw [5] (λi wr=>∃k n:Nat,k<=xs.length/\i=.int .i64 k/\xs.take k=ys.take k/\wr=w.drewN n) (λi _=>xs.length-(intOf i).toNat);case atStart=>exact⟨0,0,Ll _,rfl,rfl,rfl⟩
   case round=>
    obtain⟨k,n0,hk,rfl,hn,hw0⟩:=hrel;have HN:=ac hn;have HW:=ac hw0;clear hn hw0;by_cases hk2:k<xs.length
    .have hcell:=HC.o k hk2;have hcell2:=HC2.o k (by rw[<-HXY.o];exact hk2);have e1:∀a,wr.cell? a=w.cell? a:=λa=>by rw[HW.o];rfl
     rw[<-e1] at hcell hcell2;clear e1;have HT:=ac (E8 hk2 (by rw[<-HXY.o];exact hk2) HN.o);have HF:Ma (¬xs.getD k 0=ys.getD k 0->gW xs ys=false):=by intro h;unfold gW;apply Lh;intro e;exact h (by rw[e])
     generalize xs.getD k 0=u at hcell HT HF;generalize ys.getD k 0=t at hcell2 HT HF;cases hy:(u !=t)
     .go_wp2;go_quiet (fail);go_wp2;go_roundw;case rel=>exact⟨k+1,_,by omega,by go_num,HT.o (by simpa using hy),by rw[HW.o,World.drewN_drewN]⟩
      case measure=>simp[intOf];omega
     .go_wp2;go_quiet (fail);go_wp2;go_ret;exact⟨by rw[HF.o (by simpa using hy)];rfl,_,by rw[HW.o,World.drewN_drewN]⟩
    .go_wp2;go_ret;refine⟨?_,n0,HW.o⟩;have:=HN.o;rw[Lz (by omega),Lz (by have:=HXY.o;omega)] at this;simp[gW,this]
 .have he:gW xs ys=false:=by unfold gW;apply Lh;intro e;exact hl (by rw[e])
  rw[he];have hl2:((xs.length:Int) !=(ys.length:Int))=true:=by simp;omega
  clear he h1 h2 hl;go_enter func25,ntmps25;go_wp2;go_ret;exact⟨rfl,0,rfl⟩
theorem tw(w:World):Calls prog 27 #[] w λe w'=>e=.returned (aT 7 2 1 1)/\Below w.heap.size w w':=by go_enter func27,ntmps27;go_wp2;exact Lm (v:=aT 7 2 1 1) (by simp[results,Tryz.results27,go_sem]) rfl ⟨rfl,(Lf _ _).alloc (Lc _) _⟩
theorem Sl.new2(w:World)(a b:Int)(T:TypeId):Sl (w.alloc (.cells #[.int .i64 a,.int .i64 b] T)) (.slice (some ⟨w.heap.size,0,none⟩) 2 2) [a,b]:=by
 refine⟨_,_,rfl,λ_=>⟨_,_,rfl,by simp,λi hi=>?_⟩⟩;simp at hi;rcases i with _|_|i
 .simp
 .simp
 .omega
theorem eN{w:World}{A:Obj}:Below w.heap.size w (w.alloc A):=(Lf _ _).alloc (Lc _) _
theorem yJ(a b:Int):aI a b=-aI b a:=by unfold aI;split<;>split<;>omega
theorem fz(a b:Int):aI a b=-1/\a<b\/aI a b=0/\a=b\/aI a b=1/\b<a:=by
 unfold aI;split
 .omega
 .split<;>omega
theorem mK:∀xs ys:List Int,cu xs ys=-cu ys xs
 |[],[]=>by simp[cu]
 |[],_::_=>by simp[cu]
 |_::_,[]=>by simp[cu]
 |x::xs,y::ys=>by
  simp only[cu];have h1:=yJ x y;have h2:=mK xs ys;by_cases h:aI x y=0
  .rw[LI h,LI (by omega)];exact h2
  .rw[LH h,LH (by omega)];exact h1
theorem tx:∀xs ys:List Int,xs.length=ys.length->(cu xs ys=0↔xs=ys)
 |[],[],_=>by simp[cu]
 |[],_::_,h=>by simp at h
 |_::_,[],h=>by simp at h
 |x::xs,y::ys,hl=>by
  simp only[cu,List.cons.injEq];have h1:=fz x y;have h2:=tx xs ys (by simpa using hl);by_cases h:aI x y=0
  .rw[LI h,h2];constructor
   .intro e;exact⟨by omega,e⟩
   .intro e;exact e.2
  .rw[LH h];constructor
   .intro e;exact absurd e h
   .intro e;omega
theorem tz:∀xs ys zs:List Int,xs.length=ys.length->ys.length=zs.length->0<cu xs ys->0<cu ys zs->0<cu xs zs
 |[],[],_,_,_,h,_=>by simp[cu] at h
 |[],_::_,_,h,_,_,_=>by simp at h
 |_::_,[],_,h,_,_,_=>by simp at h
 |_::_,_::_,[],_,h,_,_=>by simp at h
 |x::xs,y::ys,z::zs,h1,h2,h3,h4=>by
  simp only[cu] at h3 h4⊢;have hxy:=fz x y;have hyz:=fz y z;have hxz:=fz x z;by_cases a:aI x y=0
  .rw[LI a] at h3;by_cases b:aI y z=0
   .rw[LI b] at h4;rw[LI (by omega)];exact tz xs ys zs (by simpa using h1) (by simpa using h2) h3 h4
   .rw[LH b] at h4;rw[LH (by omega)];omega
  .rw[LH a] at h3;by_cases b:aI y z=0
   .rw[LH (by omega)];omega
   .rw[LH b] at h4;rw[LH (by omega)];omega
theorem qg(o:Int)(xs ys:List Int):aJ o xs ys=-aJ o ys xs:=by
 unfold aJ iy;have h1:=yJ (ah xs) (ah ys);by_cases h:aI (ah xs) (ah ys)=0
 .have h':aI (ah ys) (ah xs)=0:=by omega
  rw[LI h,LI h'];by_cases ho:o=1
  .rw[LI ho,LI ho];exact mK _ _
  .rw[LH ho,LH ho];exact mK _ _
 .rw[LH h,LH (by omega)];exact h1
theorem kf(o:Int)(xs ys:List Int)(hl:xs.length=ys.length):(aJ o xs ys=0)↔xs=ys:=by
 unfold aJ iy;have h1:=fz (ah xs) (ah ys);by_cases h:aI (ah xs) (ah ys)=0
 .rw[LI h];by_cases ho:o=1
  .rw[LI ho,tx _ _ (by simp;omega)];constructor
   .intro e;have:=congrArg List.reverse e;simpa using this.symm
   .intro e;rw[e]
  .rw[LH ho,tx _ _ hl]
 .rw[LH h];constructor
  .intro e;exact absurd e h
  .intro e;rw[e] at h1;rw[e] at h;omega
theorem mL(o:Int)(xs ys zs:List Int)(h1:xs.length=ys.length)(h2:ys.length=zs.length)(h3:0<aJ o xs ys)(h4:0<aJ o ys zs):0<aJ o xs zs:=by
 unfold aJ iy at*;have hxy:=fz (ah xs) (ah ys);have hyz:=fz (ah ys) (ah zs);have hxz:=fz (ah xs) (ah zs);by_cases a:aI (ah xs) (ah ys)=0
 .rw[LI a] at h3;by_cases b:aI (ah ys) (ah zs)=0
  .rw[LI b] at h4;rw[LI (by omega)];by_cases ho:o=1
   .rw[LI ho] at h3 h4⊢;have k1:=mK ys.reverse xs.reverse;have k2:=mK zs.reverse ys.reverse;exact Int.not_le.1 (λhn=>by
     have k3:=mK zs.reverse xs.reverse;have k4:=tz zs.reverse ys.reverse xs.reverse (by simp;omega) (by simp;omega) h4 h3;omega)
   .rw[LH ho] at h3 h4⊢;exact tz xs ys zs h1 h2 h3 h4
  .rw[LH b] at h4;rw[LH (by omega)];omega
 .rw[LH a] at h3;by_cases b:aI (ah ys) (ah zs)=0
  .rw[LH (by omega)];omega
  .rw[LH b] at h4;rw[LH (by omega)];omega
def Fa(x:Int):Bool:=decide (x<0)
theorem lM(xs:List Int)(b off cap:Nat)(w:World)(hxs:∀x∈xs,0<=x/\x<=40000)(hl:xs.length<=3)(hc:eB w b off xs):Calls prog 38 #[.slice (some ⟨b,off,none⟩) xs.length cap] w λe w'=>e=.returned (.int .i64 (ah xs))/\w'=w:=by
 have HC:=ac hc;clear hc;go_enter func38,ntmps38;go_wp2;go_loop [3,4] (λn i=>∃k:Nat,k<=xs.length/\i=.int .i64 k/\n=.int .i64 (ah (xs.take k))) (λ_ i=>xs.length-(intOf i).toNat);case atStart=>exact⟨0,Ll _,rfl,rfl⟩
 case round=>
  obtain⟨k,hk,rfl,rfl⟩:=hrel;have hd:=mj (xs.take k) (λx hx=>hxs x (L6 hx));have hl2:(xs.take k).length<=k:=List.length_take_le _ _;by_cases hlt:k<xs.length
  .have hsn:=vB xs k hlt;have hb:=hxs _ (ix xs k hlt);have hcell:=HC.o k hlt;generalize xs.getD k 0=y at hsn hb hcell;have HS:=ac hsn;clear hsn hxs;go_wp2;go_round;case rel=>exact⟨k+1,by omega,by go_num,by rw[HS.o]⟩
   case measure=>simp[intOf];omega
  .go_wp2;go_ret;exact⟨bJ (by rw[Lz (by omega)]),rfl⟩
def Fb(xs ys:List Int):Bool:=(bL (· - ·) xs ys).any Fa
def W0(o:Int):Int:=if o=1 then 68719476736 else 68723671040
def W1(o:Int):Int:=if o=1 then 68719476480 else 68719476992
def W2(o:Int):Int:=if o=1 then 68715282432 else 68719476736
def ef(ov i:Int):Int:=if ov=2 then (255-i)*1125899906842624 else 255-i
def bA(o:Int)(xs:List Int):Int:=xs.getD 0 0*W0 o+xs.getD 1 0*W1 o+xs.getD 2 0*W2 o
def eF(o ov i:Int)(xs:List Int):Int:=ef ov i+bA o xs
theorem tA{xs:List Int}(h0:0<xs.length)(h3:xs.length<=3):(∃a,xs=[a])\/(∃a b,xs=[a,b])\/(∃a b c,xs=[a,b,c]):=by
 match xs,h0,h3 with
 |[a],_,_=>exact L0 ⟨a,rfl⟩
 |[a,b],_,_=>exact L3 (L0 ⟨a,b,rfl⟩)
 |[a,b,c],_,_=>exact L3 (L3 ⟨a,b,c,rfl⟩)
 |_::_::_::_::_,_,h=>simp at h
structure jc(N:Nat)(xs:List Int):Prop where
 len:xs.length=N
 nn:∀x∈xs,0<=x
 deg:ah xs<=16000
end Go.Proofs.YteimdcndjjclnaaGreat
