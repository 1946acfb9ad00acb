/- eachPair, together, Times, Least, Over. -/
import Derived.Test.YtglijodcbdcngaaGreatA
import Derived.Deep.OwnRows
import Derived.Deep.RegionWith
set_option maxHeartbeats 2000000
namespace Go.Proofs.YtglijodcbdcngaaGreat
set_option linter.unusedSimpArgs false
set_option linter.unusedVariables false
open Go.Proofs.Tryz Go.RowKit
theorem Tryz.info_int:(prog.info? 3).map (λi=>(i.zero,i.size,i.bytes))=some (some (.int .i64 0),1,8):=by kernel_rfl
def ah(g:Int->Int->Int):List Int->List Int->List Int
 |x::xs,y::ys=>g x y::ah g xs ys
 |_,_=>[]
theorem eP(g:Int->Int->Int)(xs ys:List Int)(h:xs.length=ys.length):(ah g xs ys).length=xs.length:=by
 induction xs generalizing ys with
 |nil=>cases ys<;>simp[ah]
 |cons x xs ih=>cases ys with
  |nil=>simp at h
  |cons y ys=>simp[ah,ih ys (by simpa using h)]
theorem ky(g:Int->Int->Int)(xs ys:List Int)(h:xs.length=ys.length)(k:Nat)(hk:k<xs.length):(ah g xs ys).getD k 0=g (xs.getD k 0) (ys.getD k 0):=by
 induction xs generalizing ys k with
 |nil=>simp at hk
 |cons x xs ih=>cases ys with
  |nil=>simp at h
  |cons y ys=>cases k with
   |zero=>simp[ah]
   |succ k=>have:=ih ys (by simpa using h) k (by simpa using hk);simpa [ah] using this
def gq(w wr:World)(n k:Nat)(zs:List Int):Prop:=
 Below w.heap.size w wr/\w.heap.size<wr.heap.size/\(∀i,i<n->(wr.cell? ⟨w.heap.size,i,none⟩).isSome=true/\wr.frozen? ⟨w.heap.size,i,none⟩=false)/\(∀i,i<k->wr.cell? ⟨w.heap.size,i,none⟩=some (.int .i64 (zs.getD i 0)))
theorem gq.start(w:World)(n:Nat)(zs:List Int):gq w (w.alloc (.cells (madeCells #[.int .i64 0] n) 3)) n 0 zs:=by refine⟨(Hf _ _).alloc (He _) _,by simp,λi hi=>⟨?_,by simp⟩,λi hi=>absurd hi (by omega)⟩;simp[size_madeCells,hi]
theorem gq.drawn{w wr:World}{n k:Nat}{zs:List Int}(h:gq w wr n k zs):gq w wr.drew n k zs:=
 ⟨h.1.drew,h.2.1,h.2.2.1,h.2.2.2⟩
theorem gq.step{w wr:World}{n k:Nat}{zs:List Int}(h:gq w wr n k zs)(hk:k<n)(v:Int)(hv:v=zs.getD k 0):gq w (wr.setCell ⟨w.heap.size,k,none⟩ (.int .i64 v)) n (k+1) zs:=by
 obtain⟨h1,h2,h3,h4⟩:=h;subst hv;have ne:∀i,¬i=k->(⟨w.heap.size,k,none⟩:Addr)≠⟨w.heap.size,i,none⟩:=λi hi e=>hi (by injection e with _ e2 _;exact e2.symm);refine⟨h1.setCell (He _) _,by simpa using h2,λi hi=>?_,λi hi=>?_⟩
 ·by_cases e:i=k
  ·subst e;exact⟨by rw[World.cell?_setCell_same' wr _ _ (h3 i hi).1];rfl,by simpa using (h3 i hi).2⟩
  ·rw[World.cell?_setCell_other (w:=wr) (h:=ne i e)];exact⟨(h3 i hi).1,by simpa using (h3 i hi).2⟩
 ·by_cases e:i=k
  ·subst e;rw[World.cell?_setCell_same' wr _ _ (h3 i hk).1]
  ·rw[World.cell?_setCell_other (w:=wr) (h:=ne i e)];exact h4 i (by omega)
theorem Sl.empty(w:World):Sl w (.slice none 0 0) []:=⟨none,0,rfl,λh=>absurd h (by simp)⟩
theorem gq.sl{w w':World}{zs:List Int}(h:gq w w' zs.length zs.length zs):Sl w' (.slice (some ⟨w.heap.size,0,none⟩) zs.length zs.length) zs:=
 ⟨_,_,rfl,λ_=>⟨_,_,rfl,h.2.1,λi hi=>by rw[Hy];exact h.2.2.2 i hi⟩⟩
def fi(xs ys:List Int):Bool:=decide (xs=ys)
theorem AK{xs ys:List Int}{k:Nat}(h:k<xs.length)(h2:k<ys.length)(ht:xs.take k=ys.take k)(he:xs.getD k 0=ys.getD k 0):xs.take (k+1)=ys.take (k+1):=by rw[List.take_succ_eq_append_getElem h,List.take_succ_eq_append_getElem h2,ht];simp[Hs,h,h2] at he;rw[he]
theorem mF(x y:Value)(xs ys:List Int)(w:World)(hm:xs.length<=3)(hs:Sl w x xs)(hs2:Sl w y ys):Calls prog 47 #[x,y] w λe w'=>e=.returned (.bool (fi xs ys))/\∃n,w'=w.drewN n:=by
 obtain⟨a,cap,rfl,h1⟩:=hs;obtain⟨a2,cap2,rfl,h2⟩:=hs2;by_cases hl:xs.length=ys.length
 ·rw[<-hl];by_cases h0:xs.length=0
  ·have e1:xs=[]:=List.length_eq_zero_iff.1 h0;have e2:ys=[]:=List.length_eq_zero_iff.1 (by omega);subst e1 e2;clear h1 h2 hl h0;go_enter func47,ntmps47;go_wp2;go_loop [5] (λi=>i=.int .i64 0) (λ_=>0);case atStart=>rfl
   case round=>subst hrel;go_wp2;go_ret;exact⟨rfl,0,rfl⟩
  ·obtain⟨b,off,rfl,hlt,hc⟩:=h1 (by omega);obtain⟨b2,off2,rfl,hlt2,hc2⟩:=h2 (by omega);have HC:=aa hc;have HC2:=aa hc2;have HXY:=aa hl;clear h1 h2 hc hc2 hl h0;go_enter func47,ntmps47;go_wp2;go_loopw [5] (λi wr=>∃k n:Nat,k<=xs.length/\i=.int .i64 k/\xs.take k=ys.take k/\wr=w.drewN n) (λi _=>xs.length-(intOf i).toNat);case atStart=>exact⟨0,0,Hl _,rfl,rfl,rfl⟩
   case round=>
    obtain⟨k,n0,hk,rfl,hn,hw0⟩:=hrel;have HN:=aa hn;have HW:=aa hw0;clear hn hw0;by_cases hk2:k<xs.length
    ·have hcell:=HC.o k hk2;have hcell2:=HC2.o k (by rw[<-HXY.o];exact hk2);have e1:∀a,wr.cell? a=w.cell? a:=λa=>by rw[HW.o];rfl
     rw[<-e1] at hcell hcell2;clear e1;have HT:=aa (AK hk2 (by rw[<-HXY.o];exact hk2) HN.o);have HF:Ic (¬xs.getD k 0=ys.getD k 0->fi xs ys=false):=by intro h;unfold fi;apply Hh;intro e;exact h (by rw[e])
     generalize xs.getD k 0=u at hcell HT HF;generalize ys.getD k 0=t at hcell2 HT HF;cases hy:(u !=t)
     ·go_wp2;go_quiet (fail);go_wp2;go_roundw;case rel=>exact⟨k+1,_,by omega,by go_num,HT.o (by simpa using hy),by rw[HW.o,World.drewN_drewN]⟩
      case measure=>simp[intOf];omega
     ·go_wp2;go_quiet (fail);go_wp2;go_ret;exact⟨by rw[HF.o (by simpa using hy)];rfl,_,by rw[HW.o,World.drewN_drewN]⟩
    ·go_wp2;go_ret;refine⟨?_,n0,HW.o⟩;have:=HN.o;rw[Hz (by omega),Hz (by have:=HXY.o;omega)] at this;simp[fi,this]
 ·have he:fi xs ys=false:=by unfold fi;apply Hh;intro e;exact hl (by rw[e])
  rw[he];have hl2:((xs.length:Int) !=(ys.length:Int))=true:=by simp;omega
  clear he h1 h2 hl;go_enter func47,ntmps47;go_wp2;go_ret;exact⟨rfl,0,rfl⟩
theorem p5(w:World):Calls prog 32 #[] w λe w'=>e=.returned (az 7 2 1 1)/\Below w.heap.size w w':=by go_enter func32,ntmps32;go_wp2;exact Hn (v:=az 7 2 1 1) (by simp[results,Tryz.results32,go_sem]) rfl ⟨rfl,(Hf _ _).alloc (He _) _⟩
theorem Sl.new2(w:World)(a b:Int)(T:TypeId):Sl (w.alloc (.cells #[.int .i64 a,.int .i64 b] T)) (.slice (some ⟨w.heap.size,0,none⟩) 2 2) [a,b]:=by
 refine⟨_,_,rfl,λ_=>⟨_,_,rfl,by simp,λi hi=>?_⟩⟩;simp at hi;rcases i with _|_|i
 ·simp
 ·simp
 ·omega
theorem gp{w:World}{A:Obj}:Below w.heap.size w (w.alloc A):=(Hf _ _).alloc (He _) _
theorem tR(a b:Int):aR a b=-aR b a:=by unfold aR;split<;>split<;>omega
theorem dL(a b:Int):aR a b=-1/\a<b\/aR a b=0/\a=b\/aR a b=1/\b<a:=by
 unfold aR;split
 ·omega
 ·split<;>omega
theorem tS(a b c:Int):aR (a+c) (b+c)=aR a b:=by have h1:=dL a b;have h2:=dL (a+c) (b+c);omega
theorem lh:∀xs ys:List Int,bF xs ys=-bF ys xs
 |[],[]=>by simp[bF]
 |[],_::_=>by simp[bF]
 |_::_,[]=>by simp[bF]
 |x::xs,y::ys=>by
  simp only[bF];have h1:=tR x y;have h2:=lh xs ys;by_cases h:aR x y=0
  ·rw[if_pos h,if_pos (by omega)];exact h2
  ·rw[if_neg h,if_neg (by omega)];exact h1
theorem p6:∀xs ys:List Int,-1<=bF xs ys/\bF xs ys<=1
 |[],[]=>by simp[bF]
 |[],_::_=>by simp[bF]
 |_::_,[]=>by simp[bF]
 |x::xs,y::ys=>by
  simp only[bF];have h1:=dL x y;have h2:=p6 xs ys;by_cases h:aR x y=0
  ·rw[if_pos h];exact h2
  ·rw[if_neg h];omega
theorem p7:∀xs ys:List Int,xs.length=ys.length->(bF xs ys=0↔xs=ys)
 |[],[],_=>by simp[bF]
 |[],_::_,h=>by simp at h
 |_::_,[],h=>by simp at h
 |x::xs,y::ys,hl=>by
  simp only[bF,List.cons.injEq];have h1:=dL x y;have h2:=p7 xs ys (by simpa using hl);by_cases h:aR x y=0
  ·rw[if_pos h,h2];constructor
   ·intro e;exact⟨by omega,e⟩
   ·intro e;exact e.2
  ·rw[if_neg h];constructor
   ·intro e;exact absurd e h
   ·intro e;omega
theorem p8:∀xs ys zs:List Int,xs.length=ys.length->ys.length=zs.length->0<bF xs ys->0<bF ys zs->0<bF xs zs
 |[],[],_,_,_,h,_=>by simp[bF] at h
 |[],_::_,_,h,_,_,_=>by simp at h
 |_::_,[],_,h,_,_,_=>by simp at h
 |_::_,_::_,[],_,h,_,_=>by simp at h
 |x::xs,y::ys,z::zs,h1,h2,h3,h4=>by
  simp only[bF] at h3 h4⊢;have hxy:=dL x y;have hyz:=dL y z;have hxz:=dL x z;by_cases a:aR x y=0
  ·rw[if_pos a] at h3;by_cases b:aR y z=0
   ·rw[if_pos b] at h4;rw[if_pos (by omega)];exact p8 xs ys zs (by simpa using h1) (by simpa using h2) h3 h4
   ·rw[if_neg b] at h4;rw[if_neg (by omega)];omega
  ·rw[if_neg a] at h3;by_cases b:aR y z=0
   ·rw[if_neg (by omega)];omega
   ·rw[if_neg b] at h4;rw[if_neg (by omega)];omega
theorem p9:∀xs ys zs:List Int,xs.length=ys.length->ys.length=zs.length->bF (ah (·+·) xs zs) (ah (·+·) ys zs)=bF xs ys
 |[],[],_,_,_=>by simp[bF,ah]
 |[],_::_,_,h,_=>by simp at h
 |_::_,[],_,h,_=>by simp at h
 |_::_,_::_,[],_,h=>by simp at h
 |x::xs,y::ys,z::zs,h1,h2=>by simp only[bF,ah];rw[tS,p9 xs ys zs (by simpa using h1) (by simpa using h2)]
theorem tT(g:Int->Int->Int):∀(xs ys:List Int)(x y:Int),xs.length=ys.length->ah g (xs++[x]) (ys++[y])=ah g xs ys++[g x y]
 |[],[],_,_,_=>by simp[ah]
 |[],_::_,_,_,h=>by simp at h
 |_::_,[],_,_,h=>by simp at h
 |a::xs,b::ys,x,y,h=>by simp[ah,tT g xs ys x y (by simpa using h)]
theorem qb(g:Int->Int->Int):∀(xs ys:List Int),xs.length=ys.length->(ah g xs ys).reverse=ah g xs.reverse ys.reverse
 |[],[],_=>by simp[ah]
 |[],_::_,h=>by simp at h
 |_::_,[],h=>by simp at h
 |a::xs,b::ys,h=>by simp only[ah,List.reverse_cons];rw[tT g _ _ _ _ (by simpa using h),qb g xs ys (by simpa using h)]
theorem mG:∀xs ys:List Int,xs.length=ys.length->ag (ah (·+·) xs ys)=ag xs+ag ys
 |[],[],_=>by simp[ag,ah]
 |[],_::_,h=>by simp at h
 |_::_,[],h=>by simp at h
 |a::xs,b::ys,h=>by simp only[ah,ag];rw[mG xs ys (by simpa using h)];omega
theorem kA(o:Int)(xs ys:List Int):aF o xs ys=-aF o ys xs:=by
 unfold aF fT;have h1:=tR (ag xs) (ag ys);by_cases h:aR (ag xs) (ag ys)=0
 ·have h':aR (ag ys) (ag xs)=0:=by omega
  rw[if_pos h,if_pos h'];by_cases ho:o=1
  ·rw[if_pos ho,if_pos ho];exact lh _ _
  ·rw[if_neg ho,if_neg ho];exact lh _ _
 ·rw[if_neg h,if_neg (by omega)];exact h1
theorem AL(o:Int)(xs ys:List Int):-1<=aF o xs ys/\aF o xs ys<=1:=by
 unfold aF fT;have h1:=dL (ag xs) (ag ys);by_cases h:aR (ag xs) (ag ys)=0
 ·rw[if_pos h];by_cases ho:o=1
  ·rw[if_pos ho];exact p6 _ _
  ·rw[if_neg ho];exact p6 _ _
 ·rw[if_neg h];omega
theorem fj(o:Int)(xs ys:List Int)(hl:xs.length=ys.length):(aF o xs ys=0)↔xs=ys:=by
 unfold aF fT;have h1:=dL (ag xs) (ag ys);by_cases h:aR (ag xs) (ag ys)=0
 ·rw[if_pos h];by_cases ho:o=1
  ·rw[if_pos ho,p7 _ _ (by simp;omega)];constructor
   ·intro e;have:=congrArg List.reverse e;simpa using this.symm
   ·intro e;rw[e]
  ·rw[if_neg ho,p7 _ _ hl]
 ·rw[if_neg h];constructor
  ·intro e;exact absurd e h
  ·intro e;rw[e] at h1;rw[e] at h;omega
theorem jQ(o:Int)(xs ys zs:List Int)(h1:xs.length=ys.length)(h2:ys.length=zs.length)(h3:0<aF o xs ys)(h4:0<aF o ys zs):0<aF o xs zs:=by
 unfold aF fT at*;have hxy:=dL (ag xs) (ag ys);have hyz:=dL (ag ys) (ag zs);have hxz:=dL (ag xs) (ag zs);by_cases a:aR (ag xs) (ag ys)=0
 ·rw[if_pos a] at h3;by_cases b:aR (ag ys) (ag zs)=0
  ·rw[if_pos b] at h4;rw[if_pos (by omega)];by_cases ho:o=1
   ·rw[if_pos ho] at h3 h4⊢;have k1:=lh ys.reverse xs.reverse;have k2:=lh zs.reverse ys.reverse;exact Int.not_le.1 (λhn=>by
     have k3:=lh zs.reverse xs.reverse;have k4:=p8 zs.reverse ys.reverse xs.reverse (by simp;omega) (by simp;omega) h4 h3;omega)
   ·rw[if_neg ho] at h3 h4⊢;exact p8 xs ys zs h1 h2 h3 h4
  ·rw[if_neg b] at h4;rw[if_neg (by omega)];omega
 ·rw[if_neg a] at h3;by_cases b:aR (ag ys) (ag zs)=0
  ·rw[if_neg (by omega)];omega
  ·rw[if_neg b] at h4;rw[if_neg (by omega)];omega
theorem nS(o:Int)(xs ys zs:List Int)(h1:xs.length=ys.length)(h2:ys.length=zs.length):aF o (ah (·+·) xs zs) (ah (·+·) ys zs)=aF o xs ys:=by unfold aF fT;rw[mG xs zs (by omega),mG ys zs h2,tS,qb _ xs zs (by omega),qb _ ys zs h2,p9 _ _ _ (by simp;omega) (by simp;omega),p9 xs ys zs h1 h2]
def gK(x:Int):Bool:=decide (x<0)
theorem AM(zs:List Int)(k:Nat)(h:k<zs.length):(zs.take (k+1)).any gK=((zs.take k).any gK||gK (zs.getD k 0)):=by rw[List.take_succ_eq_append_getElem h,List.any_append];simp[Hs,h]
theorem lj(xs:List Int)(b off cap:Nat)(w:World)(hxs:∀x∈xs,0<=x/\x<=40000)(hl:xs.length<=3)(hc:cM w b off xs):Calls prog 26 #[.slice (some ⟨b,off,none⟩) xs.length cap] w λe w'=>e=.returned (.int .i64 (ag xs))/\w'=w:=by
 have HC:=aa hc;clear hc;go_enter func26,ntmps26;go_wp2;go_loop [3,4] (λn i=>∃k:Nat,k<=xs.length/\i=.int .i64 k/\n=.int .i64 (ag (xs.take k))) (λ_ i=>xs.length-(intOf i).toNat);case atStart=>exact⟨0,Hl _,rfl,rfl⟩
 case round=>
  obtain⟨k,hk,rfl,rfl⟩:=hrel;have hd:=jG (xs.take k) (λx hx=>hxs x (List.mem_of_mem_take hx));have hl2:(xs.take k).length<=k:=List.length_take_le _ _;by_cases hlt:k<xs.length
  ·have hsn:=sT xs k hlt;have hb:=hxs _ (gl xs k hlt);have hcell:=HC.o k hlt;generalize xs.getD k 0=y at hsn hb hcell;have HS:=aa hsn;clear hsn hxs;go_wp2;go_round;case rel=>exact⟨k+1,by omega,by go_num,by rw[HS.o]⟩
   case measure=>simp[intOf];omega
  ·go_wp2;go_ret;exact⟨cm (by rw[Hz (by omega)]),rfl⟩
def fk(xs ys:List Int):Bool:=(ah (· - ·) xs ys).any gK
theorem AN(xs ys:List Int)(b off cap b2 off2 cap2:Nat)(w:World)(hm:xs.length<=3)(hxy:xs.length=ys.length)(hc:cM w b off xs)(hc2:cM w b2 off2 ys):Calls prog 122 #[.slice (some ⟨b2,off2,none⟩) ys.length cap2,.slice (some ⟨b,off,none⟩) xs.length cap] w λe w'=>e=.returned (.bool (!fk xs ys))/\∃n,w'=w.drewN n:=by
 have HC:=aa hc;have HC2:=aa hc2;rw[<-hxy];have HXY:=aa hxy;have hlz:=eP (· - ·) xs ys hxy
 have HLZ:=aa hlz;clear hc hc2 hxy hlz;go_enter func122,ntmps122;go_wp2;go_loopw [5] (λi wr=>∃k n:Nat,k<=xs.length/\i=.int .i64 k/\((ah (· - ·) xs ys).take k).any gK=false/\wr=w.drewN n) (λi _=>xs.length-(intOf i).toNat)
 case atStart=>exact⟨0,0,Hl _,rfl,rfl,rfl⟩
 case round=>
  obtain⟨k,n0,hk,rfl,hn,hw0⟩:=hrel;have HN:=aa hn;have HW:=aa hw0;clear hn hw0;by_cases hk2:k<xs.length
  ·have hcell:=HC.o k hk2;have hcell2:=HC2.o k (by rw[<-HXY.o];exact hk2);have e1:∀a,wr.cell? a=w.cell? a:=λa=>by rw[HW.o];rfl
   rw[<-e1] at hcell hcell2;clear e1;have hz:=ky (· - ·) xs ys HXY.o k hk2
   have ht:=AM (ah (· - ·) xs ys) k (by rw[HLZ.o];exact hk2)
   have ha:=nK gK (ah (· - ·) xs ys) k (by rw[HLZ.o];exact hk2)
   rw[hz] at ht ha;have HT:=aa ht;have HA:=aa ha;clear hz ht ha;generalize xs.getD k 0=x at hcell HT HA;generalize ys.getD k 0=y at hcell2 HT HA;by_cases hy:x<y
   ·go_wp2;go_quiet (fail);go_wp2;go_ret;refine⟨?_,_,by rw[HW.o,World.drewN_drewN]⟩;unfold fk;rw[HA.o (by unfold gK;exact Hi (by omega))];rfl
   ·go_wp2;go_quiet (fail);go_wp2;go_roundw;case rel=>exact⟨k+1,_,by omega,by go_num,by rw[HT.o,HN.o,Bool.false_or];unfold gK;exact Hh (by omega),by rw[HW.o,World.drewN_drewN]⟩
    case measure=>simp[intOf];omega
  ·go_wp2;go_ret;refine⟨?_,n0,HW.o⟩;have:=HN.o;rw[Hz (by rw[HLZ.o];omega)] at this;unfold fk;rw[this];rfl
def W0(o:Int):Int:=if o=1 then 68719476736 else 68723671040
def W1(o:Int):Int:=if o=1 then 68719476480 else 68719476992
def W2(o:Int):Int:=if o=1 then 68715282432 else 68719476736
def bG(ov i:Int):Int:=if ov=2 then (255-i)*1125899906842624 else 255-i
def a8(o:Int)(xs:List Int):Int:=xs.getD 0 0*W0 o+xs.getD 1 0*W1 o+xs.getD 2 0*W2 o
def aK(o ov i:Int)(xs:List Int):Int:=bG ov i+a8 o xs
theorem qd{xs:List Int}(h0:0<xs.length)(h3:xs.length<=3):(∃a,xs=[a])\/(∃a b,xs=[a,b])\/(∃a b c,xs=[a,b,c]):=by
 match xs,h0,h3 with
 |[a],_,_=>exact Or.inl ⟨a,rfl⟩
 |[a,b],_,_=>exact Or.inr (Or.inl ⟨a,b,rfl⟩)
 |[a,b,c],_,_=>exact Or.inr (Or.inr ⟨a,b,c,rfl⟩)
 |_::_::_::_::_,_,h=>simp at h
theorem AO{xs ys:List Int}(h0:0<xs.length)(h3:xs.length<=3)(he:xs.length=ys.length):(∃a x,xs=[a]/\ys=[x])\/(∃a b x y,xs=[a,b]/\ys=[x,y])\/(∃a b c x y z,xs=[a,b,c]/\ys=[x,y,z]):=by rcases qd h0 h3 with ⟨a,rfl⟩|⟨a,b,rfl⟩|⟨a,b,c,rfl⟩<;>rcases qd (xs:=ys) (by omega) (by omega) with ⟨x,rfl⟩|⟨x,y,rfl⟩|⟨x,y,z,rfl⟩<;>simp at he<;>simp
structure dM(N:Nat)(xs:List Int):Prop where
 len:xs.length=N
 nn:∀x∈xs,0<=x
 deg:ag xs<=16000
theorem fl(a b:Int):(aR a b=0/\a=b)\/(aR a b=-1/\a<b)\/(aR a b=1/\b<a):=by
 unfold aR;by_cases h1:a<b
 ·exact Or.inr (Or.inl ⟨if_pos h1,h1⟩)
 ·by_cases h2:b<a
  ·exact Or.inr (Or.inr ⟨by rw[if_neg h1,if_pos h2],h2⟩)
  ·exact Or.inl ⟨by rw[if_neg h1,if_neg h2],by omega⟩
def kB(o:Int)(xs ys:List Int):Prop:=(0<aF o xs ys/\a8 o ys+256<=a8 o xs)\/(aF o xs ys<0/\a8 o xs+256<=a8 o ys)\/(aF o xs ys=0/\xs=ys)
theorem AP{o a x:Int}(ho:o=1\/o=2)(na:0<=a)(nx:0<=x):kB o [a] [x]:=by
 unfold kB;rcases ho with rfl|rfl<;>simp only[aF,fT,bF,ag,a8,W0,W1,W2,List.reverse_cons,List.reverse_nil,List.nil_append,List.getD_cons_zero,List.getD_cons_succ,List.getD_nil,List.cons.injEq,eq_self,and_true,if_true,show¬((2:Int)=1) from by decide,if_false,Int.add_zero]<;>
  rcases fl a x with ⟨e,h⟩|⟨e,h⟩|⟨e,h⟩<;>rcases fl x a with ⟨e2,h2⟩|⟨e2,h2⟩|⟨e2,h2⟩<;>simp only[e,e2,if_true,show¬((-1:Int)=0) from by decide,show¬((1:Int)=0) from by decide,if_false,true_and,false_and,or_false]<;>omega
theorem AQ{o a b x y:Int}(ho:o=1\/o=2)(na:0<=a)(nb:0<=b)(nx:0<=x)(ny:0<=y)(d1:a+b<=16000)(d2:x+y<=16000):kB o [a,b] [x,y]:=by
 unfold kB;rcases ho with rfl|rfl<;>simp only[aF,fT,bF,ag,a8,W0,W1,W2,List.reverse_cons,List.reverse_nil,List.nil_append,List.cons_append,List.getD_cons_zero,List.getD_cons_succ,List.getD_nil,List.cons.injEq,eq_self,and_true,if_true,show¬((2:Int)=1) from by decide,if_false,Int.add_zero]
 ·rcases fl (a+b) (x+y) with ⟨e,h⟩|⟨e,h⟩|⟨e,h⟩<;>simp only[e,if_true,show¬((-1:Int)=0) from by decide,show¬((1:Int)=0) from by decide,if_false,true_and,false_and,or_false]
  ·rcases fl y b with ⟨e,h⟩|⟨e,h⟩|⟨e,h⟩<;>simp only[e,if_true,show¬((-1:Int)=0) from by decide,show¬((1:Int)=0) from by decide,if_false,true_and,false_and,or_false]
   ·rcases fl x a with ⟨e,h⟩|⟨e,h⟩|⟨e,h⟩<;>simp only[e,if_true,show¬((-1:Int)=0) from by decide,show¬((1:Int)=0) from by decide,if_false,true_and,false_and,or_false]<;>omega
   ·omega
   ·omega
  ·omega
  ·omega
 ·rcases fl (a+b) (x+y) with ⟨e,h⟩|⟨e,h⟩|⟨e,h⟩<;>simp only[e,if_true,show¬((-1:Int)=0) from by decide,show¬((1:Int)=0) from by decide,if_false,true_and,false_and,or_false]
  ·rcases fl a x with ⟨e,h⟩|⟨e,h⟩|⟨e,h⟩<;>simp only[e,if_true,show¬((-1:Int)=0) from by decide,show¬((1:Int)=0) from by decide,if_false,true_and,false_and,or_false]
   ·rcases fl b y with ⟨e,h⟩|⟨e,h⟩|⟨e,h⟩<;>simp only[e,if_true,show¬((-1:Int)=0) from by decide,show¬((1:Int)=0) from by decide,if_false,true_and,false_and,or_false]<;>omega
   ·omega
   ·omega
  ·omega
  ·exact Or.inl ⟨by decide,by omega⟩
theorem AR{o a b c x y z:Int}(ho:o=1\/o=2)(na:0<=a)(nb:0<=b)(nc:0<=c)(nx:0<=x)(ny:0<=y)(nz:0<=z)(d1:a+(b+c)<=16000)(d2:x+(y+z)<=16000):kB o [a,b,c] [x,y,z]:=by
 unfold kB;rcases ho with rfl|rfl<;>simp only[aF,fT,bF,ag,a8,W0,W1,W2,List.reverse_cons,List.reverse_nil,List.nil_append,List.cons_append,List.getD_cons_zero,List.getD_cons_succ,List.getD_nil,List.cons.injEq,eq_self,and_true,if_true,show¬((2:Int)=1) from by decide,if_false,Int.add_zero]
 ·rcases fl (a+(b+c)) (x+(y+z)) with ⟨e,h⟩|⟨e,h⟩|⟨e,h⟩<;>simp only[e,if_true,show¬((-1:Int)=0) from by decide,show¬((1:Int)=0) from by decide,if_false,true_and,false_and,or_false]
  ·rcases fl z c with ⟨e,h⟩|⟨e,h⟩|⟨e,h⟩<;>simp only[e,if_true,show¬((-1:Int)=0) from by decide,show¬((1:Int)=0) from by decide,if_false,true_and,false_and,or_false]
   ·rcases fl y b with ⟨e,h⟩|⟨e,h⟩|⟨e,h⟩<;>simp only[e,if_true,show¬((-1:Int)=0) from by decide,show¬((1:Int)=0) from by decide,if_false,true_and,false_and,or_false]
    ·rcases fl x a with ⟨e,h⟩|⟨e,h⟩|⟨e,h⟩<;>simp only[e,if_true,show¬((-1:Int)=0) from by decide,show¬((1:Int)=0) from by decide,if_false,true_and,false_and,or_false]<;>omega
    ·omega
    ·omega
   ·omega
   ·omega
  ·omega
  ·omega
 ·rcases fl (a+(b+c)) (x+(y+z)) with ⟨e,h⟩|⟨e,h⟩|⟨e,h⟩<;>simp only[e,if_true,show¬((-1:Int)=0) from by decide,show¬((1:Int)=0) from by decide,if_false,true_and,false_and,or_false]
  ·rcases fl a x with ⟨e,h⟩|⟨e,h⟩|⟨e,h⟩<;>simp only[e,if_true,show¬((-1:Int)=0) from by decide,show¬((1:Int)=0) from by decide,if_false,true_and,false_and,or_false]
   ·rcases fl b y with ⟨e,h⟩|⟨e,h⟩|⟨e,h⟩<;>simp only[e,if_true,show¬((-1:Int)=0) from by decide,show¬((1:Int)=0) from by decide,if_false,true_and,false_and,or_false]
    ·rcases fl c z with ⟨e,h⟩|⟨e,h⟩|⟨e,h⟩<;>simp only[e,if_true,show¬((-1:Int)=0) from by decide,show¬((1:Int)=0) from by decide,if_false,true_and,false_and,or_false]<;>omega
    ·omega
    ·omega
   ·omega
   ·omega
  ·omega
  ·omega
theorem tU{o:Int}{N:Nat}{xs ys:List Int}(ho:o=1\/o=2)(h0:0<N)(h3:N<=3)(hx:dM N xs)(hy:dM N ys):kB o xs ys:=by
 obtain⟨lx,nx,dx⟩:=hx;obtain⟨ly,ny,dy⟩:=hy;rcases AO (xs:=xs) (ys:=ys) (by omega) (by omega) (by omega) with ⟨a,x,rfl,rfl⟩|⟨a,b,x,y,rfl,rfl⟩|⟨a,b,c,x,y,z,rfl,rfl⟩
 ·exact AP ho (nx a (by simp)) (ny x (by simp))
 ·exact AQ ho (nx a (by simp)) (nx b (by simp)) (ny x (by simp)) (ny y (by simp)) (by simpa [ag] using dx) (by simpa [ag] using dy)
 ·exact AR ho (nx a (by simp)) (nx b (by simp)) (nx c (by simp)) (ny x (by simp)) (ny y (by simp)) (ny z (by simp)) (by simpa [ag] using dx) (by simpa [ag] using dy)
end Go.Proofs.YtglijodcbdcngaaGreat
