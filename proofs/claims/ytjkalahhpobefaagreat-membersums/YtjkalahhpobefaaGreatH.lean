/- eachPair, together. -/
import Derived.Test.YtjkalahhpobefaaGreatA
import Derived.Deep.OwnRows
import Derived.Deep.RegionWith
set_option maxHeartbeats 400000
namespace Go.Proofs.YtjkalahhpobefaaGreat
set_option linter.all false
open Go.Proofs.Tryz Go.RowKit
theorem Tryz.info_int:(prog.info? 3).map (λi=>(i.zero,i.size,i.bytes))=some (some (PO 0),1,8):=by kernel_rfl
def aP(g:Int->Int->Int):PI->PI->PI
 |x::xs,y::ys=>g x y::aP g xs ys
 |_,_=>[]
theorem kC(g:Int->Int->Int)(xs ys:PI)(h:xs.length=ys.length):(aP g xs ys).length=xs.length:=by
 induction xs generalizing ys with
 |nil=>cases ys<;>simp[aP]
 |cons x xs ih=>cases ys with
  |nil=>simp at h
  |cons y ys=>simp[aP,ih ys (by simpa using h)]
theorem Am(g:Int->Int->Int)(xs ys:PI)(h:xs.length=ys.length)(k:Nat)(hk:k<xs.length):(aP g xs ys).getD k 0=g (xs.getD k 0) (ys.getD k 0):=by
 induction xs generalizing ys k with
 |nil=>simp at hk
 |cons x xs ih=>cases ys with
  |nil=>simp at h
  |cons y ys=>cases k with
   |zero=>simp[aP]
   |succ k=>have:=ih ys (by simpa using h) k (by simpa using hk);simpa [aP] using this
def iJ(w wr:PJ)(n k:Nat)(zs:PI):Prop:=
 Io w wr/\w.heap.size<wr.heap.size/\(∀i,i<n->(wr.cell? (PN w.heap.size i)).isSome=true/\wr.frozen? (PN w.heap.size i)=false)/\(∀i,i<k->wr.cell? (PN w.heap.size i)=some (PO (zs.getD i 0)))
theorem iJ.start(w:PJ)(n:Nat)(zs:PI):iJ w (w.alloc (.cells (madeCells #[PO 0] n) 3)) n 0 zs:=by refine⟨(Ov _ _).alloc (Ou _) _,by simp,λi hi=>⟨?_,by simp⟩,λi hi=>absurd hi (by omega)⟩;simp[size_madeCells,hi]
variable{zs:PI}{n k:Nat}{w wr:PJ}
theorem iJ.drawn(h:iJ w wr n k zs):iJ w wr.drew n k zs:=
 ⟨h.1.drew,h.2.1,h.2.2.1,h.2.2.2⟩
theorem iJ.step(h:iJ w wr n k zs)(hk:k<n)(v:Int)(hv:v=zs.getD k 0):iJ w (wr.setCell (PN w.heap.size k) (PO v)) n (k+1) zs:=by
 obtain⟨h1,h2,h3,h4⟩:=h;subst hv;have ne:∀i,¬i=k->((PN w.heap.size k):Addr)≠(PN w.heap.size i):=λi hi e=>hi (by injection e with _ e2 _;exact e2.symm);refine⟨h1.setCell (Ou _) _,by simpa using h2,λi hi=>?_,λi hi=>?_⟩
 .by_cases e:i=k
  .subst e;exact⟨by rw[World.cell?_setCell_same' wr _ _ (h3 i hi).1];rfl,by simpa using (h3 i hi).2⟩
  .rw[World.cell?_setCell_other (w:=wr) (h:=ne i e)];exact⟨(h3 i hi).1,by simpa using (h3 i hi).2⟩
 .by_cases e:i=k
  .subst e;rw[World.cell?_setCell_same' wr _ _ (h3 i hk).1]
  .rw[World.cell?_setCell_other (w:=wr) (h:=ne i e)];exact h4 i (by omega)
theorem Sl.empty(w:PJ):Sl w (.slice none 0 0) []:=⟨none,0,rfl,λh=>absurd h (by simp)⟩
theorem iJ.sl{w':PJ}(h:iJ w w' zs.length zs.length zs):Sl w' (PM w.heap.size zs.length zs.length) zs:=
 ⟨_,_,rfl,λ_=>⟨_,_,rfl,h.2.1,λi hi=>by rw[ON];exact h.2.2.2 i hi⟩⟩
theorem mq(w:PJ):Calls prog 17 #[] w λe w'=>e=.returned (aI 7 2 1 1)/\Io w w':=by go_enter func17,ntmps17;go_wp2;exact OC (v:=aI 7 2 1 1) (by simp[results,Tryz.results17,go_sem]) rfl ⟨rfl,(Ov _ _).alloc (Ou _) _⟩
theorem Sl.new2(w:PJ)(a b:Int)(T:TypeId):Sl (w.alloc (.cells #[PO a,PO b] T)) (PM w.heap.size 2 2) [a,b]:=by
 refine⟨_,_,rfl,λ_=>⟨_,_,rfl,by simp,λi hi=>?_⟩⟩;simp at hi;rcases i with _|_|i
 .simp
 .simp
 .omega
theorem iZ{A:Obj}:Io w (w.alloc A):=(Ov _ _).alloc (Ou _) _
theorem An(a b:Int):bi a b=-bi b a:=by unfold bi;split<;>split<;>omega
theorem iK(a b:Int):bi a b=-1/\a<b\/bi a b=0/\a=b\/bi a b=1/\b<a:=by
 unfold bi;split
 .omega
 .split<;>omega
theorem Ao(a b c:Int):bi (a+c) (b+c)=bi a b:=by have h1:=iK a b;have h2:=iK (a+c) (b+c);omega
theorem nB:∀xs ys:PI,cz xs ys=-cz ys xs
 |[],[]=>by simp[cz]
 |[],_::_=>by simp[cz]
 |_::_,[]=>by simp[cz]
 |x::xs,y::ys=>by
  simp only[cz];have h1:=An x y;have h2:=nB xs ys;by_cases h:bi x y=0
  .rw[OW h,OW (by omega)];exact h2
  .rw[OV h,OV (by omega)];exact h1
theorem uT:∀xs ys:PI,-1<=cz xs ys/\cz xs ys<=1
 |[],[]=>by simp[cz]
 |[],_::_=>by simp[cz]
 |_::_,[]=>by simp[cz]
 |x::xs,y::ys=>by
  simp only[cz];have h1:=iK x y;have h2:=uT xs ys;by_cases h:bi x y=0
  .rw[OW h];exact h2
  .rw[OV h];omega
theorem uU:∀xs ys:PI,xs.length=ys.length->(cz xs ys=0↔xs=ys)
 |[],[],_=>by simp[cz]
 |[],_::_,h=>by simp at h
 |_::_,[],h=>by simp at h
 |x::xs,y::ys,hl=>by
  simp only[cz,List.cons.injEq];have h1:=iK x y;have h2:=uU xs ys (by simpa using hl);by_cases h:bi x y=0
  .rw[OW h,h2];constructor
   .intro e;exact⟨by omega,e⟩
   .intro e;exact e.2
  .rw[OV h];constructor
   .intro e;exact absurd e h
   .intro e;omega
theorem uV:∀xs ys zs:PI,xs.length=ys.length->ys.length=zs.length->0<cz xs ys->0<cz ys zs->0<cz xs zs
 |[],[],_,_,_,h,_=>by simp[cz] at h
 |[],_::_,_,h,_,_,_=>by simp at h
 |_::_,[],_,h,_,_,_=>by simp at h
 |_::_,_::_,[],_,h,_,_=>by simp at h
 |x::xs,y::ys,z::zs,h1,h2,h3,h4=>by
  simp only[cz] at h3 h4⊢;have hxy:=iK x y;have hyz:=iK y z;have hxz:=iK x z;by_cases a:bi x y=0
  .rw[OW a] at h3;by_cases b:bi y z=0
   .rw[OW b] at h4;rw[OW (by omega)];exact uV xs ys zs (by simpa using h1) (by simpa using h2) h3 h4
   .rw[OV b] at h4;rw[OV (by omega)];omega
  .rw[OV a] at h3;by_cases b:bi y z=0
   .rw[OV (by omega)];omega
   .rw[OV b] at h4;rw[OV (by omega)];omega
theorem uW:∀xs ys zs:PI,xs.length=ys.length->ys.length=zs.length->cz (aP (·+·) xs zs) (aP (·+·) ys zs)=cz xs ys
 |[],[],_,_,_=>by simp[cz,aP]
 |[],_::_,_,h,_=>by simp at h
 |_::_,[],_,h,_=>by simp at h
 |_::_,_::_,[],_,h=>by simp at h
 |x::xs,y::ys,z::zs,h1,h2=>by simp only[cz,aP];rw[Ao,uW xs ys zs (by simpa using h1) (by simpa using h2)]
theorem Ap(g:Int->Int->Int):∀(xs ys:PI)(x y:Int),xs.length=ys.length->aP g (xs++[x]) (ys++[y])=aP g xs ys++[g x y]
 |[],[],_,_,_=>by simp[aP]
 |[],_::_,_,_,h=>by simp at h
 |_::_,[],_,_,h=>by simp at h
 |a::xs,b::ys,x,y,h=>by simp[aP,Ap g xs ys x y (by simpa using h)]
theorem uX(g:Int->Int->Int):∀(xs ys:PI),xs.length=ys.length->(aP g xs ys).reverse=aP g xs.reverse ys.reverse
 |[],[],_=>by simp[aP]
 |[],_::_,h=>by simp at h
 |_::_,[],h=>by simp at h
 |a::xs,b::ys,h=>by simp only[aP,List.reverse_cons];rw[Ap g _ _ _ _ (by simpa using h),uX g xs ys (by simpa using h)]
theorem pm:∀xs ys:PI,xs.length=ys.length->au (aP (·+·) xs ys)=au xs+au ys
 |[],[],_=>by simp[au,aP]
 |[],_::_,h=>by simp at h
 |_::_,[],h=>by simp at h
 |a::xs,b::ys,h=>by simp only[aP,au];rw[pm xs ys (by simpa using h)];omega
theorem uY(o:Int)(xs ys:PI):aW o xs ys=-aW o ys xs:=by
 unfold aW kl;have h1:=An (au xs) (au ys);by_cases h:bi (au xs) (au ys)=0
 .have h':bi (au ys) (au xs)=0:=by omega
  rw[OW h,OW h'];by_cases ho:o=1
  .rw[OW ho,OW ho];exact nB _ _
  .rw[OV ho,OV ho];exact nB _ _
 .rw[OV h,OV (by omega)];exact h1
theorem GB(o:Int)(xs ys:PI):-1<=aW o xs ys/\aW o xs ys<=1:=by
 unfold aW kl;have h1:=iK (au xs) (au ys);by_cases h:bi (au xs) (au ys)=0
 .rw[OW h];by_cases ho:o=1
  .rw[OW ho];exact uT _ _
  .rw[OV ho];exact uT _ _
 .rw[OV h];omega
theorem lo(o:Int)(xs ys:PI)(hl:xs.length=ys.length):(aW o xs ys=0)↔xs=ys:=by
 unfold aW kl;have h1:=iK (au xs) (au ys);by_cases h:bi (au xs) (au ys)=0
 .rw[OW h];by_cases ho:o=1
  .rw[OW ho,uU _ _ (by simp;omega)];constructor
   .intro e;have:=congrArg List.reverse e;simpa using this.symm
   .intro e;rw[e]
  .rw[OV ho,uU _ _ hl]
 .rw[OV h];constructor
  .intro e;exact absurd e h
  .intro e;rw[e] at h1;rw[e] at h;omega
theorem mr(o:Int)(xs ys zs:PI)(h1:xs.length=ys.length)(h2:ys.length=zs.length)(h3:0<aW o xs ys)(h4:0<aW o ys zs):0<aW o xs zs:=by
 unfold aW kl at*;have hxy:=iK (au xs) (au ys);have hyz:=iK (au ys) (au zs);have hxz:=iK (au xs) (au zs);by_cases a:bi (au xs) (au ys)=0
 .rw[OW a] at h3;by_cases b:bi (au ys) (au zs)=0
  .rw[OW b] at h4;rw[OW (by omega)];by_cases ho:o=1
   .rw[OW ho] at h3 h4⊢;have k1:=nB ys.reverse xs.reverse;have k2:=nB zs.reverse ys.reverse;exact Int.not_le.1 (λhn=>by
     have k3:=nB zs.reverse xs.reverse;have k4:=uV zs.reverse ys.reverse xs.reverse (by simp;omega) (by simp;omega) h4 h3;omega)
   .rw[OV ho] at h3 h4⊢;exact uV xs ys zs h1 h2 h3 h4
  .rw[OV b] at h4;rw[OV (by omega)];omega
 .rw[OV a] at h3;by_cases b:bi (au ys) (au zs)=0
  .rw[OV (by omega)];omega
  .rw[OV b] at h4;rw[OV (by omega)];omega
theorem ri(o:Int)(xs ys zs:PI)(h1:xs.length=ys.length)(h2:ys.length=zs.length):aW o (aP (·+·) xs zs) (aP (·+·) ys zs)=aW o xs ys:=by unfold aW kl;rw[pm xs zs (by omega),pm ys zs h2,Ao,uX _ xs zs (by omega),uX _ ys zs h2,uW _ _ _ (by simp;omega) (by simp;omega),uW xs ys zs h1 h2]
end Go.Proofs.YtjkalahhpobefaaGreat
namespace Go.Proofs.YtjkalahhpobefaaGreat
open Go.Proofs.Tryz
set_option linter.all false
abbrev Tm:=Int×PI
abbrev LT:=List Tm
abbrev Lt:=List LT
abbrev PA:=List Lt
def bZ(p o:Int):LT->Tm->LT
 |[],t=>[t]
 |u::out,t=>if 0<aW o u.2 t.2 then u::bZ p o out t else if u.2=t.2 then ((u.1+t.1)%p,u.2)::out else t::u::out
def aR(p o:Int)(l:LT):LT:=(l.foldl (bZ p o) []).filter λt=>t.1%p !=0
def az(φ:PI->Int):LT->Int
 |[]=>0
 |t::ts=>t.1*φ t.2+az φ ts
theorem nC(φ:PI->Int):∀ts us:LT,az φ (ts++us)=az φ ts+az φ us
 |[],us=>by simp[az]
 |t::ts,us=>by simp only[List.cons_append,az];rw[nC φ ts us];omega
theorem jU(p x:Int):p∣x%p-x:=⟨-(x/p),by rw[Int.emod_def];grind⟩
theorem Aq(p o:Int)(φ:PI->Int)(t:Tm):∀out:LT,p∣az φ (bZ p o out t)-(az φ out+t.1*φ t.2)
 |[]=>by simp[bZ,az]
 |u::out=>by
  simp only[bZ];split
  .simp only[az];have:=Aq p o φ t out;have e:u.1*φ u.2+az φ (bZ p o out t)-(u.1*φ u.2+az φ out+t.1*φ t.2)=az φ (bZ p o out t)-(az φ out+t.1*φ t.2):=by omega
   rw[e];exact this
  .split
   .rename_i _ h;simp only[az];obtain⟨k,hk⟩:=jU p (u.1+t.1);rw[<-h];exact⟨k*φ u.2,by grind⟩
   .simp only[az];exact⟨0,by omega⟩
theorem Ar(p o:Int)(φ:PI->Int):∀(l out:LT),p∣az φ (l.foldl (bZ p o) out)-(az φ out+az φ l)
 |[],out=>by simp[az]
 |t::l,out=>by
  simp only[List.foldl_cons,az];have h1:=Ar p o φ l (bZ p o out t);have h2:=Aq p o φ t out;have h3:=Int.dvd_add h1 h2;have e:az φ (l.foldl (bZ p o) (bZ p o out t))-(az φ (bZ p o out t)+az φ l)+(az φ (bZ p o out t)-(az φ out+t.1*φ t.2))=az φ (l.foldl (bZ p o) (bZ p o out t))-(az φ out+(t.1*φ t.2+az φ l)):=by omega
  rw[e] at h3;exact h3
theorem As(p:Int)(φ:PI->Int):∀ts:LT,p∣az φ (ts.filter λt=>t.1%p !=0)-az φ ts
 |[]=>by simp[az]
 |t::ts=>by
  have h:=As p φ ts;by_cases ht:t.1%p=0
  .have e:(t::ts).filter (λt=>t.1%p !=0)=ts.filter λt=>t.1%p !=0:=by simp[List.filter_cons,ht]
   rw[e];simp only[az];obtain⟨k,hk⟩:=h;obtain⟨m,hm⟩:=Int.dvd_of_emod_eq_zero ht;exact⟨k-m*φ t.2,by grind⟩
  .have e:(t::ts).filter (λt=>t.1%p !=0)=t::ts.filter λt=>t.1%p !=0:=by simp[List.filter_cons,ht]
   rw[e];simp only[az];have e2:t.1*φ t.2+az φ (ts.filter λt=>t.1%p !=0)-(t.1*φ t.2+az φ ts)=az φ (ts.filter λt=>t.1%p !=0)-az φ ts:=by omega
   rw[e2];exact h
theorem pp(p o:Int)(φ:PI->Int)(l:LT):p∣az φ (aR p o l)-az φ l:=by
 unfold aR;have h1:=As p φ (l.foldl (bZ p o) []);have h2:=Ar p o φ l [];have h3:=Int.dvd_add h1 h2;simp only[az,Int.zero_add] at h3;have e:∀a b c:Int,a-b+(b-c)=a-c:=λa b c=>by omega
 rw[e] at h3;exact h3
def ij(o:Int):LT->Prop
 |[]=>True
 |t::ts=>(∀u∈ts,0<aW o t.2 u.2)/\ij o ts
def eJ(n:Nat)(ts:LT):Prop:=∀t∈ts,t.2.length=n
theorem rj{p o:Int}{t:Tm}:∀{out:LT}{x:Tm},x∈bZ p o out t->x.2=t.2\/∃u∈out,x.2=u.2
 |[],x,h=>by simp[bZ] at h;exact Pf (by rw[h])
 |u::out,x,h=>by
  simp only[bZ] at h;split at h
  .simp only[OY] at h;rcases h with rfl|h
   .exact Pg ⟨x,by simp,rfl⟩
   .rcases rj h with h|⟨y,hy,h⟩
    .exact Pf h
    .exact Pg ⟨y,by simp[hy],h⟩
  .split at h
   .simp only[OY] at h;rcases h with rfl|h
    .exact Pg ⟨u,by simp,rfl⟩
    .exact Pg ⟨x,by simp[h],rfl⟩
   .simp only[OY] at h;rcases h with rfl|rfl|h
    .exact Pf rfl
    .exact Pg ⟨x,by simp,rfl⟩
    .exact Pg ⟨x,by simp[h],rfl⟩
variable{t:Tm}{n:Nat}{p o:Int}
theorem GC{out:LT}(h:eJ n out)(ht:t.2.length=n):eJ n (bZ p o out t):=by
 intro x hx;rcases rj hx with h1|⟨u,hu,h1⟩
 .rw[h1];exact ht
 .rw[h1];exact h u hu
theorem At{p o:Int}{n:Nat}{t:Tm}(ht:t.2.length=n):∀{out:LT},eJ n out->ij o out->ij o (bZ p o out t)
 |[],_,_=>⟨by simp,trivial⟩
 |u::out,hl,⟨h1,h2⟩=>by
  have hu:u.2.length=n:=hl u (by simp);have hlo:eJ n out:=λx hx=>hl x (by simp[hx]);simp only[bZ];by_cases hm:0<aW o u.2 t.2
  .rw[OW hm];refine⟨λx hx=>?_,At ht hlo h2⟩;rcases rj hx with h|⟨y,hy,h⟩
   .rw[h];exact hm
   .rw[h];exact h1 y hy
  .rw[OV hm];by_cases he:u.2=t.2
   .rw[OW he];exact⟨h1,h2⟩
   .rw[OV he];have hz:=lo o u.2 t.2 (by omega);have hneg:=uY o u.2 t.2;have htu:0<aW o t.2 u.2:=by have:aW o u.2 t.2≠0:=λe=>he (hz.1 e);omega
    refine⟨λx hx=>?_,h1,h2⟩;simp only[OY] at hx;rcases hx with rfl|hx
    .exact htu
    .exact mr o t.2 u.2 x.2 (by omega) (by rw[hlo x hx];exact hu) htu (h1 x hx)
theorem Au{p o:Int}{n:Nat}:∀(l out:LT),eJ n l->eJ n out->ij o out->eJ n (l.foldl (bZ p o) out)/\ij o (l.foldl (bZ p o) out)
 |[],out,_,ho,hf=>⟨ho,hf⟩
 |t::l,out,hl,ho,hf=>Au l (bZ p o out t) (λx hx=>hl x (by simp[hx])) (GC ho (hl t (by simp))) (At (hl t (by simp)) ho hf)
theorem uZ{o:Int}(f:Tm->Bool):∀{ts:LT},ij o ts->ij o (ts.filter f)
 |[],_=>trivial
 |t::ts,⟨h1,h2⟩=>by
  simp only[List.filter_cons];split
  .exact⟨λu hu=>h1 u (O5.1 hu).1,uZ f h2⟩
  .exact uZ f h2
theorem Av{p o:Int}(hp:2<=p){t:Tm}(ht:0<=t.1/\t.1<p):∀{out:LT},(∀u∈out,0<=u.1/\u.1<p)->∀x∈bZ p o out t,0<=x.1/\x.1<p
 |[],_,x,hx=>by simp[bZ] at hx;rw[hx];exact ht
 |u::out,h,x,hx=>by
  simp only[bZ] at hx;split at hx
  .simp only[OY] at hx;rcases hx with rfl|hx
   .exact h x (by simp)
   .exact Av hp ht (λy hy=>h y (by simp[hy])) x hx
  .split at hx
   .simp only[OY] at hx;rcases hx with rfl|hx
    .exact⟨Int.emod_nonneg _ (by omega),Int.emod_lt_of_pos _ (by omega)⟩
    .exact h x (by simp[hx])
   .simp only[OY] at hx;rcases hx with rfl|rfl|hx
    .exact ht
    .exact h x (by simp)
    .exact h x (by simp[hx])
theorem Aw{p o:Int}(hp:2<=p):∀(l out:LT),(∀u∈l,0<=u.1/\u.1<p)->(∀u∈out,0<=u.1/\u.1<p)->∀x∈l.foldl (bZ p o) out,0<=x.1/\x.1<p
 |[],out,_,ho=>ho
 |t::l,out,hl,ho=>Aw hp l (bZ p o out t) (λx hx=>hl x (by simp[hx])) (Av hp (hl t (by simp)) ho)
structure ck(p o:Int)(n:Nat)(ts:LT):Prop where
 len:eJ n ts
 falls:ij o ts
 coef:∀t∈ts,1<=t.1/\t.1<p
variable{l:LT}
theorem Ax(hp:2<=p)(hl:eJ n l)(hc:∀t∈l,0<=t.1/\t.1<p):ck p o n (aR p o l):=by
 have h:=Au (p:=p) (o:=o) (n:=n) l [] hl (λx hx=>by simp at hx) trivial;have hr:=Aw (o:=o) hp l [] hc (λx hx=>by simp at hx);refine⟨λt ht=>h.1 t (O5.1 ht).1,uZ _ h.2,λt ht=>?_⟩;unfold aR at ht;rw[O5] at ht;have h1:=hr t ht.1;have h2:t.1%p≠0:=by simpa using ht.2
 have h3:t.1≠0:=λe=>h2 (by rw[e];simp);omega
def eR(e:PI):PI->Int:=λx=>if x=e then 1 else 0
theorem nE{e:PI}:∀{ts:LT},(∀t∈ts,t.2≠e)->az (eR e) ts=0
 |[],_=>rfl
 |t::ts,h=>by simp only[az];rw[nE (λu hu=>h u (by simp[hu]))];unfold eR;rw[OV (h t (by simp))];simp
variable{ts:LT}
theorem Ay(hl:eJ n (t::ts))(hf:ij o (t::ts)):∀u∈ts,u.2≠t.2:=by intro u hu e;have h1:=hf.1 u hu;have:=(lo o t.2 u.2 (by rw[hl t (by simp),hl u (by simp[hu])])).2 e.symm;omega
theorem nF(hl:eJ n (t::ts))(hf:ij o (t::ts)):az (eR t.2) (t::ts)=t.1:=by show t.1*eR t.2 t.2+az (eR t.2) ts=t.1;rw[nE (Ay hl hf)];unfold eR;rw[OW rfl];omega
variable{a:Int}
theorem u7(h:p∣0-a):p∣a:=by obtain⟨k,hk⟩:=h;exact⟨-k,by rw[Int.mul_neg,<-hk];omega⟩
theorem Az(h:p∣a-0):p∣a:=by rwa [Int.sub_zero] at h
theorem vd{p o:Int}{n:Nat}(hp:2<=p):∀(ts us:LT),ck p o n ts->ck p o n us->(∀e,p∣az (eR e) ts-az (eR e) us)->ts=us
 |[],[],_,_,_=>rfl
 |[],u::us,_,hu,h=>by have h1:=h u.2;rw[nF hu.len hu.falls] at h1;have h2:=hu.coef u (by simp);have:=Int.le_of_dvd (by omega) (u7 h1);omega
 |t::ts,[],ht,_,h=>by have h1:=h t.2;rw[nF ht.len ht.falls] at h1;have h2:=ht.coef t (by simp);have:=Int.le_of_dvd (by omega) (Az h1);omega
 |t::ts,u::us,ht,hu,h=>by
  have tc:=ht.coef t (by simp);have uc:=hu.coef u (by simp);have tl:=ht.len t (by simp);have ul:=hu.len u (by simp);have hts:ck p o n ts:=⟨λx hx=>ht.len x (by simp[hx]),ht.falls.2,λx hx=>ht.coef x (by simp[hx])⟩;have hus:ck p o n us:=⟨λx hx=>hu.len x (by simp[hx]),hu.falls.2,λx hx=>hu.coef x (by simp[hx])⟩;have hsame:t.2=u.2:=by
   apply O3;intro hne;have hz:=lo o t.2 u.2 (by omega);have hg:=uY o t.2 u.2;have hnz:aW o t.2 u.2≠0:=λe=>hne (hz.1 e);by_cases hlt:0<aW o t.2 u.2
   .have h1:=h t.2;have hn:∀x∈u::us,x.2≠t.2:=by
     intro x hx e;simp only[OY] at hx;rcases hx with rfl|hx
     .exact hne e.symm
     .have h2:=hu.falls.1 x hx;have h3:=mr o t.2 u.2 x.2 (by omega) (by rw[ul,hu.len x (by simp[hx])]) hlt h2;have h4:=(lo o t.2 x.2 (by rw[tl,hu.len x (by simp[hx])])).2 e.symm;omega
    rw[nE hn,nF ht.len ht.falls] at h1;have:=Int.le_of_dvd (by omega) (Az h1);omega
   .have hlt2:0<aW o u.2 t.2:=by omega
    have h1:=h u.2;have hn:∀x∈t::ts,x.2≠u.2:=by
     intro x hx e;simp only[OY] at hx;rcases hx with rfl|hx
     .exact hne e
     .have h2:=ht.falls.1 x hx;have h3:=mr o u.2 t.2 x.2 (by omega) (by rw[tl,ht.len x (by simp[hx])]) hlt2 h2;have h4:=(lo o u.2 x.2 (by rw[ul,ht.len x (by simp[hx])])).2 e.symm;omega
    rw[nE hn,nF hu.len hu.falls] at h1;have:=Int.le_of_dvd (by omega) (u7 h1);omega
  have hcoef:t.1=u.1:=by
   have h2:=h t.2;rw[nF ht.len ht.falls,hsame,nF hu.len hu.falls] at h2;by_cases hd:t.1-u.1=0
   .omega
   .by_cases hd2:0<t.1-u.1
    .have:=Int.le_of_dvd hd2 h2;omega
    .have h3:p∣u.1-t.1:=by obtain⟨k,hk⟩:=h2;exact⟨-k,by rw[Int.mul_neg,<-hk];omega⟩
     have:=Int.le_of_dvd (by omega) h3;omega
  have htu:t=u:=Prod.ext hcoef hsame;subst htu;congr 1;refine vd hp ts us hts hus (λe=>?_);have h1:=h e;simp only[az] at h1;have e2:t.1*eR e t.2+az (eR e) ts-(t.1*eR e t.2+az (eR e) us)=az (eR e) ts-az (eR e) us:=by omega
  rwa [e2] at h1
theorem ve(hp:2<=p)(hl:eJ n l)(hc:∀t∈l,0<=t.1/\t.1<p)(ht:ck p o n ts)(h:∀φ,p∣az φ ts-az φ l):ts=aR p o l:=by refine vd hp ts (aR p o l) ht (Ax hp hl hc) (λe=>?_);obtain⟨a,ha⟩:=h (eR e);obtain⟨b,hb⟩:=pp p o (eR e) l;exact⟨a-b,by rw[Int.mul_sub,<-ha,<-hb];omega⟩
def cB(p:Int)(t:Tm)(g:LT):LT:=g.map λu=>(t.1*u.1%p,aP (·+·) t.2 u.2)
def aH(p:Int)(f g:LT):LT:=f.flatMap λt=>cB p t g
theorem AA(p:Int)(φ:PI->Int)(t:Tm):∀g:LT,p∣az φ (cB p t g)-t.1*az (λb=>φ (aP (·+·) t.2 b)) g
 |[]=>by simp[cB,az]
 |u::g=>by
  have h:=AA p φ t g;have e:cB p t (u::g)=(t.1*u.1%p,aP (·+·) t.2 u.2)::cB p t g:=rfl
  rw[e];simp only[az];obtain⟨k,hk⟩:=h;obtain⟨m,hm⟩:=jU p (t.1*u.1);exact⟨k+m*φ (aP (·+·) t.2 u.2),by grind⟩
theorem nG(p:Int)(φ:PI->Int)(g:LT):∀f:LT,p∣az φ (aH p f g)-az (λa=>az (λb=>φ (aP (·+·) a b)) g) f
 |[]=>by simp[aH,az]
 |t::f=>by
  have h:=nG p φ g f;have e:aH p (t::f) g=cB p t g++aH p f g:=rfl;rw[e,nC];simp only[az];have h2:=AA p φ t g;have h3:=Int.dvd_add h2 h;have e2:∀a b c d:Int,a-b+(c-d)=a+c-(b+d):=λa b c d=>by omega
  rw[e2] at h3;exact h3
theorem AB(f:LT):az (λ_=>0) f=0:=by
 induction f with
 |nil=>rfl
 |cons t f ih=>simp only[az];rw[ih];simp
theorem AC(φ ψ:PI->Int)(f:LT):az (λa=>φ a+ψ a) f=az φ f+az ψ f:=by
 induction f with
 |nil=>rfl
 |cons t f ih=>simp only[az];rw[ih];grind
theorem GD(c:Int)(φ:PI->Int)(f:LT):az (λa=>c*φ a) f=c*az φ f:=by
 induction f with
 |nil=>simp[az]
 |cons t f ih=>simp only[az];rw[ih];grind
theorem GF(F:PI->PI->Int)(f g:LT):az (λa=>az (λb=>F a b) g) f=az (λb=>az (λa=>F a b) f) g:=by
 induction g with
 |nil=>simp only[az];exact AB f
 |cons u g ih=>simp only[az];rw[AC,ih,GD]
theorem lp:∀a b:PI,aP (·+·) a b=aP (·+·) b a
 |[],[]=>rfl
 |[],_::_=>rfl
 |_::_,[]=>rfl
 |x::a,y::b=>by simp only[aP];rw[lp a b,Int.add_comm]
theorem ps{φ ψ:PI->Int}{f:LT}(h:∀t∈f,φ t.2=ψ t.2):az φ f=az ψ f:=by
 induction f with
 |nil=>rfl
 |cons t f ih=>simp only[az];rw[h t (by simp),ih (λu hu=>h u (by simp[hu]))]
end Go.Proofs.YtjkalahhpobefaaGreat
namespace Go.Proofs.YtjkalahhpobefaaGreat
set_option linter.all false
open Go.Proofs.Tryz Go.RowKit
def bV:Tm:=(0,[])
def rl(w:PJ)(b off:Nat)(ts:LT):Prop:=
 ∀i,i<ts.length->w.cell? ⟨b,off+i*2,none⟩=some (PO (ts.getD i bV).1)/\∃v,w.cell? ⟨b,off+i*2+1,none⟩=some v/\Sl w v (ts.getD i bV).2
variable{ts:LT}{b off:Nat}{w w':PJ}
theorem rl.below(h:rl w b off ts)(hlt:b<w.heap.size)(hb:Io w w'):rl w' b off ts:=by intro i hi;obtain⟨h1,v,h2,h3⟩:=h i hi;exact⟨by rw[hb.cell (p:=⟨b,off+i*2,none⟩) hlt];exact h1,v,by rw[hb.cell (p:=⟨b,off+i*2+1,none⟩) hlt];exact h2,h3.below hb⟩
def Pl(w:PJ)(v:PK)(ts:LT):Prop:=
 ∃a cap,v=.slice a ts.length cap/\ts.length<=cap/\(0<ts.length->∃b off,a=some (PN b off)/\b<w.heap.size/\rl w b off ts)
variable{v:PK}
theorem Pl.below(h:Pl w v ts)(hb:Io w w'):Pl w' v ts:=by obtain⟨a,cap,rfl,hcap,h⟩:=h;refine⟨a,cap,rfl,hcap,λhp=>?_⟩;obtain⟨b,off,rfl,hlt,hc⟩:=h hp;exact⟨b,off,rfl,Oz hlt hb.size,hc.below hlt hb⟩
theorem Pl.empty(w:PJ):Pl w (.slice none 0 0) []:=⟨none,0,rfl,Ou _,λh=>absurd h (by simp)⟩
def rm(w:PJ)(b off:Nat)(fs:Lt):Prop:=
 ∀i,i<fs.length->∃v,w.cell? (PN b (off+i))=some v/\Pl w v (fs.getD i [])
variable{fs:Lt}
theorem rm.below(h:rm w b off fs)(hlt:b<w.heap.size)(hb:Io w w'):rm w' b off fs:=by intro i hi;obtain⟨v,hc,hs⟩:=h i hi;exact⟨v,by rw[hb.cell (p:=(PN b (off+i))) hlt];exact hc,hs.below hb⟩
def Vl(w:PJ)(v:PK)(fs:Lt):Prop:=
 ∃a cap,v=.slice a fs.length cap/\(0<fs.length->∃b off,a=some (PN b off)/\b<w.heap.size/\rm w b off fs)
theorem Vl.below(h:Vl w v fs)(hb:Io w w'):Vl w' v fs:=by obtain⟨a,cap,rfl,h⟩:=h;refine⟨a,cap,rfl,λhp=>?_⟩;obtain⟨b,off,rfl,hlt,hc⟩:=h hp;exact⟨b,off,rfl,Oz hlt hb.size,hc.below hlt hb⟩
end Go.Proofs.YtjkalahhpobefaaGreat
namespace Go.Proofs.YtjkalahhpobefaaGreat
open Go.Proofs.Tryz
set_option linter.all false
def ct(p:Int)(l m:LT):Prop:=∀φ,p∣az φ l-az φ m
theorem ct.refl(p:Int)(l:LT):ct p l l:=λφ=>⟨0,by omega⟩
variable{l m:LT}{p:Int}
theorem ct.symm(h:ct p l m):ct p m l:=λφ=>by obtain⟨k,hk⟩:=h φ;exact⟨-k,by rw[Int.mul_neg,<-hk];omega⟩
theorem ct.trans{k:LT}(h:ct p l m)(h2:ct p m k):ct p l k:=λφ=>by obtain⟨a,ha⟩:=h φ;obtain⟨b,hb⟩:=h2 φ;exact⟨a+b,by rw[Int.mul_add,<-ha,<-hb];omega⟩
theorem ct.append{l2 m2:LT}(h:ct p l m)(h2:ct p l2 m2):ct p (l++l2) (m++m2):=λφ=>by obtain⟨a,ha⟩:=h φ;obtain⟨b,hb⟩:=h2 φ;exact⟨a+b,by rw[nC,nC,Int.mul_add,<-ha,<-hb];omega⟩
theorem pu(p o:Int)(l:LT):ct p (aR p o l) l:=λφ=>pp p o φ l
theorem AD{p:Int}{φ ψ:PI->Int}:∀{f:LT},(∀t∈f,p∣φ t.2-ψ t.2)->p∣az φ f-az ψ f
 |[],_=>⟨0,by simp[az]⟩
 |t::f,h=>by obtain⟨a,ha⟩:=h t (by simp);obtain⟨b,hb⟩:=AD (f:=f) (λu hu=>h u (by simp[hu]));simp only[az];exact⟨t.1*a+b,by grind⟩
variable{g h:LT}
theorem ct.prodR(f:LT)(hs:ct p g h):ct p (aH p f g) (aH p f h):=λφ=>by
 obtain⟨a,ha⟩:=nG p φ g f;obtain⟨b,hb⟩:=nG p φ h f;obtain⟨c,hc⟩:=AD (p:=p) (f:=f) (φ:=λx=>az (λb=>φ (aP (·+·) x b)) g) (ψ:=λx=>az (λb=>φ (aP (·+·) x b)) h) (λt _=>hs _)
 exact⟨a+c-b,by grind⟩
theorem vf(p:Int)(f g:LT):ct p (aH p f g) (aH p g f):=λφ=>by
 obtain⟨a,ha⟩:=nG p φ g f;obtain⟨b,hb⟩:=nG p φ f g;have e:az (λx=>az (λy=>φ (aP (·+·) x y)) g) f=az (λx=>az (λy=>φ (aP (·+·) x y)) f) g:=by rw[GF];refine ps (λt _=>ps (λu _=>?_));rw[lp]
 exact⟨a-b,by rw[Int.mul_sub,<-ha,<-hb,e];omega⟩
variable{f:LT}
theorem ct.prodL(h:LT)(hs:ct p f g):ct p (aH p f h) (aH p g h):=
 (vf p f h).trans ((ct.prodR h hs).trans (vf p h g))
theorem GG(p:Int)(f g h:LT):aH p (f++g) h=aH p f h++aH p g h:=by unfold Go.Proofs.YtjkalahhpobefaaGreat.aH;rw[List.flatMap_append]
structure dS(p:Int)(n:Nat)(l:LT):Prop where
 len:eJ n l
 coef:∀t∈l,0<=t.1/\t.1<p
variable{n:Nat}{o:Int}
theorem ck.okl{ts:LT}(h:ck p o n ts):dS p n ts:=⟨h.len,λt ht=>by have:=h.coef t ht;omega⟩
theorem dS.append(h:dS p n l)(h2:dS p n m):dS p n (l++m):=
 ⟨λt ht=>(OK.1 ht).elim (h.len t) (h2.len t),λt ht=>(OK.1 ht).elim (h.coef t) (h2.coef t)⟩
theorem dS.prod(hp:2<=p)(h:dS p n l)(h2:dS p n m):dS p n (aH p l m):=by
 constructor
 .intro t ht;simp only[Go.Proofs.YtjkalahhpobefaaGreat.aH,cB,Pk,OR] at ht;obtain⟨a,ha,b,hb,rfl⟩:=ht;simp only;rw[kC _ _ _ (by rw[h.len a ha,h2.len b hb]),h.len a ha]
 .intro t ht;simp only[Go.Proofs.YtjkalahhpobefaaGreat.aH,cB,Pk,OR] at ht;obtain⟨a,ha,b,hb,rfl⟩:=ht;exact⟨Int.emod_nonneg _ (by omega),Int.emod_lt_of_pos _ (by omega)⟩
theorem dS.col(hp:2<=p)(h:dS p n l):ck p o n (aR p o l):=Ax hp h.len h.coef
theorem ct.col(hp:2<=p)(hl:dS p n l)(hm:dS p n m)(h:ct p l m):aR p o l=aR p o m:=
 ve hp hm.len hm.coef (hl.col hp) ((pu p o l).trans h)
theorem ct.canon(hp:2<=p)(hl:ck p o n l)(hm:ck p o n m)(h:ct p l m):l=m:=
 vd hp l m hl hm (λe=>h (eR e))
theorem GH(hp:2<=p)(hf:dS p n f)(hg:dS p n g):aR p o (aH p f g)=aR p o (aH p g f):=
 ct.col hp (hf.prod hp hg) (hg.prod hp hf) (vf p f g)
theorem Om(hp:2<=p)(hf:dS p n f)(hg:dS p n g)(hh:dS p n h):aR p o (aR p o (aH p f h)++aR p o (aH p g h))=aR p o (aH p (aR p o (f++g)) h):=by refine ct.col hp (((hf.prod hp hh).col hp (o:=o)).okl.append ((hg.prod hp hh).col hp (o:=o)).okl) (((hf.append hg).col hp (o:=o)).okl.prod hp hh) ?_;refine((pu p o _).append (pu p o _)).trans ?_;rw[<-GG];exact ct.prodL h (pu p o _).symm
def cD(p o:Int):LT->LT->LT
 |[],g=>g
 |t::f,[]=>t::f
 |t::f,u::g=>
  if 0<aW o t.2 u.2 then t::cD p o f (u::g)
  else if aW o t.2 u.2<0 then u::cD p o (t::f) g
  else if (t.1+u.1)%p≠0 then ((t.1+u.1)%p,t.2)::cD p o f g else cD p o f g
theorem nH(p o:Int)(g:LT):cD p o [] g=g:=by unfold cD;rfl
theorem nI(p o:Int)(f:LT):cD p o f []=f:=by cases f<;>(unfold cD;rfl)
variable{t u:Tm}
theorem nJ(h:0<aW o t.2 u.2):cD p o (t::f) (u::g)=t::cD p o f (u::g):=by rw[cD.eq_def];simp[h]
theorem nL(h:aW o t.2 u.2<0):cD p o (t::f) (u::g)=u::cD p o (t::f) g:=by rw[cD.eq_def];simp[h,show¬0<aW o t.2 u.2 by omega]
theorem nM(h:aW o t.2 u.2=0)(h2:(t.1+u.1)%p≠0):cD p o (t::f) (u::g)=((t.1+u.1)%p,t.2)::cD p o f g:=by rw[cD.eq_def];simp[h,h2]
theorem nN(h:aW o t.2 u.2=0)(h2:(t.1+u.1)%p=0):cD p o (t::f) (u::g)=cD p o f g:=by rw[cD.eq_def];simp[h,h2]
theorem lq{o:Int}(P:LT->LT->Prop)(hl:∀g,P [] g)(hr:∀f,P f [])(h1:∀t f u g,0<aW o t.2 u.2->P f (u::g)->P (t::f) (u::g))(h2:∀t f u g,aW o t.2 u.2<0->P (t::f) g->P (t::f) (u::g))(h3:∀t f u g,aW o t.2 u.2=0->P f g->P (t::f) (u::g)):∀(k:Nat)(f g:LT),f.length+g.length<=k->P f g
 |_,[],g,_=>hl g
 |_,t::f,[],_=>hr _
 |0,t::f,u::g,h=>by simp at h
 |k+1,t::f,u::g,h=>by
  simp only[OZ] at h;by_cases a:0<aW o t.2 u.2
  .exact h1 t f u g a (lq P hl hr h1 h2 h3 k f (u::g) (by simp only[OZ];omega))
  .by_cases b:aW o t.2 u.2<0
   .exact h2 t f u g b (lq P hl hr h1 h2 h3 k (t::f) g (by simp only[OZ];omega))
   .exact h3 t f u g (by omega) (lq P hl hr h1 h2 h3 k f g (by omega))
theorem pw(f g:LT):∀x∈cD p o f g,∃t∈f++g,x.2=t.2:=by
 refine lq (o:=o) (P:=λf g=>∀x∈cD p o f g,∃t∈f++g,x.2=t.2) ?_ ?_ ?_ ?_ ?_ _ f g (Ou _)
 .intro g x hx;rw[nH] at hx;exact⟨x,by simpa using hx,rfl⟩
 .intro f x hx;rw[nI] at hx;exact⟨x,by simpa using hx,rfl⟩
 .intro t f u g h ih x hx;rw[nJ h] at hx;rcases OY.1 hx with rfl|hx
  .exact⟨x,by simp,rfl⟩
  .obtain⟨y,hy,e⟩:=ih x hx;exact⟨y,by simp at hy⊢;grind,e⟩
 .intro t f u g h ih x hx;rw[nL h] at hx;rcases OY.1 hx with rfl|hx
  .exact⟨x,by simp,rfl⟩
  .obtain⟨y,hy,e⟩:=ih x hx;exact⟨y,by simp at hy⊢;grind,e⟩
 .intro t f u g h ih x hx;by_cases hz:(t.1+u.1)%p=0
  .rw[nN h hz] at hx;obtain⟨y,hy,e⟩:=ih x hx;exact⟨y,by simp at hy⊢;grind,e⟩
  .rw[nM h hz] at hx;rcases OY.1 hx with rfl|hx
   .exact⟨t,by simp,rfl⟩
   .obtain⟨y,hy,e⟩:=ih x hx;exact⟨y,by simp at hy⊢;grind,e⟩
theorem GI(f g:LT):(cD p o f g).length<=f.length+g.length:=by
 refine lq (o:=o) (P:=λf g=>(cD p o f g).length<=f.length+g.length) ?_ ?_ ?_ ?_ ?_ _ f g (Ou _)
 .intro g;rw[nH];simp
 .intro f;rw[nI];simp
 .intro t f u g h ih;rw[nJ h];simp only[OZ] at ih⊢;omega
 .intro t f u g h ih;rw[nL h];simp only[OZ] at ih⊢;omega
 .intro t f u g h ih;by_cases hz:(t.1+u.1)%p=0
  .rw[nN h hz];simp only[OZ];omega
  .rw[nM h hz];simp only[OZ];omega
theorem GJ(f g:LT)(hf:eJ n f)(hg:eJ n g):ct p (cD p o f g) (f++g):=by
 intro φ;rw[nC];revert hf hg;refine lq (o:=o) (P:=λf g=>eJ n f->eJ n g->p∣az φ (cD p o f g)-(az φ f+az φ g)) ?_ ?_ ?_ ?_ ?_ _ f g (Ou _)
 .intro g _ _;rw[nH];simp[az]
 .intro f _ _;rw[nI];simp[az]
 .intro t f u g h ih hf hg;rw[nJ h];simp only[az] at ih⊢;obtain⟨k,hk⟩:=ih (λx hx=>hf x (by simp[hx])) hg;exact⟨k,by omega⟩
 .intro t f u g h ih hf hg;rw[nL h];simp only[az] at ih⊢;obtain⟨k,hk⟩:=ih hf (λx hx=>hg x (by simp[hx]));exact⟨k,by omega⟩
 .intro t f u g h ih hf hg;have e:t.2=u.2:=(lo o t.2 u.2 (by rw[hf t (by simp),hg u (by simp)])).1 h;obtain⟨k,hk⟩:=ih (λx hx=>hf x (by simp[hx])) (λx hx=>hg x (by simp[hx]));obtain⟨m,hm⟩:=jU p (t.1+u.1);by_cases hz:(t.1+u.1)%p=0
  .rw[nN h hz];simp only[az];rw[<-e];rw[hz] at hm;exact⟨k+m*φ t.2,by grind⟩
  .rw[nM h hz];simp only[az];rw[<-e];exact⟨k+m*φ t.2,by grind⟩
theorem GK(hp:2<=p)(f g:LT)(hf:ck p o n f)(hg:ck p o n g):ck p o n (cD p o f g):=by
 have hlen:eJ n (cD p o f g):=by intro x hx;obtain⟨t,ht,e⟩:=pw f g x hx;rw[e];exact(OK.1 ht).elim (hf.len t) (hg.len t)
 refine⟨hlen,?_,?_⟩
 .have lf:=hf.len;have lg:=hg.len;have ff:=hf.falls;have fg:=hg.falls;clear hf hg hlen;revert lf lg ff fg;refine lq (o:=o) (P:=λf g=>eJ n f->eJ n g->ij o f->ij o g->ij o (cD p o f g)) ?_ ?_ ?_ ?_ ?_ _ f g (Ou _)
  .intro g _ _ _ h;rw[nH];exact h
  .intro f _ _ h _;rw[nI];exact h
  .intro t f u g h ih lf lg ff fg;rw[nJ h];refine⟨λx hx=>?_,ih (λx hx=>lf x (by simp[hx])) lg ff.2 fg⟩;obtain⟨y,hy,e⟩:=pw f (u::g) x hx;rw[e];rcases OK.1 hy with hy|hy
   .exact ff.1 y hy
   .rcases OY.1 hy with rfl|hy
    .exact h
    .exact mr o t.2 u.2 y.2 (by rw[lf t (by simp),lg u (by simp)]) (by rw[lg u (by simp),lg y (by simp[hy])]) h (fg.1 y hy)
  .intro t f u g h ih lf lg ff fg;rw[nL h];have h':0<aW o u.2 t.2:=by have:=uY o u.2 t.2;omega
   refine⟨λx hx=>?_,ih lf (λx hx=>lg x (by simp[hx])) ff fg.2⟩;obtain⟨y,hy,e⟩:=pw (t::f) g x hx;rw[e];rcases OK.1 hy with hy|hy
   .rcases OY.1 hy with rfl|hy
    .exact h'
    .exact mr o u.2 t.2 y.2 (by rw[lf t (by simp),lg u (by simp)]) (by rw[lf t (by simp),lf y (by simp[hy])]) h' (ff.1 y hy)
   .exact fg.1 y hy
  .intro t f u g h ih lf lg ff fg;have e0:t.2=u.2:=(lo o t.2 u.2 (by rw[lf t (by simp),lg u (by simp)])).1 h;have ih':=ih (λx hx=>lf x (by simp[hx])) (λx hx=>lg x (by simp[hx])) ff.2 fg.2;by_cases hz:(t.1+u.1)%p=0
   .rw[nN h hz];exact ih'
   .rw[nM h hz];refine⟨λx hx=>?_,ih'⟩;obtain⟨y,hy,e⟩:=pw f g x hx;simp only;rw[e];rcases OK.1 hy with hy|hy
    .exact ff.1 y hy
    .rw[e0];exact fg.1 y hy
 .have cf:=hf.coef;have cg:=hg.coef;clear hf hg hlen;revert cf cg;refine lq (o:=o) (P:=λf g=>(∀t∈f,1<=t.1/\t.1<p)->(∀t∈g,1<=t.1/\t.1<p)->∀t∈cD p o f g,1<=t.1/\t.1<p) ?_ ?_ ?_ ?_ ?_ _ f g (Ou _)
  .intro g _ h;rw[nH];exact h
  .intro f h _;rw[nI];exact h
  .intro t f u g h ih cf cg x hx;rw[nJ h] at hx;rcases OY.1 hx with rfl|hx
   .exact cf x (by simp)
   .exact ih (λx hx=>cf x (by simp[hx])) cg x hx
  .intro t f u g h ih cf cg x hx;rw[nL h] at hx;rcases OY.1 hx with rfl|hx
   .exact cg x (by simp)
   .exact ih cf (λx hx=>cg x (by simp[hx])) x hx
  .intro t f u g h ih cf cg x hx;have ih':=ih (λx hx=>cf x (by simp[hx])) (λx hx=>cg x (by simp[hx]));by_cases hz:(t.1+u.1)%p=0
   .rw[nN h hz] at hx;exact ih' x hx
   .rw[nM h hz] at hx;rcases OY.1 hx with rfl|hx
    .have h1:=Int.emod_nonneg (t.1+u.1) (show p≠0 by omega);have h2:=Int.emod_lt_of_pos (t.1+u.1) (show 0<p by omega);simp only;omega
    .exact ih' x hx
theorem GL{p a b:Nat}(h:fJ p p=true)(ha:0<a)(ha2:a<p)(hb:0<b)(hb2:b<p):a*b%p≠0:=by
 intro hz;have hd:=Nat.dvd_of_mod_eq_zero hz;have hc:Nat.Coprime p a:=by have h1:=Nat.gcd_dvd_left p a;have h3:Nat.gcd p a<=a:=Nat.le_of_dvd ha (Nat.gcd_dvd_right p a);have h4:0<Nat.gcd p a:=Nat.gcd_pos_of_pos_right p ha;unfold fJ at h;rw[List.all_eq_true] at h;have h5:=h (Nat.gcd p a) (List.mem_range.2 (by omega));rw[Nat.mod_eq_zero_of_dvd h1] at h5;simp at h5;show Nat.gcd p a=1;omega
 have:=Nat.le_of_dvd hb (hc.dvd_of_dvd_mul_left hd);omega
theorem mi{a b:Int}(h:bA p=0)(ha:1<=a)(ha2:a<p)(hb:1<=b)(hb2:b<p):1<=a*b%p/\a*b%p<p:=by
 have h0:fJ p.toNat p.toNat=true:=by
  unfold bA at h;by_cases h1:p<2\/101<p
  .rw[OW h1] at h;omega
  .rw[OV h1] at h;cases hq:lW p
   .rw[hq] at h;simp at h
   .exact hq
 have h1:=GL h0 (a:=a.toNat) (b:=b.toNat) (by omega) (by omega) (by omega) (by omega);have e:a*b%p=((a.toNat*b.toNat%p.toNat:Nat):Int):=by rw[Int.natCast_emod,Int.natCast_mul,Int.toNat_of_nonneg (by omega),Int.toNat_of_nonneg (by omega),Int.toNat_of_nonneg (by omega)]
 have h2:=Int.emod_lt_of_pos (a*b) (show 0<p by omega);omega
theorem dY(h:bA p=0):2<=p/\p<=101:=by
 unfold bA at h;by_cases h1:p<2\/101<p
 .rw[OW h1] at h;omega
 .omega
theorem AE{p o:Int}{n:Nat}(h:bA p=0){t:Tm}(ht:1<=t.1/\t.1<p)(hl:t.2.length=n):∀{g:LT},ck p o n g->ck p o n (cB p t g)
 |[],_=>⟨λx hx=>by simp[cB] at hx,trivial,λx hx=>by simp[cB] at hx⟩
 |u::g,hg=>by
  have hg2:ck p o n g:=⟨λx hx=>hg.len x (by simp[hx]),hg.falls.2,λx hx=>hg.coef x (by simp[hx])⟩;have ih:=AE h ht hl hg2;have e:cB p t (u::g)=(t.1*u.1%p,aP (·+·) t.2 u.2)::cB p t g:=rfl
  have hu:=hg.coef u (by simp);have lu:=hg.len u (by simp);rw[e];refine⟨λx hx=>?_,⟨λx hx=>?_,ih.falls⟩,λx hx=>?_⟩
  .rcases OY.1 hx with rfl|hx
   .simp only;rw[kC _ _ _ (by omega)];exact hl
   .exact ih.len x hx
  .simp only[cB,OR] at hx;obtain⟨y,hy,rfl⟩:=hx;have ly:=hg.len y (by simp[hy]);simp only;rw[lp t.2 u.2,lp t.2 y.2,ri o u.2 y.2 t.2 (by omega) (by omega)];exact hg.falls.1 y hy
  .rcases OY.1 hx with rfl|hx
   .exact mi h ht.1 ht.2 hu.1 hu.2
   .exact ih.coef x hx
def d9(F:Nat->LT)(a k:Nat):LT:=(List.range' a k).flatMap F
theorem rx(F:Nat->LT)(a:Nat):d9 F a 0=[]:=rfl
theorem vh(F:Nat->LT)(a:Nat):d9 F a 1=F a:=by simp[d9]
theorem AF(F:Nat->LT)(a k m:Nat):d9 F a (k+m)=d9 F a k++d9 F (a+k) m:=by unfold d9;rw[<-List.range'_append_1,List.flatMap_append]
end Go.Proofs.YtjkalahhpobefaaGreat
namespace Go.Proofs.YtjkalahhpobefaaGreat
set_option linter.all false
open Go.Proofs.Tryz Go.RowKit
def GM(x:Int):Bool:=decide (x<0)
def GN(xs ys:PI):Bool:=(aP (· - ·) xs ys).any GM
def W0(o:Int):Int:=if o=1 then 68719476736 else 68723671040
def W1(o:Int):Int:=if o=1 then 68719476480 else 68719476992
def W2(o:Int):Int:=if o=1 then 68715282432 else 68719476736
def bS(ov i:Int):Int:=if ov=2 then (255-i)*1125899906842624 else 255-i
def bC(o:Int)(xs:PI):Int:=xs.getD 0 0*W0 o+xs.getD 1 0*W1 o+xs.getD 2 0*W2 o
def jv(o ov i:Int)(xs:PI):Int:=bS ov i+bC o xs
theorem AG{xs:PI}(h0:0<xs.length)(h3:xs.length<=3):(∃a,xs=[a])\/(∃a b,xs=[a,b])\/(∃a b c,xs=[a,b,c]):=by
 match xs,h0,h3 with
 |[a],_,_=>exact Pf ⟨a,rfl⟩
 |[a,b],_,_=>exact Pg (Pf ⟨a,b,rfl⟩)
 |[a,b,c],_,_=>exact Pg (Pg ⟨a,b,c,rfl⟩)
 |_::_::_::_::_,_,h=>simp at h
structure vl(N:Nat)(xs:PI):Prop where
 len:xs.length=N
 nn:∀x∈xs,0<=x
 deg:au xs<=16000
end Go.Proofs.YtjkalahhpobefaaGreat
