/- eachPair, together, Times, Least, Over. -/
import Derived.Test.YtjkalahhpobefaaGreatA
import Derived.Deep.OwnRows
import Derived.Deep.RegionWith
set_option maxHeartbeats 400000
namespace Go.Proofs.YtjkalahhpobefaaGreat
set_option linter.all false
open Go.Proofs.Tryz Go.RowKit
theorem Tryz.info_int:(prog.info? 3).map (λi=>(i.zero,i.size,i.bytes))=some (some (OW 0),1,8):=by kernel_rfl
def aP(g:Int->Int->Int):OP->OP->OP
 |x::xs,y::ys=>g x y::aP g xs ys
 |_,_=>[]
theorem ky(g:Int->Int->Int)(xs ys:OP)(h:xs.length=ys.length):(aP g xs ys).length=xs.length:=by
 induction xs generalizing ys with
 |nil=>cases ys<;>simp[aP]
 |cons x xs ih=>cases ys with
  |nil=>simp at h
  |cons y ys=>simp[aP,ih ys (by simpa using h)]
theorem Ac(g:Int->Int->Int)(xs ys:OP)(h:xs.length=ys.length)(k:Nat)(hk:k<xs.length):(aP g xs ys).getD k 0=g (xs.getD k 0) (ys.getD k 0):=by
 induction xs generalizing ys k with
 |nil=>simp at hk
 |cons x xs ih=>cases ys with
  |nil=>simp at h
  |cons y ys=>cases k with
   |zero=>simp[aP]
   |succ k=>have:=ih ys (by simpa using h) k (by simpa using hk);simpa [aP] using this
def iK(w wr:OQ)(n k:Nat)(zs:OP):Prop:=
 LT w wr/\w.heap.size<wr.heap.size/\(∀i,i<n->(wr.cell? (OV w.heap.size i)).isSome=true/\wr.frozen? (OV w.heap.size i)=false)/\(∀i,i<k->wr.cell? (OV w.heap.size i)=some (OW (zs.getD i 0)))
theorem iK.start(w:OQ)(n:Nat)(zs:OP):iK w (w.alloc (.cells (madeCells #[OW 0] n) 3)) n 0 zs:=by refine⟨(NM _ _).alloc (NL _) _,by simp,λi hi=>⟨?_,by simp⟩,λi hi=>absurd hi (by omega)⟩;simp[size_madeCells,hi]
variable{zs:OP}{n k:Nat}{w wr:OQ}
theorem iK.drawn(h:iK w wr n k zs):iK w wr.drew n k zs:=
 ⟨h.1.drew,h.2.1,h.2.2.1,h.2.2.2⟩
theorem iK.step(h:iK w wr n k zs)(hk:k<n)(v:Int)(hv:v=zs.getD k 0):iK w (wr.setCell (OV w.heap.size k) (OW v)) n (k+1) zs:=by
 obtain⟨h1,h2,h3,h4⟩:=h;subst hv;have ne:∀i,¬i=k->((OV w.heap.size k):Addr)≠(OV w.heap.size i):=λi hi e=>hi (by injection e with _ e2 _;exact e2.symm);refine⟨h1.setCell (NL _) _,by simpa using h2,λi hi=>?_,λi hi=>?_⟩
 .by_cases e:i=k
  .subst e;exact⟨by rw[World.cell?_setCell_same' wr _ _ (h3 i hi).1];rfl,by simpa using (h3 i hi).2⟩
  .rw[World.cell?_setCell_other (w:=wr) (h:=ne i e)];exact⟨(h3 i hi).1,by simpa using (h3 i hi).2⟩
 .by_cases e:i=k
  .subst e;rw[World.cell?_setCell_same' wr _ _ (h3 i hk).1]
  .rw[World.cell?_setCell_other (w:=wr) (h:=ne i e)];exact h4 i (by omega)
theorem Sl.empty(w:OQ):Sl w (.slice none 0 0) []:=⟨none,0,rfl,λh=>absurd h (by simp)⟩
theorem iK.sl{w':OQ}(h:iK w w' zs.length zs.length zs):Sl w' (OU w.heap.size zs.length zs.length) zs:=
 ⟨_,_,rfl,λ_=>⟨_,_,rfl,h.2.1,λi hi=>by rw[N4];exact h.2.2.2 i hi⟩⟩
theorem uJ(w:OQ):Calls prog 17 #[] w λe w'=>e=.returned (aI 7 2 1 1)/\LT w w':=by go_enter func17,ntmps17;go_wp2;exact NT (v:=aI 7 2 1 1) (by simp[results,Tryz.results17,go_sem]) rfl ⟨rfl,(NM _ _).alloc (NL _) _⟩
theorem Sl.new2(w:OQ)(a b:Int)(T:TypeId):Sl (w.alloc (.cells #[OW a,OW b] T)) (OU w.heap.size 2 2) [a,b]:=by
 refine⟨_,_,rfl,λ_=>⟨_,_,rfl,by simp,λi hi=>?_⟩⟩;simp at hi;rcases i with _|_|i
 .simp
 .simp
 .omega
theorem ii{A:Obj}:LT w (w.alloc A):=(NM _ _).alloc (NL _) _
theorem Ad(a b:Int):aS a b=-aS b a:=by unfold aS;split<;>split<;>omega
theorem eH(a b:Int):aS a b=-1/\a<b\/aS a b=0/\a=b\/aS a b=1/\b<a:=by
 unfold aS;split
 .omega
 .split<;>omega
theorem Ae(a b c:Int):aS (a+c) (b+c)=aS a b:=by have h1:=eH a b;have h2:=eH (a+c) (b+c);omega
theorem nr:∀xs ys:OP,ck xs ys=-ck ys xs
 |[],[]=>by simp[ck]
 |[],_::_=>by simp[ck]
 |_::_,[]=>by simp[ck]
 |x::xs,y::ys=>by
  simp only[ck];have h1:=Ad x y;have h2:=nr xs ys;by_cases h:aS x y=0
  .rw[Oe h,Oe (by omega)];exact h2
  .rw[Oc h,Oc (by omega)];exact h1
theorem uK:∀xs ys:OP,-1<=ck xs ys/\ck xs ys<=1
 |[],[]=>by simp[ck]
 |[],_::_=>by simp[ck]
 |_::_,[]=>by simp[ck]
 |x::xs,y::ys=>by
  simp only[ck];have h1:=eH x y;have h2:=uK xs ys;by_cases h:aS x y=0
  .rw[Oe h];exact h2
  .rw[Oc h];omega
theorem uL:∀xs ys:OP,xs.length=ys.length->(ck xs ys=0↔xs=ys)
 |[],[],_=>by simp[ck]
 |[],_::_,h=>by simp at h
 |_::_,[],h=>by simp at h
 |x::xs,y::ys,hl=>by
  simp only[ck,List.cons.injEq];have h1:=eH x y;have h2:=uL xs ys (by simpa using hl);by_cases h:aS x y=0
  .rw[Oe h,h2];constructor
   .intro e;exact⟨by omega,e⟩
   .intro e;exact e.2
  .rw[Oc h];constructor
   .intro e;exact absurd e h
   .intro e;omega
theorem uM:∀xs ys zs:OP,xs.length=ys.length->ys.length=zs.length->0<ck xs ys->0<ck ys zs->0<ck xs zs
 |[],[],_,_,_,h,_=>by simp[ck] at h
 |[],_::_,_,h,_,_,_=>by simp at h
 |_::_,[],_,h,_,_,_=>by simp at h
 |_::_,_::_,[],_,h,_,_=>by simp at h
 |x::xs,y::ys,z::zs,h1,h2,h3,h4=>by
  simp only[ck] at h3 h4⊢;have hxy:=eH x y;have hyz:=eH y z;have hxz:=eH x z;by_cases a:aS x y=0
  .rw[Oe a] at h3;by_cases b:aS y z=0
   .rw[Oe b] at h4;rw[Oe (by omega)];exact uM xs ys zs (by simpa using h1) (by simpa using h2) h3 h4
   .rw[Oc b] at h4;rw[Oc (by omega)];omega
  .rw[Oc a] at h3;by_cases b:aS y z=0
   .rw[Oc (by omega)];omega
   .rw[Oc b] at h4;rw[Oc (by omega)];omega
theorem uN:∀xs ys zs:OP,xs.length=ys.length->ys.length=zs.length->ck (aP (·+·) xs zs) (aP (·+·) ys zs)=ck xs ys
 |[],[],_,_,_=>by simp[ck,aP]
 |[],_::_,_,h,_=>by simp at h
 |_::_,[],_,h,_=>by simp at h
 |_::_,_::_,[],_,h=>by simp at h
 |x::xs,y::ys,z::zs,h1,h2=>by simp only[ck,aP];rw[Ae,uN xs ys zs (by simpa using h1) (by simpa using h2)]
theorem Af(g:Int->Int->Int):∀(xs ys:OP)(x y:Int),xs.length=ys.length->aP g (xs++[x]) (ys++[y])=aP g xs ys++[g x y]
 |[],[],_,_,_=>by simp[aP]
 |[],_::_,_,_,h=>by simp at h
 |_::_,[],_,_,h=>by simp at h
 |a::xs,b::ys,x,y,h=>by simp[aP,Af g xs ys x y (by simpa using h)]
theorem uO(g:Int->Int->Int):∀(xs ys:OP),xs.length=ys.length->(aP g xs ys).reverse=aP g xs.reverse ys.reverse
 |[],[],_=>by simp[aP]
 |[],_::_,h=>by simp at h
 |_::_,[],h=>by simp at h
 |a::xs,b::ys,h=>by simp only[aP,List.reverse_cons];rw[Af g _ _ _ _ (by simpa using h),uO g xs ys (by simpa using h)]
theorem o7:∀xs ys:OP,xs.length=ys.length->aj (aP (·+·) xs ys)=aj xs+aj ys
 |[],[],_=>by simp[aj,aP]
 |[],_::_,h=>by simp at h
 |_::_,[],h=>by simp at h
 |a::xs,b::ys,h=>by simp only[aP,aj];rw[o7 xs ys (by simpa using h)];omega
theorem uP(o:Int)(xs ys:OP):aR o xs ys=-aR o ys xs:=by
 unfold aR jg;have h1:=Ad (aj xs) (aj ys);by_cases h:aS (aj xs) (aj ys)=0
 .have h':aS (aj ys) (aj xs)=0:=by omega
  rw[Oe h,Oe h'];by_cases ho:o=1
  .rw[Oe ho,Oe ho];exact nr _ _
  .rw[Oc ho,Oc ho];exact nr _ _
 .rw[Oc h,Oc (by omega)];exact h1
theorem F7(o:Int)(xs ys:OP):-1<=aR o xs ys/\aR o xs ys<=1:=by
 unfold aR jg;have h1:=eH (aj xs) (aj ys);by_cases h:aS (aj xs) (aj ys)=0
 .rw[Oe h];by_cases ho:o=1
  .rw[Oe ho];exact uK _ _
  .rw[Oc ho];exact uK _ _
 .rw[Oc h];omega
theorem kY(o:Int)(xs ys:OP)(hl:xs.length=ys.length):(aR o xs ys=0)↔xs=ys:=by
 unfold aR jg;have h1:=eH (aj xs) (aj ys);by_cases h:aS (aj xs) (aj ys)=0
 .rw[Oe h];by_cases ho:o=1
  .rw[Oe ho,uL _ _ (by simp;omega)];constructor
   .intro e;have:=congrArg List.reverse e;simpa using this.symm
   .intro e;rw[e]
  .rw[Oc ho,uL _ _ hl]
 .rw[Oc h];constructor
  .intro e;exact absurd e h
  .intro e;rw[e] at h1;rw[e] at h;omega
theorem mh(o:Int)(xs ys zs:OP)(h1:xs.length=ys.length)(h2:ys.length=zs.length)(h3:0<aR o xs ys)(h4:0<aR o ys zs):0<aR o xs zs:=by
 unfold aR jg at*;have hxy:=eH (aj xs) (aj ys);have hyz:=eH (aj ys) (aj zs);have hxz:=eH (aj xs) (aj zs);by_cases a:aS (aj xs) (aj ys)=0
 .rw[Oe a] at h3;by_cases b:aS (aj ys) (aj zs)=0
  .rw[Oe b] at h4;rw[Oe (by omega)];by_cases ho:o=1
   .rw[Oe ho] at h3 h4⊢;have k1:=nr ys.reverse xs.reverse;have k2:=nr zs.reverse ys.reverse;exact Int.not_le.1 (λhn=>by
     have k3:=nr zs.reverse xs.reverse;have k4:=uM zs.reverse ys.reverse xs.reverse (by simp;omega) (by simp;omega) h4 h3;omega)
   .rw[Oc ho] at h3 h4⊢;exact uM xs ys zs h1 h2 h3 h4
  .rw[Oc b] at h4;rw[Oc (by omega)];omega
 .rw[Oc a] at h3;by_cases b:aS (aj ys) (aj zs)=0
  .rw[Oc (by omega)];omega
  .rw[Oc b] at h4;rw[Oc (by omega)];omega
theorem qT(o:Int)(xs ys zs:OP)(h1:xs.length=ys.length)(h2:ys.length=zs.length):aR o (aP (·+·) xs zs) (aP (·+·) ys zs)=aR o xs ys:=by unfold aR jg;rw[o7 xs zs (by omega),o7 ys zs h2,Ae,uO _ xs zs (by omega),uO _ ys zs h2,uN _ _ _ (by simp;omega) (by simp;omega),uN xs ys zs h1 h2]
end Go.Proofs.YtjkalahhpobefaaGreat
namespace Go.Proofs.YtjkalahhpobefaaGreat
open Go.Proofs.Tryz
set_option linter.all false
abbrev Tm:=Int×OP
abbrev Lt:=List Tm
abbrev OG:=List Lt
abbrev OH:=List OG
def bZ(p o:Int):Lt->Tm->Lt
 |[],t=>[t]
 |u::out,t=>if 0<aR o u.2 t.2 then u::bZ p o out t else if u.2=t.2 then ((u.1+t.1)%p,u.2)::out else t::u::out
def bm(p o:Int)(l:Lt):Lt:=(l.foldl (bZ p o) []).filter λt=>t.1%p !=0
def az(φ:OP->Int):Lt->Int
 |[]=>0
 |t::ts=>t.1*φ t.2+az φ ts
theorem ns(φ:OP->Int):∀ts us:Lt,az φ (ts++us)=az φ ts+az φ us
 |[],us=>by simp[az]
 |t::ts,us=>by simp only[List.cons_append,az];rw[ns φ ts us];omega
theorem jR(p x:Int):p∣x%p-x:=⟨-(x/p),by rw[Int.emod_def];grind⟩
theorem Ag(p o:Int)(φ:OP->Int)(t:Tm):∀out:Lt,p∣az φ (bZ p o out t)-(az φ out+t.1*φ t.2)
 |[]=>by simp[bZ,az]
 |u::out=>by
  simp only[bZ];split
  .simp only[az];have:=Ag p o φ t out;have e:u.1*φ u.2+az φ (bZ p o out t)-(u.1*φ u.2+az φ out+t.1*φ t.2)=az φ (bZ p o out t)-(az φ out+t.1*φ t.2):=by omega
   rw[e];exact this
  .split
   .rename_i _ h;simp only[az];obtain⟨k,hk⟩:=jR p (u.1+t.1);rw[<-h];exact⟨k*φ u.2,by grind⟩
   .simp only[az];exact⟨0,by omega⟩
theorem Ah(p o:Int)(φ:OP->Int):∀(l out:Lt),p∣az φ (l.foldl (bZ p o) out)-(az φ out+az φ l)
 |[],out=>by simp[az]
 |t::l,out=>by
  simp only[List.foldl_cons,az];have h1:=Ah p o φ l (bZ p o out t);have h2:=Ag p o φ t out;have h3:=Int.dvd_add h1 h2;have e:az φ (l.foldl (bZ p o) (bZ p o out t))-(az φ (bZ p o out t)+az φ l)+(az φ (bZ p o out t)-(az φ out+t.1*φ t.2))=az φ (l.foldl (bZ p o) (bZ p o out t))-(az φ out+(t.1*φ t.2+az φ l)):=by omega
  rw[e] at h3;exact h3
theorem Ai(p:Int)(φ:OP->Int):∀ts:Lt,p∣az φ (ts.filter λt=>t.1%p !=0)-az φ ts
 |[]=>by simp[az]
 |t::ts=>by
  have h:=Ai p φ ts;by_cases ht:t.1%p=0
  .have e:(t::ts).filter (λt=>t.1%p !=0)=ts.filter λt=>t.1%p !=0:=by simp[List.filter_cons,ht]
   rw[e];simp only[az];obtain⟨k,hk⟩:=h;obtain⟨m,hm⟩:=Int.dvd_of_emod_eq_zero ht;exact⟨k-m*φ t.2,by grind⟩
  .have e:(t::ts).filter (λt=>t.1%p !=0)=t::ts.filter λt=>t.1%p !=0:=by simp[List.filter_cons,ht]
   rw[e];simp only[az];have e2:t.1*φ t.2+az φ (ts.filter λt=>t.1%p !=0)-(t.1*φ t.2+az φ ts)=az φ (ts.filter λt=>t.1%p !=0)-az φ ts:=by omega
   rw[e2];exact h
theorem o8(p o:Int)(φ:OP->Int)(l:Lt):p∣az φ (bm p o l)-az φ l:=by
 unfold bm;have h1:=Ai p φ (l.foldl (bZ p o) []);have h2:=Ah p o φ l [];have h3:=Int.dvd_add h1 h2;simp only[az,Int.zero_add] at h3;have e:∀a b c:Int,a-b+(b-c)=a-c:=λa b c=>by omega
 rw[e] at h3;exact h3
def ij(o:Int):Lt->Prop
 |[]=>True
 |t::ts=>(∀u∈ts,0<aR o t.2 u.2)/\ij o ts
def eI(n:Nat)(ts:Lt):Prop:=∀t∈ts,t.2.length=n
theorem qU{p o:Int}{t:Tm}:∀{out:Lt}{x:Tm},x∈bZ p o out t->x.2=t.2\/∃u∈out,x.2=u.2
 |[],x,h=>by simp[bZ] at h;exact Ox (by rw[h])
 |u::out,x,h=>by
  simp only[bZ] at h;split at h
  .simp only[Og] at h;rcases h with rfl|h
   .exact Oy ⟨x,by simp,rfl⟩
   .rcases qU h with h|⟨y,hy,h⟩
    .exact Ox h
    .exact Oy ⟨y,by simp[hy],h⟩
  .split at h
   .simp only[Og] at h;rcases h with rfl|h
    .exact Oy ⟨u,by simp,rfl⟩
    .exact Oy ⟨x,by simp[h],rfl⟩
   .simp only[Og] at h;rcases h with rfl|rfl|h
    .exact Ox rfl
    .exact Oy ⟨x,by simp,rfl⟩
    .exact Oy ⟨x,by simp[h],rfl⟩
variable{t:Tm}{n:Nat}{p o:Int}
theorem F8{out:Lt}(h:eI n out)(ht:t.2.length=n):eI n (bZ p o out t):=by
 intro x hx;rcases qU hx with h1|⟨u,hu,h1⟩
 .rw[h1];exact ht
 .rw[h1];exact h u hu
theorem Aj{p o:Int}{n:Nat}{t:Tm}(ht:t.2.length=n):∀{out:Lt},eI n out->ij o out->ij o (bZ p o out t)
 |[],_,_=>⟨by simp,trivial⟩
 |u::out,hl,⟨h1,h2⟩=>by
  have hu:u.2.length=n:=hl u (by simp);have hlo:eI n out:=λx hx=>hl x (by simp[hx]);simp only[bZ];by_cases hm:0<aR o u.2 t.2
  .rw[Oe hm];refine⟨λx hx=>?_,Aj ht hlo h2⟩;rcases qU hx with h|⟨y,hy,h⟩
   .rw[h];exact hm
   .rw[h];exact h1 y hy
  .rw[Oc hm];by_cases he:u.2=t.2
   .rw[Oe he];exact⟨h1,h2⟩
   .rw[Oc he];have hz:=kY o u.2 t.2 (by omega);have hneg:=uP o u.2 t.2;have htu:0<aR o t.2 u.2:=by have:aR o u.2 t.2≠0:=λe=>he (hz.1 e);omega
    refine⟨λx hx=>?_,h1,h2⟩;simp only[Og] at hx;rcases hx with rfl|hx
    .exact htu
    .exact mh o t.2 u.2 x.2 (by omega) (by rw[hlo x hx];exact hu) htu (h1 x hx)
theorem Ak{p o:Int}{n:Nat}:∀(l out:Lt),eI n l->eI n out->ij o out->eI n (l.foldl (bZ p o) out)/\ij o (l.foldl (bZ p o) out)
 |[],out,_,ho,hf=>⟨ho,hf⟩
 |t::l,out,hl,ho,hf=>Ak l (bZ p o out t) (λx hx=>hl x (by simp[hx])) (F8 ho (hl t (by simp))) (Aj (hl t (by simp)) ho hf)
theorem uQ{o:Int}(f:Tm->Bool):∀{ts:Lt},ij o ts->ij o (ts.filter f)
 |[],_=>trivial
 |t::ts,⟨h1,h2⟩=>by
  simp only[List.filter_cons];split
  .exact⟨λu hu=>h1 u (Om.1 hu).1,uQ f h2⟩
  .exact uQ f h2
theorem Al{p o:Int}(hp:2<=p){t:Tm}(ht:0<=t.1/\t.1<p):∀{out:Lt},(∀u∈out,0<=u.1/\u.1<p)->∀x∈bZ p o out t,0<=x.1/\x.1<p
 |[],_,x,hx=>by simp[bZ] at hx;rw[hx];exact ht
 |u::out,h,x,hx=>by
  simp only[bZ] at hx;split at hx
  .simp only[Og] at hx;rcases hx with rfl|hx
   .exact h x (by simp)
   .exact Al hp ht (λy hy=>h y (by simp[hy])) x hx
  .split at hx
   .simp only[Og] at hx;rcases hx with rfl|hx
    .exact⟨Int.emod_nonneg _ (by omega),Int.emod_lt_of_pos _ (by omega)⟩
    .exact h x (by simp[hx])
   .simp only[Og] at hx;rcases hx with rfl|rfl|hx
    .exact ht
    .exact h x (by simp)
    .exact h x (by simp[hx])
theorem Am{p o:Int}(hp:2<=p):∀(l out:Lt),(∀u∈l,0<=u.1/\u.1<p)->(∀u∈out,0<=u.1/\u.1<p)->∀x∈l.foldl (bZ p o) out,0<=x.1/\x.1<p
 |[],out,_,ho=>ho
 |t::l,out,hl,ho=>Am hp l (bZ p o out t) (λx hx=>hl x (by simp[hx])) (Al hp (hl t (by simp)) ho)
structure cq(p o:Int)(n:Nat)(ts:Lt):Prop where
 len:eI n ts
 falls:ij o ts
 coef:∀t∈ts,1<=t.1/\t.1<p
variable{l:Lt}
theorem An(hp:2<=p)(hl:eI n l)(hc:∀t∈l,0<=t.1/\t.1<p):cq p o n (bm p o l):=by
 have h:=Ak (p:=p) (o:=o) (n:=n) l [] hl (λx hx=>by simp at hx) trivial;have hr:=Am (o:=o) hp l [] hc (λx hx=>by simp at hx);refine⟨λt ht=>h.1 t (Om.1 ht).1,uQ _ h.2,λt ht=>?_⟩;unfold bm at ht;rw[Om] at ht;have h1:=hr t ht.1;have h2:t.1%p≠0:=by simpa using ht.2
 have h3:t.1≠0:=λe=>h2 (by rw[e];simp);omega
def eQ(e:OP):OP->Int:=λx=>if x=e then 1 else 0
theorem nv{e:OP}:∀{ts:Lt},(∀t∈ts,t.2≠e)->az (eQ e) ts=0
 |[],_=>rfl
 |t::ts,h=>by simp only[az];rw[nv (λu hu=>h u (by simp[hu]))];unfold eQ;rw[Oc (h t (by simp))];simp
variable{ts:Lt}
theorem Ao(hl:eI n (t::ts))(hf:ij o (t::ts)):∀u∈ts,u.2≠t.2:=by intro u hu e;have h1:=hf.1 u hu;have:=(kY o t.2 u.2 (by rw[hl t (by simp),hl u (by simp[hu])])).2 e.symm;omega
theorem nw(hl:eI n (t::ts))(hf:ij o (t::ts)):az (eQ t.2) (t::ts)=t.1:=by show t.1*eQ t.2 t.2+az (eQ t.2) ts=t.1;rw[nv (Ao hl hf)];unfold eQ;rw[Oe rfl];omega
variable{a:Int}
theorem uR(h:p∣0-a):p∣a:=by obtain⟨k,hk⟩:=h;exact⟨-k,by rw[Int.mul_neg,<-hk];omega⟩
theorem Ap(h:p∣a-0):p∣a:=by rwa [Int.sub_zero] at h
theorem uS{p o:Int}{n:Nat}(hp:2<=p):∀(ts us:Lt),cq p o n ts->cq p o n us->(∀e,p∣az (eQ e) ts-az (eQ e) us)->ts=us
 |[],[],_,_,_=>rfl
 |[],u::us,_,hu,h=>by have h1:=h u.2;rw[nw hu.len hu.falls] at h1;have h2:=hu.coef u (by simp);have:=Int.le_of_dvd (by omega) (uR h1);omega
 |t::ts,[],ht,_,h=>by have h1:=h t.2;rw[nw ht.len ht.falls] at h1;have h2:=ht.coef t (by simp);have:=Int.le_of_dvd (by omega) (Ap h1);omega
 |t::ts,u::us,ht,hu,h=>by
  have tc:=ht.coef t (by simp);have uc:=hu.coef u (by simp);have tl:=ht.len t (by simp);have ul:=hu.len u (by simp);have hts:cq p o n ts:=⟨λx hx=>ht.len x (by simp[hx]),ht.falls.2,λx hx=>ht.coef x (by simp[hx])⟩;have hus:cq p o n us:=⟨λx hx=>hu.len x (by simp[hx]),hu.falls.2,λx hx=>hu.coef x (by simp[hx])⟩;have hsame:t.2=u.2:=by
   apply Oj;intro hne;have hz:=kY o t.2 u.2 (by omega);have hg:=uP o t.2 u.2;have hnz:aR o t.2 u.2≠0:=λe=>hne (hz.1 e);by_cases hlt:0<aR o t.2 u.2
   .have h1:=h t.2;have hn:∀x∈u::us,x.2≠t.2:=by
     intro x hx e;simp only[Og] at hx;rcases hx with rfl|hx
     .exact hne e.symm
     .have h2:=hu.falls.1 x hx;have h3:=mh o t.2 u.2 x.2 (by omega) (by rw[ul,hu.len x (by simp[hx])]) hlt h2;have h4:=(kY o t.2 x.2 (by rw[tl,hu.len x (by simp[hx])])).2 e.symm;omega
    rw[nv hn,nw ht.len ht.falls] at h1;have:=Int.le_of_dvd (by omega) (Ap h1);omega
   .have hlt2:0<aR o u.2 t.2:=by omega
    have h1:=h u.2;have hn:∀x∈t::ts,x.2≠u.2:=by
     intro x hx e;simp only[Og] at hx;rcases hx with rfl|hx
     .exact hne e
     .have h2:=ht.falls.1 x hx;have h3:=mh o u.2 t.2 x.2 (by omega) (by rw[tl,ht.len x (by simp[hx])]) hlt2 h2;have h4:=(kY o u.2 x.2 (by rw[ul,ht.len x (by simp[hx])])).2 e.symm;omega
    rw[nv hn,nw hu.len hu.falls] at h1;have:=Int.le_of_dvd (by omega) (uR h1);omega
  have hcoef:t.1=u.1:=by
   have h2:=h t.2;rw[nw ht.len ht.falls,hsame,nw hu.len hu.falls] at h2;by_cases hd:t.1-u.1=0
   .omega
   .by_cases hd2:0<t.1-u.1
    .have:=Int.le_of_dvd hd2 h2;omega
    .have h3:p∣u.1-t.1:=by obtain⟨k,hk⟩:=h2;exact⟨-k,by rw[Int.mul_neg,<-hk];omega⟩
     have:=Int.le_of_dvd (by omega) h3;omega
  have htu:t=u:=Prod.ext hcoef hsame;subst htu;congr 1;refine uS hp ts us hts hus (λe=>?_);have h1:=h e;simp only[az] at h1;have e2:t.1*eQ e t.2+az (eQ e) ts-(t.1*eQ e t.2+az (eQ e) us)=az (eQ e) ts-az (eQ e) us:=by omega
  rwa [e2] at h1
theorem uT(hp:2<=p)(hl:eI n l)(hc:∀t∈l,0<=t.1/\t.1<p)(ht:cq p o n ts)(h:∀φ,p∣az φ ts-az φ l):ts=bm p o l:=by refine uS hp ts (bm p o l) ht (An hp hl hc) (λe=>?_);obtain⟨a,ha⟩:=h (eQ e);obtain⟨b,hb⟩:=o8 p o (eQ e) l;exact⟨a-b,by rw[Int.mul_sub,<-ha,<-hb];omega⟩
def cG(p:Int)(t:Tm)(g:Lt):Lt:=g.map λu=>(t.1*u.1%p,aP (·+·) t.2 u.2)
def aH(p:Int)(f g:Lt):Lt:=f.flatMap λt=>cG p t g
theorem Aq(p:Int)(φ:OP->Int)(t:Tm):∀g:Lt,p∣az φ (cG p t g)-t.1*az (λb=>φ (aP (·+·) t.2 b)) g
 |[]=>by simp[cG,az]
 |u::g=>by
  have h:=Aq p φ t g;have e:cG p t (u::g)=(t.1*u.1%p,aP (·+·) t.2 u.2)::cG p t g:=rfl
  rw[e];simp only[az];obtain⟨k,hk⟩:=h;obtain⟨m,hm⟩:=jR p (t.1*u.1);exact⟨k+m*φ (aP (·+·) t.2 u.2),by grind⟩
theorem nz(p:Int)(φ:OP->Int)(g:Lt):∀f:Lt,p∣az φ (aH p f g)-az (λa=>az (λb=>φ (aP (·+·) a b)) g) f
 |[]=>by simp[aH,az]
 |t::f=>by
  have h:=nz p φ g f;have e:aH p (t::f) g=cG p t g++aH p f g:=rfl;rw[e,ns];simp only[az];have h2:=Aq p φ t g;have h3:=Int.dvd_add h2 h;have e2:∀a b c d:Int,a-b+(c-d)=a+c-(b+d):=λa b c d=>by omega
  rw[e2] at h3;exact h3
theorem Ar(f:Lt):az (λ_=>0) f=0:=by
 induction f with
 |nil=>rfl
 |cons t f ih=>simp only[az];rw[ih];simp
theorem As(φ ψ:OP->Int)(f:Lt):az (λa=>φ a+ψ a) f=az φ f+az ψ f:=by
 induction f with
 |nil=>rfl
 |cons t f ih=>simp only[az];rw[ih];grind
theorem F9(c:Int)(φ:OP->Int)(f:Lt):az (λa=>c*φ a) f=c*az φ f:=by
 induction f with
 |nil=>simp[az]
 |cons t f ih=>simp only[az];rw[ih];grind
theorem Ga(F:OP->OP->Int)(f g:Lt):az (λa=>az (λb=>F a b) g) f=az (λb=>az (λa=>F a b) f) g:=by
 induction g with
 |nil=>simp only[az];exact Ar f
 |cons u g ih=>simp only[az];rw[As,ih,F9]
theorem kZ:∀a b:OP,aP (·+·) a b=aP (·+·) b a
 |[],[]=>rfl
 |[],_::_=>rfl
 |_::_,[]=>rfl
 |x::a,y::b=>by simp only[aP];rw[kZ a b,Int.add_comm]
theorem o9{φ ψ:OP->Int}{f:Lt}(h:∀t∈f,φ t.2=ψ t.2):az φ f=az ψ f:=by
 induction f with
 |nil=>rfl
 |cons t f ih=>simp only[az];rw[h t (by simp),ih (λu hu=>h u (by simp[hu]))]
end Go.Proofs.YtjkalahhpobefaaGreat
namespace Go.Proofs.YtjkalahhpobefaaGreat
set_option linter.all false
open Go.Proofs.Tryz Go.RowKit
def bH:Tm:=(0,[])
def qV(w:OQ)(b off:Nat)(ts:Lt):Prop:=
 ∀i,i<ts.length->w.cell? ⟨b,off+i*2,none⟩=some (OW (ts.getD i bH).1)/\∃v,w.cell? ⟨b,off+i*2+1,none⟩=some v/\Sl w v (ts.getD i bH).2
variable{ts:Lt}{b off:Nat}{w w':OQ}
theorem qV.below(h:qV w b off ts)(hlt:b<w.heap.size)(hb:LT w w'):qV w' b off ts:=by intro i hi;obtain⟨h1,v,h2,h3⟩:=h i hi;exact⟨by rw[hb.cell (p:=⟨b,off+i*2,none⟩) hlt];exact h1,v,by rw[hb.cell (p:=⟨b,off+i*2+1,none⟩) hlt];exact h2,h3.below hb⟩
def Pl(w:OQ)(v:OR)(ts:Lt):Prop:=
 ∃a cap,v=.slice a ts.length cap/\ts.length<=cap/\(0<ts.length->∃b off,a=some (OV b off)/\b<w.heap.size/\qV w b off ts)
variable{v:OR}
theorem Pl.below(h:Pl w v ts)(hb:LT w w'):Pl w' v ts:=by obtain⟨a,cap,rfl,hcap,h⟩:=h;refine⟨a,cap,rfl,hcap,λhp=>?_⟩;obtain⟨b,off,rfl,hlt,hc⟩:=h hp;exact⟨b,off,rfl,NQ hlt hb.size,hc.below hlt hb⟩
theorem Pl.empty(w:OQ):Pl w (.slice none 0 0) []:=⟨none,0,rfl,NL _,λh=>absurd h (by simp)⟩
def qW(w:OQ)(b off:Nat)(fs:OG):Prop:=
 ∀i,i<fs.length->∃v,w.cell? (OV b (off+i))=some v/\Pl w v (fs.getD i [])
variable{fs:OG}
theorem qW.below(h:qW w b off fs)(hlt:b<w.heap.size)(hb:LT w w'):qW w' b off fs:=by intro i hi;obtain⟨v,hc,hs⟩:=h i hi;exact⟨v,by rw[hb.cell (p:=(OV b (off+i))) hlt];exact hc,hs.below hb⟩
def Vl(w:OQ)(v:OR)(fs:OG):Prop:=
 ∃a cap,v=.slice a fs.length cap/\(0<fs.length->∃b off,a=some (OV b off)/\b<w.heap.size/\qW w b off fs)
theorem Vl.below(h:Vl w v fs)(hb:LT w w'):Vl w' v fs:=by obtain⟨a,cap,rfl,h⟩:=h;refine⟨a,cap,rfl,λhp=>?_⟩;obtain⟨b,off,rfl,hlt,hc⟩:=h hp;exact⟨b,off,rfl,NQ hlt hb.size,hc.below hlt hb⟩
end Go.Proofs.YtjkalahhpobefaaGreat
namespace Go.Proofs.YtjkalahhpobefaaGreat
open Go.Proofs.Tryz
set_option linter.all false
def cw(p:Int)(l m:Lt):Prop:=∀φ,p∣az φ l-az φ m
theorem cw.refl(p:Int)(l:Lt):cw p l l:=λφ=>⟨0,by omega⟩
variable{l m:Lt}{p:Int}
theorem cw.symm(h:cw p l m):cw p m l:=λφ=>by obtain⟨k,hk⟩:=h φ;exact⟨-k,by rw[Int.mul_neg,<-hk];omega⟩
theorem cw.trans{k:Lt}(h:cw p l m)(h2:cw p m k):cw p l k:=λφ=>by obtain⟨a,ha⟩:=h φ;obtain⟨b,hb⟩:=h2 φ;exact⟨a+b,by rw[Int.mul_add,<-ha,<-hb];omega⟩
theorem cw.append{l2 m2:Lt}(h:cw p l m)(h2:cw p l2 m2):cw p (l++l2) (m++m2):=λφ=>by obtain⟨a,ha⟩:=h φ;obtain⟨b,hb⟩:=h2 φ;exact⟨a+b,by rw[ns,ns,Int.mul_add,<-ha,<-hb];omega⟩
theorem pd(p o:Int)(l:Lt):cw p (bm p o l) l:=λφ=>o8 p o φ l
theorem At{p:Int}{φ ψ:OP->Int}:∀{f:Lt},(∀t∈f,p∣φ t.2-ψ t.2)->p∣az φ f-az ψ f
 |[],_=>⟨0,by simp[az]⟩
 |t::f,h=>by obtain⟨a,ha⟩:=h t (by simp);obtain⟨b,hb⟩:=At (f:=f) (λu hu=>h u (by simp[hu]));simp only[az];exact⟨t.1*a+b,by grind⟩
variable{g h:Lt}
theorem cw.prodR(f:Lt)(hs:cw p g h):cw p (aH p f g) (aH p f h):=λφ=>by
 obtain⟨a,ha⟩:=nz p φ g f;obtain⟨b,hb⟩:=nz p φ h f;obtain⟨c,hc⟩:=At (p:=p) (f:=f) (φ:=λx=>az (λb=>φ (aP (·+·) x b)) g) (ψ:=λx=>az (λb=>φ (aP (·+·) x b)) h) (λt _=>hs _)
 exact⟨a+c-b,by grind⟩
theorem uU(p:Int)(f g:Lt):cw p (aH p f g) (aH p g f):=λφ=>by
 obtain⟨a,ha⟩:=nz p φ g f;obtain⟨b,hb⟩:=nz p φ f g;have e:az (λx=>az (λy=>φ (aP (·+·) x y)) g) f=az (λx=>az (λy=>φ (aP (·+·) x y)) f) g:=by rw[Ga];refine o9 (λt _=>o9 (λu _=>?_));rw[kZ]
 exact⟨a-b,by rw[Int.mul_sub,<-ha,<-hb,e];omega⟩
variable{f:Lt}
theorem cw.prodL(h:Lt)(hs:cw p f g):cw p (aH p f h) (aH p g h):=
 (uU p f h).trans ((cw.prodR h hs).trans (uU p h g))
theorem Gc(p:Int)(f g h:Lt):aH p (f++g) h=aH p f h++aH p g h:=by unfold Go.Proofs.YtjkalahhpobefaaGreat.aH;rw[List.flatMap_append]
structure dV(p:Int)(n:Nat)(l:Lt):Prop where
 len:eI n l
 coef:∀t∈l,0<=t.1/\t.1<p
variable{n:Nat}{o:Int}
theorem cq.okl{ts:Lt}(h:cq p o n ts):dV p n ts:=⟨h.len,λt ht=>by have:=h.coef t ht;omega⟩
theorem dV.append(h:dV p n l)(h2:dV p n m):dV p n (l++m):=
 ⟨λt ht=>(N1.1 ht).elim (h.len t) (h2.len t),λt ht=>(N1.1 ht).elim (h.coef t) (h2.coef t)⟩
theorem dV.prod(hp:2<=p)(h:dV p n l)(h2:dV p n m):dV p n (aH p l m):=by
 constructor
 .intro t ht;simp only[Go.Proofs.YtjkalahhpobefaaGreat.aH,cG,OB,N9] at ht;obtain⟨a,ha,b,hb,rfl⟩:=ht;simp only;rw[ky _ _ _ (by rw[h.len a ha,h2.len b hb]),h.len a ha]
 .intro t ht;simp only[Go.Proofs.YtjkalahhpobefaaGreat.aH,cG,OB,N9] at ht;obtain⟨a,ha,b,hb,rfl⟩:=ht;exact⟨Int.emod_nonneg _ (by omega),Int.emod_lt_of_pos _ (by omega)⟩
theorem dV.col(hp:2<=p)(h:dV p n l):cq p o n (bm p o l):=An hp h.len h.coef
theorem cw.col(hp:2<=p)(hl:dV p n l)(hm:dV p n m)(h:cw p l m):bm p o l=bm p o m:=
 uT hp hm.len hm.coef (hl.col hp) ((pd p o l).trans h)
theorem cw.canon(hp:2<=p)(hl:cq p o n l)(hm:cq p o n m)(h:cw p l m):l=m:=
 uS hp l m hl hm (λe=>h (eQ e))
theorem Ge(hp:2<=p)(hf:dV p n f)(hg:dV p n g):bm p o (aH p f g)=bm p o (aH p g f):=
 cw.col hp (hf.prod hp hg) (hg.prod hp hf) (uU p f g)
theorem NG(hp:2<=p)(hf:dV p n f)(hg:dV p n g)(hh:dV p n h):bm p o (bm p o (aH p f h)++bm p o (aH p g h))=bm p o (aH p (bm p o (f++g)) h):=by refine cw.col hp (((hf.prod hp hh).col hp (o:=o)).okl.append ((hg.prod hp hh).col hp (o:=o)).okl) (((hf.append hg).col hp (o:=o)).okl.prod hp hh) ?_;refine((pd p o _).append (pd p o _)).trans ?_;rw[<-Gc];exact cw.prodL h (pd p o _).symm
def cI(p o:Int):Lt->Lt->Lt
 |[],g=>g
 |t::f,[]=>t::f
 |t::f,u::g=>
  if 0<aR o t.2 u.2 then t::cI p o f (u::g)
  else if aR o t.2 u.2<0 then u::cI p o (t::f) g
  else if (t.1+u.1)%p≠0 then ((t.1+u.1)%p,t.2)::cI p o f g else cI p o f g
theorem nA(p o:Int)(g:Lt):cI p o [] g=g:=by unfold cI;rfl
theorem nB(p o:Int)(f:Lt):cI p o f []=f:=by cases f<;>(unfold cI;rfl)
variable{t u:Tm}
theorem nC(h:0<aR o t.2 u.2):cI p o (t::f) (u::g)=t::cI p o f (u::g):=by rw[cI.eq_def];simp[h]
theorem nE(h:aR o t.2 u.2<0):cI p o (t::f) (u::g)=u::cI p o (t::f) g:=by rw[cI.eq_def];simp[h,show¬0<aR o t.2 u.2 by omega]
theorem nF(h:aR o t.2 u.2=0)(h2:(t.1+u.1)%p≠0):cI p o (t::f) (u::g)=((t.1+u.1)%p,t.2)::cI p o f g:=by rw[cI.eq_def];simp[h,h2]
theorem nG(h:aR o t.2 u.2=0)(h2:(t.1+u.1)%p=0):cI p o (t::f) (u::g)=cI p o f g:=by rw[cI.eq_def];simp[h,h2]
theorem lh{o:Int}(P:Lt->Lt->Prop)(hl:∀g,P [] g)(hr:∀f,P f [])(h1:∀t f u g,0<aR o t.2 u.2->P f (u::g)->P (t::f) (u::g))(h2:∀t f u g,aR o t.2 u.2<0->P (t::f) g->P (t::f) (u::g))(h3:∀t f u g,aR o t.2 u.2=0->P f g->P (t::f) (u::g)):∀(k:Nat)(f g:Lt),f.length+g.length<=k->P f g
 |_,[],g,_=>hl g
 |_,t::f,[],_=>hr _
 |0,t::f,u::g,h=>by simp at h
 |k+1,t::f,u::g,h=>by
  simp only[Oh] at h;by_cases a:0<aR o t.2 u.2
  .exact h1 t f u g a (lh P hl hr h1 h2 h3 k f (u::g) (by simp only[Oh];omega))
  .by_cases b:aR o t.2 u.2<0
   .exact h2 t f u g b (lh P hl hr h1 h2 h3 k (t::f) g (by simp only[Oh];omega))
   .exact h3 t f u g (by omega) (lh P hl hr h1 h2 h3 k f g (by omega))
theorem pe(f g:Lt):∀x∈cI p o f g,∃t∈f++g,x.2=t.2:=by
 refine lh (o:=o) (P:=λf g=>∀x∈cI p o f g,∃t∈f++g,x.2=t.2) ?_ ?_ ?_ ?_ ?_ _ f g (NL _)
 .intro g x hx;rw[nA] at hx;exact⟨x,by simpa using hx,rfl⟩
 .intro f x hx;rw[nB] at hx;exact⟨x,by simpa using hx,rfl⟩
 .intro t f u g h ih x hx;rw[nC h] at hx;rcases Og.1 hx with rfl|hx
  .exact⟨x,by simp,rfl⟩
  .obtain⟨y,hy,e⟩:=ih x hx;exact⟨y,by simp at hy⊢;grind,e⟩
 .intro t f u g h ih x hx;rw[nE h] at hx;rcases Og.1 hx with rfl|hx
  .exact⟨x,by simp,rfl⟩
  .obtain⟨y,hy,e⟩:=ih x hx;exact⟨y,by simp at hy⊢;grind,e⟩
 .intro t f u g h ih x hx;by_cases hz:(t.1+u.1)%p=0
  .rw[nG h hz] at hx;obtain⟨y,hy,e⟩:=ih x hx;exact⟨y,by simp at hy⊢;grind,e⟩
  .rw[nF h hz] at hx;rcases Og.1 hx with rfl|hx
   .exact⟨t,by simp,rfl⟩
   .obtain⟨y,hy,e⟩:=ih x hx;exact⟨y,by simp at hy⊢;grind,e⟩
theorem Gf(f g:Lt):(cI p o f g).length<=f.length+g.length:=by
 refine lh (o:=o) (P:=λf g=>(cI p o f g).length<=f.length+g.length) ?_ ?_ ?_ ?_ ?_ _ f g (NL _)
 .intro g;rw[nA];simp
 .intro f;rw[nB];simp
 .intro t f u g h ih;rw[nC h];simp only[Oh] at ih⊢;omega
 .intro t f u g h ih;rw[nE h];simp only[Oh] at ih⊢;omega
 .intro t f u g h ih;by_cases hz:(t.1+u.1)%p=0
  .rw[nG h hz];simp only[Oh];omega
  .rw[nF h hz];simp only[Oh];omega
theorem Gg(f g:Lt)(hf:eI n f)(hg:eI n g):cw p (cI p o f g) (f++g):=by
 intro φ;rw[ns];revert hf hg;refine lh (o:=o) (P:=λf g=>eI n f->eI n g->p∣az φ (cI p o f g)-(az φ f+az φ g)) ?_ ?_ ?_ ?_ ?_ _ f g (NL _)
 .intro g _ _;rw[nA];simp[az]
 .intro f _ _;rw[nB];simp[az]
 .intro t f u g h ih hf hg;rw[nC h];simp only[az] at ih⊢;obtain⟨k,hk⟩:=ih (λx hx=>hf x (by simp[hx])) hg;exact⟨k,by omega⟩
 .intro t f u g h ih hf hg;rw[nE h];simp only[az] at ih⊢;obtain⟨k,hk⟩:=ih hf (λx hx=>hg x (by simp[hx]));exact⟨k,by omega⟩
 .intro t f u g h ih hf hg;have e:t.2=u.2:=(kY o t.2 u.2 (by rw[hf t (by simp),hg u (by simp)])).1 h;obtain⟨k,hk⟩:=ih (λx hx=>hf x (by simp[hx])) (λx hx=>hg x (by simp[hx]));obtain⟨m,hm⟩:=jR p (t.1+u.1);by_cases hz:(t.1+u.1)%p=0
  .rw[nG h hz];simp only[az];rw[<-e];rw[hz] at hm;exact⟨k+m*φ t.2,by grind⟩
  .rw[nF h hz];simp only[az];rw[<-e];exact⟨k+m*φ t.2,by grind⟩
theorem Gh(hp:2<=p)(f g:Lt)(hf:cq p o n f)(hg:cq p o n g):cq p o n (cI p o f g):=by
 have hlen:eI n (cI p o f g):=by intro x hx;obtain⟨t,ht,e⟩:=pe f g x hx;rw[e];exact(N1.1 ht).elim (hf.len t) (hg.len t)
 refine⟨hlen,?_,?_⟩
 .have lf:=hf.len;have lg:=hg.len;have ff:=hf.falls;have fg:=hg.falls;clear hf hg hlen;revert lf lg ff fg;refine lh (o:=o) (P:=λf g=>eI n f->eI n g->ij o f->ij o g->ij o (cI p o f g)) ?_ ?_ ?_ ?_ ?_ _ f g (NL _)
  .intro g _ _ _ h;rw[nA];exact h
  .intro f _ _ h _;rw[nB];exact h
  .intro t f u g h ih lf lg ff fg;rw[nC h];refine⟨λx hx=>?_,ih (λx hx=>lf x (by simp[hx])) lg ff.2 fg⟩;obtain⟨y,hy,e⟩:=pe f (u::g) x hx;rw[e];rcases N1.1 hy with hy|hy
   .exact ff.1 y hy
   .rcases Og.1 hy with rfl|hy
    .exact h
    .exact mh o t.2 u.2 y.2 (by rw[lf t (by simp),lg u (by simp)]) (by rw[lg u (by simp),lg y (by simp[hy])]) h (fg.1 y hy)
  .intro t f u g h ih lf lg ff fg;rw[nE h];have h':0<aR o u.2 t.2:=by have:=uP o u.2 t.2;omega
   refine⟨λx hx=>?_,ih lf (λx hx=>lg x (by simp[hx])) ff fg.2⟩;obtain⟨y,hy,e⟩:=pe (t::f) g x hx;rw[e];rcases N1.1 hy with hy|hy
   .rcases Og.1 hy with rfl|hy
    .exact h'
    .exact mh o u.2 t.2 y.2 (by rw[lf t (by simp),lg u (by simp)]) (by rw[lf t (by simp),lf y (by simp[hy])]) h' (ff.1 y hy)
   .exact fg.1 y hy
  .intro t f u g h ih lf lg ff fg;have e0:t.2=u.2:=(kY o t.2 u.2 (by rw[lf t (by simp),lg u (by simp)])).1 h;have ih':=ih (λx hx=>lf x (by simp[hx])) (λx hx=>lg x (by simp[hx])) ff.2 fg.2;by_cases hz:(t.1+u.1)%p=0
   .rw[nG h hz];exact ih'
   .rw[nF h hz];refine⟨λx hx=>?_,ih'⟩;obtain⟨y,hy,e⟩:=pe f g x hx;simp only;rw[e];rcases N1.1 hy with hy|hy
    .exact ff.1 y hy
    .rw[e0];exact fg.1 y hy
 .have cf:=hf.coef;have cg:=hg.coef;clear hf hg hlen;revert cf cg;refine lh (o:=o) (P:=λf g=>(∀t∈f,1<=t.1/\t.1<p)->(∀t∈g,1<=t.1/\t.1<p)->∀t∈cI p o f g,1<=t.1/\t.1<p) ?_ ?_ ?_ ?_ ?_ _ f g (NL _)
  .intro g _ h;rw[nA];exact h
  .intro f h _;rw[nB];exact h
  .intro t f u g h ih cf cg x hx;rw[nC h] at hx;rcases Og.1 hx with rfl|hx
   .exact cf x (by simp)
   .exact ih (λx hx=>cf x (by simp[hx])) cg x hx
  .intro t f u g h ih cf cg x hx;rw[nE h] at hx;rcases Og.1 hx with rfl|hx
   .exact cg x (by simp)
   .exact ih cf (λx hx=>cg x (by simp[hx])) x hx
  .intro t f u g h ih cf cg x hx;have ih':=ih (λx hx=>cf x (by simp[hx])) (λx hx=>cg x (by simp[hx]));by_cases hz:(t.1+u.1)%p=0
   .rw[nG h hz] at hx;exact ih' x hx
   .rw[nF h hz] at hx;rcases Og.1 hx with rfl|hx
    .have h1:=Int.emod_nonneg (t.1+u.1) (show p≠0 by omega);have h2:=Int.emod_lt_of_pos (t.1+u.1) (show 0<p by omega);simp only;omega
    .exact ih' x hx
theorem Gi{p a b:Nat}(h:fl p p=true)(ha:0<a)(ha2:a<p)(hb:0<b)(hb2:b<p):a*b%p≠0:=by
 intro hz;have hd:=Nat.dvd_of_mod_eq_zero hz;have hc:Nat.Coprime p a:=by have h1:=Nat.gcd_dvd_left p a;have h3:Nat.gcd p a<=a:=Nat.le_of_dvd ha (Nat.gcd_dvd_right p a);have h4:0<Nat.gcd p a:=Nat.gcd_pos_of_pos_right p ha;unfold fl at h;rw[List.all_eq_true] at h;have h5:=h (Nat.gcd p a) (List.mem_range.2 (by omega));rw[Nat.mod_eq_zero_of_dvd h1] at h5;simp at h5;show Nat.gcd p a=1;omega
 have:=Nat.le_of_dvd hb (hc.dvd_of_dvd_mul_left hd);omega
theorem l8{a b:Int}(h:bo p=0)(ha:1<=a)(ha2:a<p)(hb:1<=b)(hb2:b<p):1<=a*b%p/\a*b%p<p:=by
 have h0:fl p.toNat p.toNat=true:=by
  unfold bo at h;by_cases h1:p<2\/101<p
  .rw[Oe h1] at h;omega
  .rw[Oc h1] at h;cases hq:lQ p
   .rw[hq] at h;simp at h
   .exact hq
 have h1:=Gi h0 (a:=a.toNat) (b:=b.toNat) (by omega) (by omega) (by omega) (by omega);have e:a*b%p=((a.toNat*b.toNat%p.toNat:Nat):Int):=by rw[Int.natCast_emod,Int.natCast_mul,Int.toNat_of_nonneg (by omega),Int.toNat_of_nonneg (by omega),Int.toNat_of_nonneg (by omega)]
 have h2:=Int.emod_lt_of_pos (a*b) (show 0<p by omega);omega
theorem dS(h:bo p=0):2<=p/\p<=101:=by
 unfold bo at h;by_cases h1:p<2\/101<p
 .rw[Oe h1] at h;omega
 .omega
theorem Au{p o:Int}{n:Nat}(h:bo p=0){t:Tm}(ht:1<=t.1/\t.1<p)(hl:t.2.length=n):∀{g:Lt},cq p o n g->cq p o n (cG p t g)
 |[],_=>⟨λx hx=>by simp[cG] at hx,trivial,λx hx=>by simp[cG] at hx⟩
 |u::g,hg=>by
  have hg2:cq p o n g:=⟨λx hx=>hg.len x (by simp[hx]),hg.falls.2,λx hx=>hg.coef x (by simp[hx])⟩;have ih:=Au h ht hl hg2;have e:cG p t (u::g)=(t.1*u.1%p,aP (·+·) t.2 u.2)::cG p t g:=rfl
  have hu:=hg.coef u (by simp);have lu:=hg.len u (by simp);rw[e];refine⟨λx hx=>?_,⟨λx hx=>?_,ih.falls⟩,λx hx=>?_⟩
  .rcases Og.1 hx with rfl|hx
   .simp only;rw[ky _ _ _ (by omega)];exact hl
   .exact ih.len x hx
  .simp only[cG,N9] at hx;obtain⟨y,hy,rfl⟩:=hx;have ly:=hg.len y (by simp[hy]);simp only;rw[kZ t.2 u.2,kZ t.2 y.2,qT o u.2 y.2 t.2 (by omega) (by omega)];exact hg.falls.1 y hy
  .rcases Og.1 hx with rfl|hx
   .exact l8 h ht.1 ht.2 hu.1 hu.2
   .exact ih.coef x hx
def ef(F:Nat->Lt)(a k:Nat):Lt:=(List.range' a k).flatMap F
theorem qX(F:Nat->Lt)(a:Nat):ef F a 0=[]:=rfl
theorem uV(F:Nat->Lt)(a:Nat):ef F a 1=F a:=by simp[ef]
theorem Av(F:Nat->Lt)(a k m:Nat):ef F a (k+m)=ef F a k++ef F (a+k) m:=by unfold ef;rw[<-List.range'_append_1,List.flatMap_append]
end Go.Proofs.YtjkalahhpobefaaGreat
namespace Go.Proofs.YtjkalahhpobefaaGreat
set_option linter.all false
open Go.Proofs.Tryz Go.RowKit
def Gj(x:Int):Bool:=decide (x<0)
theorem nH(xs:OP)(b off cap:Nat)(w:OQ)(hxs:∀x∈xs,0<=x/\x<=40000)(hl:xs.length<=3)(hc:eX w b off xs):Calls prog 37 #[.slice (some (OV b off)) xs.length cap] w λe w'=>e=.returned (OW (aj xs))/\w'=w:=by
 have HC:=ae hc;clear hc;go_enter func37,ntmps37;go_wp2;go_loop [3,4] (λn i=>∃k:Nat,k<=xs.length/\i=OW k/\n=OW (aj (xs.take k))) (λ_ i=>xs.length-(intOf i).toNat);case atStart=>exact⟨0,NS _,rfl,rfl⟩
 case round=>
  obtain⟨k,hk,rfl,rfl⟩:=hrel;have hd:=kN (xs.take k) (λx hx=>hxs x (OA hx));have hl2:(xs.take k).length<=k:=List.length_take_le _ _;by_cases hlt:k<xs.length
  .have hsn:=xL xs k hlt;have hb:=hxs _ (lP xs k hlt);have hcell:=HC.o k hlt;generalize xs.getD k 0=y at hsn hb hcell;have HS:=ae hsn;clear hsn hxs;go_wp2;go_round;case rel=>exact⟨k+1,by omega,by go_num,by rw[HS.o]⟩
   case measure=>simp[intOf];omega
  .go_wp2;go_ret;exact⟨cM (by rw[N5 (by omega)]),rfl⟩
def Gk(xs ys:OP):Bool:=(aP (· - ·) xs ys).any Gj
def W0(o:Int):Int:=if o=1 then 68719476736 else 68723671040
def W1(o:Int):Int:=if o=1 then 68719476480 else 68719476992
def W2(o:Int):Int:=if o=1 then 68715282432 else 68719476736
def bU(ov i:Int):Int:=if ov=2 then (255-i)*1125899906842624 else 255-i
def bG(o:Int)(xs:OP):Int:=xs.getD 0 0*W0 o+xs.getD 1 0*W1 o+xs.getD 2 0*W2 o
def jr(o ov i:Int)(xs:OP):Int:=bU ov i+bG o xs
theorem Aw{xs:OP}(h0:0<xs.length)(h3:xs.length<=3):(∃a,xs=[a])\/(∃a b,xs=[a,b])\/(∃a b c,xs=[a,b,c]):=by
 match xs,h0,h3 with
 |[a],_,_=>exact Ox ⟨a,rfl⟩
 |[a,b],_,_=>exact Oy (Ox ⟨a,b,rfl⟩)
 |[a,b,c],_,_=>exact Oy (Oy ⟨a,b,c,rfl⟩)
 |_::_::_::_::_,_,h=>simp at h
structure uW(N:Nat)(xs:OP):Prop where
 len:xs.length=N
 nn:∀x∈xs,0<=x
 deg:aj xs<=16000
end Go.Proofs.YtjkalahhpobefaaGreat
