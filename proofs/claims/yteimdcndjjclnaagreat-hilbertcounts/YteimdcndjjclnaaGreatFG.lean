/- Clearing a column. -/
import Derived.Test.YteimdcndjjclnaaGreatFA
import Derived.Test.YteimdcndjjclnaaGreatH
namespace Go.Proofs.YteimdcndjjclnaaGreat
set_option linter.all false
open Go.Proofs.Tryz Go.RowKit
theorem qB(w:World)(r:Option Nat):w.grownBy w r:=⟨rfl,rfl,rfl,MI _,λ_ _ _=>rfl⟩
theorem cN{a b c:World}{r:Option Nat}(h:a.grownBy b r)(k:b.grownBy c r):a.grownBy c r:=
 ⟨k.os.trans h.os,k.tape.trans h.tape,k.output.trans h.output,MO h.size k.size,λi hi hn=>(k.block i (MN hi h.size) hn).trans (h.block i hi hn)⟩
theorem Ea{a b:World}{r:Option Nat}(h:a.grownBy b r):a.grownBy b.drew r:=⟨h.os,h.tape,h.output,h.size,h.block⟩
theorem Eb(w:World)(g j:Nat)(u:Value):w.grownBy (w.setCell ⟨g,j,none⟩ u) (some g):=
 ⟨rfl,rfl,rfl,by simp[World.setCell],λk _ hn=>Below.heap_setCell _ _ _ _ (λe=>hn (by rw[e]))⟩
theorem dI{w w':World}{g B:Nat}(h:w.grownBy w' (some g))(hB:B<=g)(hw:B<=w.heap.size):Below B w w':=
 ⟨h.os,h.tape,h.output,h.size,λk hk=>h.block k (by omega) (λe=>by simp at e;omega)⟩
theorem tJ{w w':World}{r:Option Nat}(h:Below w.heap.size w w'):w.grownBy w' r:=
 ⟨h.os,h.tape,h.output,h.size,λk hk _=>h.block k hk⟩
theorem yu{w w':World}{g:Nat}{v:Value}{xs:List Int}(h:w.grownBy w' (some g))(hs:Sl w v xs)(hne:∀b off n c,v=.slice (some ⟨b,off,none⟩) n c->b≠g):Sl w' v xs:=by obtain⟨a,cap,rfl,h1⟩:=hs;refine⟨a,cap,rfl,λhp=>?_⟩;obtain⟨b,off,rfl,hlt,hc⟩:=h1 hp;refine⟨b,off,rfl,MN hlt h.size,λi hi=>?_⟩;exact h.cell (hc i hi) (λe=>hne b off _ _ rfl (by injection e))
def mh(p t x y:Int):Int:=(x+t*y)%p
def gh(zs xs:List Int)(k:Nat):List Int:=zs.take k++xs.drop k
theorem yv(zs xs:List Int)(k:Nat)(h:zs.length=xs.length)(hk:k<=xs.length):(gh zs xs k).length=xs.length:=by simp[gh];omega
theorem yw(zs xs:List Int)(k:Nat)(h:zs.length=xs.length)(hk:k<xs.length):(gh zs xs k).getD k 0=xs.getD k 0:=by simp only[gh,MV];rw[Nl (by simp;omega),List.getElem?_drop];congr 2;simp;omega
theorem yx(zs xs:List Int)(k:Nat)(h:zs.length=xs.length)(hk:k<xs.length):(gh zs xs k).set k (zs.getD k 0)=gh zs xs (k+1):=by
 simp only[gh];rw[Nn hk,List.set_append_right _ _ (by simp;omega)];have e:k-(zs.take k).length=0:=by simp;omega
 rw[e,List.set_cons_zero,Na (by omega),List.append_assoc];simp[MV,show k<zs.length by omega]
theorem Ec(xs:List Int)(k:Nat)(z:Int):(fC xs).set k (.int .i64 z)=fC (xs.set k z):=by simp[List.map_set]
def fD(p:Int)(row:List Int)(f:Nat×List Int):List Int:=
 if row.getD f.1 0=0 then row else aY (mh p (p-row.getD f.1 0)) row f.2
theorem qC{w:World}{B g cap:Nat}{xs:List Int}(h:cq w B (.slice (some ⟨g,0,none⟩) xs.length cap) xs)(k:Nat)(hk:k<xs.length):w.cell? ⟨g,k,none⟩=some (.int .i64 (xs.getD k 0)):=by have h1:=MG h k (by omega);rw[h1];simp[MV,hk]
theorem Ee{w:World}{B g cap:Nat}{xs:List Int}{n:Nat}(h:cq w B (.slice (some ⟨g,0,none⟩) n cap) xs):B<=g/\g<w.heap.size:=MH h g rfl
theorem Ef{w w':World}{B g cap:Nat}{xs:List Int}{n:Nat}(h:cq w B (.slice (some ⟨g,0,none⟩) n cap) xs)(hb:Below w.heap.size w w'):cq w' B (.slice (some ⟨g,0,none⟩) n cap) xs:=
 World.ownsRow.kept h (tJ (r:=none) hb) (Nq (by simp[Value.ownBlock]))
def nz:List Int->Nat
 |[]=>0
 |x::xs=>if x=0 then nz xs+1 else 0
theorem qD:∀xs,nz xs<=xs.length
 |[]=>MI _
 |x::xs=>by simp only[nz,Nc];split<;>have:=qD xs<;>omega
theorem tK:∀xs:List Int,nz xs<xs.length->xs.getD (nz xs) 0≠0
 |[],h=>by simp[nz] at h
 |x::xs,h=>by
  simp only[nz] at h⊢;by_cases hx:x=0
  .rw[M9 hx] at h⊢;have:=tK xs (by simpa using h);simpa using this
  .rw[M8 hx];simpa using hx
theorem tL:∀(xs:List Int)(k:Nat),k<nz xs->xs.getD k 0=0
 |[],k,h=>by simp[nz] at h
 |x::xs,k,h=>by
  simp only[nz] at h;by_cases hx:x=0
  .rw[M9 hx] at h;cases k with
   |zero=>simpa using hx
   |succ k=>have:=tL xs k (by omega);simpa using this
  .rw[M8 hx] at h;omega
def bN(p:Int)(row:List Int)(fs:List (Nat×List Int)):List Int:=fs.foldl (fD p) row
def ck(p s:Int)(xs:List Int):List Int:=xs.map λx=>x*s%p
def fP(p:Int)(fs:List (Nat×List Int))(row:List Int):List (Nat×List Int):=
 if nz (bN p row fs)=(bN p row fs).length then fs else fs++[(nz (bN p row fs),ck p (aM p ((bN p row fs).getD (nz (bN p row fs)) 0)) (bN p row fs))]
def gJ(p:Int)(rows:List (List Int)):List (Nat×List Int):=rows.foldl (fP p) []
def df(p:Int)(n:Nat)(xs:List Int):Prop:=xs.length=n/\∀x∈xs,0<=x/\x<p
theorem Eg{p t:Int}{n:Nat}{xs ys:List Int}(hp:2<=p)(hx:df p n xs)(hy:df p n ys):df p n (aY (mh p t) xs ys):=by
 refine⟨by rw[jz _ _ _ (by rw[hx.1,hy.1]),hx.1],?_⟩;have hl:xs.length=ys.length:=by rw[hx.1,hy.1]
 clear hx hy;induction xs generalizing ys with
 |nil=>intro x hx;simp[aY] at hx
 |cons x xs ih=>cases ys with
  |nil=>simp at hl
  |cons y ys=>
   intro z hz;simp only[aY,Nb] at hz;rcases hz with rfl|hz
   .exact⟨Int.emod_nonneg _ (by omega),Int.emod_lt_of_pos _ (by omega)⟩
   .exact ih (by simpa using hl) z hz
theorem qE{p:Int}{n:Nat}{xs:List Int}{f:Nat×List Int}(hp:2<=p)(hx:df p n xs)(hf:df p n f.2):df p n (fD p xs f):=by
 unfold fD;split
 .exact hx
 .exact Eg hp hx hf
theorem oT{p:Int}{n:Nat}(hp:2<=p):∀(fs:List (Nat×List Int)) (xs:List Int),df p n xs->(∀f∈fs,df p n f.2)->df p n (bN p xs fs)
 |[],xs,hx,_=>hx
 |f::fs,xs,hx,hf=>oT hp fs (fD p xs f) (qE hp hx (hf f (by simp))) (λg hg=>hf g (by simp[hg]))
theorem Eh{p s:Int}{n:Nat}{xs:List Int}(hp:2<=p)(hx:df p n xs):df p n (ck p s xs):=by refine⟨by simp[ck,hx.1],λx h=>?_⟩;simp only[ck,M5] at h;obtain⟨y,_,rfl⟩:=h;exact⟨Int.emod_nonneg _ (by omega),Int.emod_lt_of_pos _ (by omega)⟩
def oU(p:Int)(n:Nat)(f:Nat×List Int):Prop:=f.1<n/\df p n f.2
theorem yA{p:Int}{n:Nat}{fs:List (Nat×List Int)}{row:List Int}(hp:2<=p)(hf:∀f∈fs,oU p n f)(hr:df p n row):∀f∈fP p fs row,oU p n f:=by
 have h1:=oT hp fs row hr (λf h=>(hf f h).2);have h2:=qD (bN p row fs);intro f hfm;unfold fP at hfm;by_cases hz:nz (bN p row fs)=(bN p row fs).length
 .rw[M9 hz] at hfm;exact hf f hfm
 .rw[M8 hz] at hfm;rw[MY] at hfm;rcases hfm with hfm|hfm
  .exact hf f hfm
  .rw[MZ] at hfm;rw[hfm];exact⟨show nz (bN p row fs)<n by rw[<-h1.1];omega,Eh hp h1⟩
theorem Ei{p:Int}{row:List Int}{fs:List (Nat×List Int)}{k:Nat}(h:k<fs.length):bN p row (fs.take (k+1))=fD p (bN p row (fs.take k)) fs[k]:=by unfold bN;rw[Na h,List.foldl_append];rfl
abbrev jA:=(Nat×List Int)×Value
theorem aI{w:World}{B:Nat}{T:TypeId}{s:Nat}{v:Value}{n:Nat}{xs:List Value}(h:w.ownsRow B T s v n xs){w':World}(hb:Below w.heap.size w w'):w'.ownsRow B T s v n xs:=by
 cases ho:v.ownBlock with
 |none=>exact h.kept (tJ (r:=none) hb) (Np ho)
 |some k=>exact h.kept (tJ (r:=none) hb) (Nq (by rw[ho];simp))
theorem mi{w:World}{B B':Nat}{T:TypeId}{s:Nat}{v:Value}{n:Nat}{xs:List Value}(h:w.ownsRow B T s v n xs)(hb:B'<=B):w.ownsRow B' T s v n xs:=by
 refine⟨h.1,?_⟩;rcases h.2 with h1|⟨g,c,ag,h1,h2,h3⟩
 .exact .inl h1
 .exact .inr ⟨g,c,ag,h1,MO hb h2,h3⟩
theorem mj{w:World}{B:Nat}{u:Value}{xs:List Int}(h:cq w B u xs)(h0:0<xs.length):∃g c,u=.slice (some ⟨g,0,none⟩) xs.length c/\B<=g/\g<w.heap.size:=by
 rcases h.2 with ⟨_,h2⟩|⟨g,c,ag,h1,_⟩
 .omega
 .subst h1;exact⟨g,c,rfl,(MH h g rfl).1,(MH h g rfl).2⟩
theorem Ej{w:World}{B:Nat}{u:Value}{xs:List Int}(h:cq w B u xs):∃a c,u=.slice a xs.length c:=by
 rcases h.2 with ⟨h1,h2⟩|⟨g,c,ag,h1,_⟩
 .exact⟨none,0,by rw[h1,h2]⟩
 .exact⟨_,c,h1⟩
theorem nh{w:World}{B g cap N:Nat}{xs:List Int}(h:cq w B (.slice (some ⟨g,0,none⟩) N cap) xs)(hN:xs.length=N)(k:Nat)(hk:k<N):w.cell? ⟨g,k,none⟩=some (.int .i64 (xs.getD k 0)):=by subst hN;exact qC h k hk
theorem tM{w:World}{B g cap N:Nat}{xs:List Int}(h:cq w B (.slice (some ⟨g,0,none⟩) N cap) xs)(hN:xs.length=N)(k:Nat):w.frozen? ⟨g,k,none⟩=false:=by subst hN;exact MF h k
theorem tN{w:World}{B g cap N:Nat}{xs:List Int}(h:cq w B (.slice (some ⟨g,0,none⟩) N cap) xs)(hN:xs.length=N)(k:Nat)(z:Int):cq (w.setCell ⟨g,k,none⟩ (.int .i64 z)) B (.slice (some ⟨g,0,none⟩) N cap) (xs.set k z):=by subst hN;have h1:=(MT h k (.int .i64 z)).1;rw[Ec] at h1;unfold cq;rw[List.length_set];exact h1
theorem Ek(p s:Int)(xs:List Int)(k:Nat)(h:k<xs.length):(ck p s xs).getD k 0=xs.getD k 0*s%p:=by simp[ck,MV,h]
abbrev cJ(qs:List jA):List (Nat×List Int):=qs.map Prod.fst
theorem yB(qs:List jA)(q:jA):cJ (qs++[q])=cJ qs++[q.1]:=by simp
theorem El{w:World}{b off:Nat}{xss:List (List Int)}(h:lZ w b off xss)(k:Nat)(hk:k<xss.length):∃a c,w.cell? ⟨b,off+k,none⟩=some (.slice a (xss.getD k []).length c)/\Sl w (.slice a (xss.getD k []).length c) (xss.getD k []):=by obtain⟨v,hc,hs⟩:=h k hk;obtain⟨a,c,rfl,_⟩:=id hs;exact⟨a,c,hc,hs⟩
end Go.Proofs.YteimdcndjjclnaaGreat
namespace Go.Proofs.YteimdcndjjclnaaGreat
open Go.Proofs.Tryz
set_option linter.all false
def aw:Nat->(Nat->Int)->Int
 |0,_=>0
 |n+1,f=>aw n f+f n
theorem ij{n:Nat}{f g:Nat->Int}(h:∀k,k<n->f k=g k):aw n f=aw n g:=by
 induction n with
 |zero=>rfl
 |succ n ih=>simp only[aw];rw[ih (λk hk=>h k (by omega)),h n (by omega)]
theorem yC(n:Nat)(f g:Nat->Int):aw n (λk=>f k+g k)=aw n f+aw n g:=by
 induction n with
 |zero=>rfl
 |succ n ih=>simp only[aw];rw[ih];omega
theorem yD(n:Nat)(f g:Nat->Int):aw n (λk=>f k-g k)=aw n f-aw n g:=by
 induction n with
 |zero=>rfl
 |succ n ih=>simp only[aw];rw[ih];omega
theorem oV(n:Nat)(c:Int)(f:Nat->Int):aw n (λk=>c*f k)=c*aw n f:=by
 induction n with
 |zero=>simp[aw]
 |succ n ih=>simp only[aw];rw[ih,Int.mul_add]
theorem Em(n:Nat)(c:Int)(f:Nat->Int):aw n (λk=>f k*c)=aw n f*c:=by
 induction n with
 |zero=>simp[aw]
 |succ n ih=>simp only[aw];rw[ih,Int.add_mul]
theorem qF(n:Nat):aw n (λ_=>0)=0:=by
 induction n with
 |zero=>rfl
 |succ n ih=>simp only[aw];rw[ih];rfl
theorem qG{n:Nat}{d:Int}{f:Nat->Int}(h:∀k,k<n->d∣f k):d∣aw n f:=by
 induction n with
 |zero=>exact⟨0,by simp[aw]⟩
 |succ n ih=>simp only[aw];exact Int.dvd_add (ih (λk hk=>h k (by omega))) (h n (by omega))
theorem En(n m:Nat)(f:Nat->Nat->Int):aw n (λi=>aw m (λj=>f i j))=aw m (λj=>aw n (λi=>f i j)):=by
 induction n with
 |zero=>simp only[aw];rw[qF]
 |succ n ih=>simp only[aw];rw[ih,<-yC]
def sk(k0 k:Nat):Nat:=if k<k0 then k else k+1
theorem qH(n k0:Nat)(h:k0<=n)(f:Nat->Int):aw (n+1) f=aw n (λk=>f (sk k0 k))+f k0:=by
 induction n with
 |zero=>
  have:k0=0:=by omega
  subst this;simp[aw]
 |succ n ih=>
  by_cases hk:k0=n+1
  .subst hk;have e:aw (n+1) (λk=>f (sk (n+1) k))=aw (n+1) f:=ij (λk hk=>by simp[sk,hk]);rw[e];rfl
  .have h1:=ih (by omega);have e:aw (n+1+1) f=aw (n+1) f+f (n+1):=rfl;have e2:aw (n+1) (λk=>f (sk k0 k))=aw n (λk=>f (sk k0 k))+f (n+1):=by
    show aw n (λk=>f (sk k0 k))+f (sk k0 n)=_;have:sk k0 n=n+1:=by unfold sk;rw[M8 (by omega)]
    rw[this]
   rw[e,h1,e2];omega
theorem Eo(p:Int)(hpr:∀a b:Int,p∣a*b->p∣a\/p∣b)(h1:¬p∣1):∀(r s:Nat),r<s->∀c:Nat->Nat->Int,∃x:Nat->Int,(∃k,k<s/\¬p∣x k)/\∀i,i<r->p∣aw s (λk=>c i k*x k):=by
 intro r;induction r with
 |zero=>intro s hs c;exact⟨λ_=>1,⟨0,hs,h1⟩,λi hi=>absurd hi (by omega)⟩
 |succ r ih=>
  intro s hs c;by_cases hall:∀k,k<s->p∣c r k
  .obtain⟨x,hx,hsol⟩:=ih s (by omega) c;refine⟨x,hx,λi hi=>?_⟩;by_cases hir:i=r
   .subst hir;exact qG (λk hk=>Int.dvd_trans (hall k hk) ⟨x k,rfl⟩)
   .exact hsol i (by omega)
  .obtain⟨k0,hk0⟩:∃k0,¬(k0<s->p∣c r k0):=by apply Nf;intro hn;exact hall (λk=>Nf (λhk=>hn ⟨k,hk⟩))
   have hk1:k0<s:=Nf (λh=>hk0 (λh'=>absurd h' h));have hk2:¬p∣c r k0:=λh=>hk0 (λ_=>h);obtain⟨s',rfl⟩:∃s',s=s'+1:=⟨s-1,by omega⟩;obtain⟨y,⟨kx,hkx,hky⟩,hsol⟩:=ih s' (by omega) (λi k=>c i (sk k0 k)*c r k0-c i k0*c r (sk k0 k));have hne:∀k,sk k0 k≠k0:=λk=>by unfold sk;split<;>omega
   obtain⟨X,hX0,hXk⟩:∃X:Nat->Int,X k0=-aw s' (λj=>c r (sk k0 j)*y j)/\∀k,X (sk k0 k)=y k*c r k0:=by
    refine⟨λk=>if k=k0 then-aw s' (λj=>c r (sk k0 j)*y j) else y (if k<k0 then k else k-1)*c r k0,by simp,λk=>?_⟩;show (if sk k0 k=k0 then _ else y (if sk k0 k<k0 then sk k0 k else sk k0 k-1)*c r k0)=_;rw[M8 (hne k)];have e:(if sk k0 k<k0 then sk k0 k else sk k0 k-1)=k:=by
     by_cases hk:k<k0
     .have e1:sk k0 k=k:=by unfold sk;rw[M9 hk]
      rw[e1,M9 hk]
     .have e1:sk k0 k=k+1:=by unfold sk;rw[M8 hk]
      rw[e1,M8 (by omega)];omega
    rw[e]
   refine⟨X,⟨sk k0 kx,?_,?_⟩,λi hi=>?_⟩
   .unfold sk;split<;>omega
   .rw[hXk];intro h;rcases hpr _ _ h with h|h
    .exact hky h
    .exact hk2 h
   .rw[qH s' k0 (by omega),hX0];have e1:aw s' (λk=>c i (sk k0 k)*X (sk k0 k))=aw s' (λk=>c i (sk k0 k)*c r k0*y k):=
     ij (λk hk=>by rw[hXk];grind)
    have e2:aw s' (λk=>c i (sk k0 k)*c r k0*y k)+c i k0*-aw s' (λj=>c r (sk k0 j)*y j)=aw s' (λk=>(c i (sk k0 k)*c r k0-c i k0*c r (sk k0 k))*y k):=by have e3:aw s' (λk=>(c i (sk k0 k)*c r k0-c i k0*c r (sk k0 k))*y k)=aw s' (λk=>c i (sk k0 k)*c r k0*y k-c i k0*(c r (sk k0 k)*y k)):=ij (λk hk=>by grind);rw[e3,yD,oV];grind
    rw[e1,e2];by_cases hir:i=r
    .subst hir;have e4:aw s' (λk=>(c i (sk k0 k)*c i k0-c i k0*c i (sk k0 k))*y k)=0:=by exact(ij (λk hk=>by grind)).trans (qF s')
     rw[e4];exact⟨0,by simp⟩
    .exact hsol i (by omega)
def Sp(p:Int)(n r:Nat)(V:Nat->Nat->Int)(u:Nat->Int):Prop:=∃a:Nat->Int,∀j,j<n->p∣u j-aw r (λk=>a k*V k j)
theorem Sp.one{p:Int}{n r:Nat}{V:Nat->Nat->Int}{k:Nat}(hk:k<r):Sp p n r V (V k):=by
 refine⟨λi=>if i=k then 1 else 0,λj _=>?_⟩;obtain⟨r',rfl⟩:∃r',r=r'+1:=⟨r-1,by omega⟩;rw[qH r' k (by omega)];have e:aw r' (λi=>(if sk k i=k then 1 else 0)*V (sk k i) j)=0:=by refine(ij (λi _=>?_)).trans (qF r');rw[M8 (by unfold sk;split<;>omega)];exact Int.zero_mul _
 rw[e];simp
theorem Sp.add{p:Int}{n r:Nat}{V:Nat->Nat->Int}{u v:Nat->Int}(hu:Sp p n r V u)(hv:Sp p n r V v):Sp p n r V (λj=>u j+v j):=by
 obtain⟨a,ha⟩:=hu;obtain⟨b,hb⟩:=hv;refine⟨λk=>a k+b k,λj hj=>?_⟩;have e:aw r (λk=>(a k+b k)*V k j)=aw r (λk=>a k*V k j)+aw r (λk=>b k*V k j):=by rw[<-yC];exact ij (λk _=>by grind)
 rw[e];have:=Int.dvd_add (ha j hj) (hb j hj);have e2:u j+v j-(aw r (λk=>a k*V k j)+aw r (λk=>b k*V k j))=u j-aw r (λk=>a k*V k j)+(v j-aw r (λk=>b k*V k j)):=by omega
 rw[e2];exact this
theorem Sp.smul{p:Int}{n r:Nat}{V:Nat->Nat->Int}{u:Nat->Int}(c:Int)(hu:Sp p n r V u):Sp p n r V (λj=>c*u j):=by
 obtain⟨a,ha⟩:=hu;refine⟨λk=>c*a k,λj hj=>?_⟩;have e:aw r (λk=>c*a k*V k j)=c*aw r (λk=>a k*V k j):=by rw[<-oV];exact ij (λk _=>by grind)
 rw[e,<-Int.mul_sub];exact Int.dvd_trans (ha j hj) ⟨c,by rw[Int.mul_comm]⟩
theorem Sp.congr{p:Int}{n r:Nat}{V:Nat->Nat->Int}{u v:Nat->Int}(hu:Sp p n r V u)(h:∀j,j<n->p∣v j-u j):Sp p n r V v:=by
 obtain⟨a,ha⟩:=hu;refine⟨a,λj hj=>?_⟩;have:=Int.dvd_add (h j hj) (ha j hj);have e:v j-u j+(u j-aw r (λk=>a k*V k j))=v j-aw r (λk=>a k*V k j):=by omega
 rwa [e] at this
theorem Sp.zero{p:Int}{n r:Nat}{V:Nat->Nat->Int}:Sp p n r V (λ_=>0):=by refine⟨λ_=>0,λj _=>?_⟩;have e:aw r (λk=>0*V k j)=0:=(ij (λk _=>Int.zero_mul _)).trans (qF r);rw[e];exact⟨0,by simp⟩
theorem Sp.sum{p:Int}{n r:Nat}{V:Nat->Nat->Int}(m:Nat)(t:Nat->Int)(U:Nat->Nat->Int)(h:∀k,k<m->Sp p n r V (U k)):Sp p n r V (λj=>aw m (λk=>t k*U k j)):=by
 induction m with
 |zero=>exact Sp.zero
 |succ m ih=>exact(ih (λk hk=>h k (by omega))).add ((h m (by omega)).smul (t m))
theorem Sp.more{p:Int}{n r r':Nat}{V V':Nat->Nat->Int}{u:Nat->Int}(hu:Sp p n r V u)(h:∀k,k<r->Sp p n r' V' (V k)):Sp p n r' V' u:=by obtain⟨a,ha⟩:=hu;exact(Sp.sum r a V h).congr ha
theorem stair(p:Int)(hpr:∀a b:Int,p∣a*b->p∣a\/p∣b)(h1:¬p∣1)(m s r:Nat)(G:Nat->Nat->Int)(d:Nat->Nat)(A:Nat->Nat->Int)(hd:∀l,l<s->d l<m)(hone:∀l,l<s->p∣G l (d l)-1)(hzero:∀l l',l<l'->l'<s->p∣G l' (d l))(hsp:∀l,l<s->Sp p m r A (G l)):s<=r:=by
 apply Nat.le_of_not_lt;intro hrs;have hC:∃C:Nat->Nat->Int,∀l,l<s->∀i,i<m->p∣G l i-aw r (λk=>C l k*A k i):=by refine⟨λl=>if h:l<s then Classical.choose (hsp l h) else λ_=>0,λl hl i hi=>?_⟩;simp only[dif_pos hl];exact Classical.choose_spec (hsp l hl) i hi
 obtain⟨C,hC⟩:=hC;obtain⟨x,⟨k,hk,hxk⟩,hsol⟩:=Eo p hpr h1 r s hrs (λk l=>C l k)
 -- the sum is nothing
 have hsum:∀i,i<m->p∣aw s (λl=>x l*G l i):=by
  intro i hi;have hA:p∣aw s (λl=>x l*G l i)-aw s (λl=>x l*aw r (λk=>C l k*A k i)):=by rw[<-yD];refine qG (λl hl=>?_);have:=hC l hl i hi;rw[<-Int.mul_sub];exact Int.dvd_trans this ⟨x l,by rw[Int.mul_comm]⟩
  have hB:p∣aw s (λl=>x l*aw r (λk=>C l k*A k i)):=by
   have e:aw s (λl=>x l*aw r (λk=>C l k*A k i))=aw r (λk=>aw s (λl=>C l k*x l)*A k i):=by
    have e1:aw s (λl=>x l*aw r (λk=>C l k*A k i))=aw s (λl=>aw r (λk=>C l k*x l*A k i)):=
     ij (λl _=>by rw[<-oV];exact ij (λk _=>by grind))
    rw[e1,En];exact ij (λk _=>by rw[<-Em])
   rw[e];exact qG (λk hk=>Int.dvd_trans (hsol k hk) ⟨A k i,rfl⟩)
  have:=Int.dvd_add hA hB;rwa [Int.sub_add_cancel] at this
 have hall:∀l,l<s->p∣x l:=by
  intro l;induction l using Nat.strongRecOn with
  |_ l ih=>
   intro hl;have h2:=hsum (d l) (hd l hl);obtain⟨s',rfl⟩:∃s',s=s'+1:=⟨s-1,by omega⟩;rw[qH s' l (by omega)] at h2;have h3:p∣aw s' (λk=>x (sk l k)*G (sk l k) (d l)):=by
    refine qG (λk hk=>?_);by_cases hkl:k<l
    .have e:sk l k=k:=by unfold sk;rw[M9 hkl]
     rw[e];exact Int.dvd_trans (ih k hkl (by omega)) ⟨_,rfl⟩
    .have e:sk l k=k+1:=by unfold sk;rw[M8 hkl]
     rw[e];exact Int.dvd_trans (hzero l (k+1) (by omega) (by omega)) ⟨x (k+1),by rw[Int.mul_comm]⟩
   have h4:p∣x l*G l (d l):=by have:=Int.dvd_sub h2 h3;rwa [show aw s' (λk=>x (sk l k)*G (sk l k) (d l))+x l*G l (d l)-aw s' (λk=>x (sk l k)*G (sk l k) (d l))=x l*G l (d l) by omega] at this
   have h5:p∣x l*(G l (d l)-1):=Int.dvd_trans (hone l hl) ⟨x l,by rw[Int.mul_comm]⟩;have:=Int.dvd_sub h4 h5;rwa [show x l*G l (d l)-x l*(G l (d l)-1)=x l by grind] at this
 exact hxk (hall k hk)
theorem tO(p x:Int):p∣x%p-x:=⟨-(x/p),by rw[Int.emod_def];grind⟩
def Vf(fs:List (Nat×List Int))(k j:Nat):Int:=(fs.getD k (0,[])).2.getD j 0
def Uf(rows:List (List Int))(k j:Nat):Int:=(rows.getD k []).getD j 0
def mm:List (Nat×List Int)->Prop
 |[]=>True
 |f::fs=>f.2.getD f.1 0=1/\(∀g∈fs,g.2.getD f.1 0=0)/\mm fs
theorem yE:∀(fs:List (Nat×List Int)) (g:Nat×List Int),mm fs->(∀f∈fs,g.2.getD f.1 0=0)->g.2.getD g.1 0=1->mm (fs++[g])
 |[],g,_,_,h=>⟨h,by simp,trivial⟩
 |f::fs,g,⟨h1,h2,h3⟩,h4,h5=>⟨h1,λx hx0=>by
   have hx:x∈fs++[g]:=hx0;rw[MY,MZ] at hx;rcases hx with hx|rfl
   .exact h2 x hx
   .exact h4 f (by simp),yE fs g h3 (λy hy=>h4 y (by simp[hy])) h5⟩
theorem yF:∀(fs:List (Nat×List Int)) (l:Nat),mm fs->l<fs.length->Vf fs l (fs.getD l (0,[])).1=1
 |[],l,_,h=>by simp at h
 |f::fs,0,⟨h1,_,_⟩,_=>by simpa [Vf] using h1
 |f::fs,l+1,⟨_,_,h3⟩,h=>by have:=yF fs l h3 (by simpa using h);simpa [Vf] using this
theorem yG:∀(fs:List (Nat×List Int)) (l l':Nat),mm fs->l<l'->l'<fs.length->Vf fs l' (fs.getD l (0,[])).1=0
 |[],l,l',_,_,h=>by simp at h
 |f::fs,l,0,_,h,_=>by omega
 |f::fs,0,l'+1,⟨_,h2,_⟩,_,h=>by
  have hl:l'<fs.length:=by simpa using h
  have:=h2 fs[l'] (MS hl);simpa [Vf,MV,hl] using this
 |f::fs,l+1,l'+1,⟨_,_,h3⟩,h,h'=>by have:=yG fs l l' h3 (by omega) (by simpa using h');simpa [Vf] using this
theorem qI{p:Int}{n:Nat}{xs:List Int}{f:Nat×List Int}(hx:df p n xs)(hf:df p n f.2)(j:Nat)(hj:j<n):(fD p xs f).getD j 0=if xs.getD f.1 0=0 then xs.getD j 0 else (xs.getD j 0+(p-xs.getD f.1 0)*f.2.getD j 0)%p:=by
 unfold fD;split
 .rfl
 .rw[oW _ _ _ (by rw[hx.1,hf.1]) j (by rw[hx.1];exact hj)];rfl
theorem Ep{p:Int}{n:Nat}{xs:List Int}{f:Nat×List Int}(hx:df p n xs)(hf:df p n f.2):∃t:Int,∀j,j<n->p∣(fD p xs f).getD j 0-(xs.getD j 0+t*f.2.getD j 0):=by
 by_cases h:xs.getD f.1 0=0
 .refine⟨0,λj hj=>?_⟩;rw[qI hx hf j hj,M9 h];exact⟨0,by simp⟩
 .refine⟨p-xs.getD f.1 0,λj hj=>?_⟩;rw[qI hx hf j hj,M8 h];exact tO _ _
theorem Er(n:Nat)(f:Nat->Int):aw (n+1) f=f 0+aw n (λk=>f (k+1)):=by rw[qH n 0 (by omega)];have:aw n (λk=>f (sk 0 k))=aw n (λk=>f (k+1)):=ij (λk _=>by simp[sk]);rw[this];omega
theorem yH{p:Int}{n:Nat}(hp:2<=p):∀(fs:List (Nat×List Int)) (xs:List Int),df p n xs->(∀f∈fs,df p n f.2)->∃t:Nat->Int,∀j,j<n->p∣(bN p xs fs).getD j 0-(xs.getD j 0+aw fs.length (λl=>t l*Vf fs l j))
 |[],xs,_,_=>⟨λ_=>0,λj _=>by simp[bN,aw]⟩
 |f::fs,xs,hx,hf=>by
  have hff:=hf f (by simp);obtain⟨t,ht⟩:=yH hp fs (fD p xs f) (qE hp hx hff) (λg hg=>hf g (by simp[hg]));obtain⟨t0,ht0⟩:=Ep hx hff;refine⟨λl=>if l=0 then t0 else t (l-1),λj hj=>?_⟩;have e:aw (f::fs).length (λl=>(if l=0 then t0 else t (l-1))*Vf (f::fs) l j)=t0*f.2.getD j 0+aw fs.length (λl=>t l*Vf fs l j):=by
   rw[Nc,Er];have e2:aw fs.length (λk=>(if k+1=0 then t0 else t (k+1-1))*Vf (f::fs) (k+1) j)=aw fs.length (λl=>t l*Vf fs l j):=
    ij (λk _=>by simp[Vf])
   rw[e2];simp[Vf]
  rw[e];have h1:=Int.dvd_add (ht j hj) (ht0 j hj);have e3:(bN p xs (f::fs)).getD j 0=(bN p (fD p xs f) fs).getD j 0:=rfl;rw[e3];have e4:((bN p (fD p xs f) fs).getD j 0-((fD p xs f).getD j 0+aw fs.length (λl=>t l*Vf fs l j)))+((fD p xs f).getD j 0-(xs.getD j 0+t0*f.2.getD j 0))
    =(bN p (fD p xs f) fs).getD j 0-(xs.getD j 0+(t0*f.2.getD j 0+aw fs.length (λl=>t l*Vf fs l j))):=by omega
  rw[e4] at h1;exact h1
theorem yI{p:Int}{n:Nat}(hp:2<=p)(c:Nat)(hc:c<n):∀(fs:List (Nat×List Int)) (xs:List Int),df p n xs->(∀f∈fs,df p n f.2)->xs.getD c 0=0->(∀g∈fs,g.2.getD c 0=0)->(bN p xs fs).getD c 0=0
 |[],xs,_,_,h,_=>h
 |f::fs,xs,hx,hf,h,hg=>by have hff:=hf f (by simp);refine yI hp c hc fs (fD p xs f) (qE hp hx hff) (λg hg=>hf g (by simp[hg])) ?_ (λg h=>hg g (by simp[h]));rw[qI hx hff c hc,h,hg f (by simp)];split<;>simp
theorem yJ{p:Int}{n:Nat}(hp:2<=p):∀(fs:List (Nat×List Int)) (xs:List Int),df p n xs->(∀f∈fs,oU p n f)->mm fs->∀f∈fs,(bN p xs fs).getD f.1 0=0
 |[],_,_,_,_,f,hf=>by simp at hf
 |g::fs,xs,hx,hok,⟨h1,h2,h3⟩,f,hf=>by
  have hgg:=hok g (by simp);have hcl:=qE hp hx hgg.2;simp only[Nb] at hf;rcases hf with rfl|hf
  .refine yI hp f.1 hgg.1 fs (fD p xs f) hcl (λx h=>(hok x (by simp[h])).2) ?_ h2;rw[qI hx hgg.2 f.1 hgg.1,h1];split
   .assumption
   .have e:xs.getD f.1 0+(p-xs.getD f.1 0)*1=p:=by omega
    rw[e];simp
  .exact yJ hp fs (fD p xs g) hcl (λx h=>hok x (by simp[h])) h3 f hf
structure fY(p:Int)(n:Nat)(done:List (List Int))(fs:List (Nat×List Int)):Prop where
 piv:∀f∈fs,oU p n f
 stair:mm fs
 made:∀f∈fs,Sp p n done.length (Uf done) (λj=>f.2.getD j 0)
 makes:∀r∈done,Sp p n fs.length (Vf fs) (λj=>r.getD j 0)
theorem Et{xs:List Int}(h:nz xs=xs.length)(j:Nat)(hj:j<xs.length):xs.getD j 0=0:=tL xs j (by omega)
theorem Eu{p n:Nat}{done:List (List Int)}{fs:List (Nat×List Int)}{row:List Int}(hp:2<=p)(hp2:p<=101)(hpr:dQ p p=true)(hr:df p n row)(h:fY p n done fs):fY p n (done++[row]) (fP p fs row):=by
 have hpi:(2:Int)<=(p:Int):=by omega
 have hrx:=oT (p:=p) (n:=n) hpi fs row hr (λf hf=>(h.piv f hf).2);obtain⟨t,ht⟩:=yH (p:=p) (n:=n) hpi fs row hr (λf hf=>(h.piv f hf).2);have hz:=yJ (p:=p) (n:=n) hpi fs row hr h.piv h.stair;have hnl:=qD (bN p row fs)
 -- more rows
 have upU:∀k,k<done.length->Sp p n (done++[row]).length (Uf (done++[row])) (Uf done k):=by
  intro k hk;have e:Uf done k=Uf (done++[row]) k:=by funext j;simp[Uf,MV,List.getElem?_append,hk]
  rw[e];exact Sp.one (by simp;omega)
 have rowU:Sp p n (done++[row]).length (Uf (done++[row])) (λj=>row.getD j 0):=by
  have e:(λj=>row.getD j 0)=Uf (done++[row]) done.length:=by funext j;simp[Uf]
  rw[e];exact Sp.one (by simp)
 have hmade:∀f∈fs,Sp p n (done++[row]).length (Uf (done++[row])) (λj=>f.2.getD j 0):=λf hf=>(h.made f hf).more upU;have hV:∀k,k<fs.length->Sp p n (done++[row]).length (Uf (done++[row])) (Vf fs k):=by
  intro k hk;have e:Vf fs k=λj=>fs[k].2.getD j 0:=by funext j;simp[Vf,MV,hk]
  rw[e];exact hmade _ (MS hk)
 have hsok:=yA (p:=p) (n:=n) hpi h.piv hr;unfold fP at hsok⊢;by_cases hc:nz (bN p row fs)=(bN p row fs).length
 .rw[M9 hc] at hsok⊢;refine⟨h.piv,h.stair,hmade,λr hrm=>?_⟩;rw[MY,MZ] at hrm;rcases hrm with hrm|rfl
  .exact h.makes r hrm
  .refine(Sp.sum fs.length (λl=>-t l) (Vf fs) (λk hk=>Sp.one hk)).congr (λj hj=>?_);have h1:=ht j hj;rw[Et hc j (by rw[hrx.1];exact hj)] at h1;have e:aw fs.length (λl=>-t l*Vf fs l j)=-aw fs.length (λl=>t l*Vf fs l j):=by have e2:aw fs.length (λl=>-t l*Vf fs l j)=aw fs.length (λl=>(-1)*(t l*Vf fs l j)):=ij (λl _=>by grind);rw[e2,oV];omega
   rw[e];obtain⟨u,hu⟩:=h1;exact⟨-u,by rw[Int.mul_neg,<-hu];omega⟩
 .rw[M8 hc] at hsok⊢;have hcn:nz (bN p row fs)<(bN p row fs).length:=by omega
  have hx0:=tK _ hcn;have hxm:=hrx.2 _ (fh _ _ hcn);generalize bN p row fs=r at*;generalize nz r=c at*;obtain⟨an,han⟩:∃an:Nat,r.getD c 0=an:=⟨(r.getD c 0).toNat,by omega⟩;rw[han] at hsok⊢hx0 hxm;have hok:=yr (tH (p:=p) (a:=an) hp hp2 hpr (by omega) (by omega));have hinv:aM (p:Int) (an:Int)=(dS p an:Int):=rfl;rw[hinv] at hsok⊢;have hone:(p:Int)∣(an:Int)*(dS p an:Int)-1:=by
   have h1:=hok.2.2.1;rw[Nat.mod_eq_of_lt (show 1<p by omega)] at h1;refine⟨((an*dS p an/p:Nat):Int),?_⟩;have h2:=Nat.div_add_mod (an*dS p an) p;rw[h1] at h2;have h3:((an*dS p an:Nat):Int)=(p:Int)*((an*dS p an/p:Nat):Int)+1:=by rw[<-Int.natCast_mul,<-Int.natCast_one,<-Int.natCast_add,h2]
   rw[Int.natCast_mul] at h3;omega
  generalize dS p an=s at*;have hgj:∀j,j<n->(ck p s r).getD j 0=r.getD j 0*s%p:=λj hj=>by simp[ck,MV,show j<r.length by rw[hrx.1];exact hj]
  have hcn':c<n:=by rw[<-hrx.1];exact hcn
  refine⟨hsok,?_,λf hf=>?_,λr' hrm=>?_⟩
  .refine yE fs _ h.stair (λf hf=>?_) ?_
   .show (ck p s r).getD f.1 0=0;rw[hgj f.1 (h.piv f hf).1,hz f hf];simp
   .show (ck p s r).getD c 0=1;rw[hgj c hcn',han];obtain⟨u,hu⟩:=hone;have e:(an:Int)*(s:Int)=1+(p:Int)*u:=by omega
    rw[e,Int.add_mul_emod_self_left];exact Int.emod_eq_of_lt (by omega) (by omega)
  .rw[MY,MZ] at hf;rcases hf with hf|rfl
   .exact hmade f hf
   .refine((rowU.add (Sp.sum fs.length t (Vf fs) hV)).smul (s:Int)).congr (λj hj=>?_);show (p:Int)∣(ck p s r).getD j 0-(s:Int)*(row.getD j 0+aw fs.length (λk=>t k*Vf fs k j));rw[hgj j hj];have h1:=tO (p:Int) (r.getD j 0*s);have h2:(p:Int)∣(s:Int)*(r.getD j 0-(row.getD j 0+aw fs.length (λk=>t k*Vf fs k j))):=Int.dvd_trans (ht j hj) ⟨s,by rw[Int.mul_comm]⟩;have h3:=Int.dvd_add h1 h2;have e:r.getD j 0*(s:Int)%(p:Int)-r.getD j 0*(s:Int)+(s:Int)*(r.getD j 0-(row.getD j 0+aw fs.length (λk=>t k*Vf fs k j)))=r.getD j 0*(s:Int)%(p:Int)-(s:Int)*(row.getD j 0+aw fs.length (λk=>t k*Vf fs k j)):=by grind
    rw[e] at h3;exact h3
  ·-- the rows
   have upV:∀k,k<fs.length->Sp p n (fs++[(c,ck p s r)]).length (Vf (fs++[(c,ck p s r)])) (Vf fs k):=by
    intro k hk;have e:Vf fs k=Vf (fs++[(c,ck p s r)]) k:=by funext j;simp[Vf,MV,List.getElem?_append,hk]
    rw[e];exact Sp.one (by simp;omega)
   rw[MY,MZ] at hrm;rcases hrm with hrm|rfl
   .exact(h.makes r' hrm).more upV
   .have gV:Sp p n (fs++[(c,ck p s r)]).length (Vf (fs++[(c,ck p s r)])) (λj=>(ck p s r).getD j 0):=by
     have e:(λj=>(ck p s r).getD j 0)=Vf (fs++[(c,ck p s r)]) fs.length:=by funext j;simp[Vf]
     rw[e];exact Sp.one (by simp)
    refine((gV.smul (an:Int)).add (Sp.sum fs.length (λl=>-t l) (Vf fs) upV)).congr (λj hj=>?_);show (p:Int)∣r'.getD j 0-((an:Int)*(ck p s r).getD j 0+aw fs.length (λl=>-t l*Vf fs l j));rw[hgj j hj];have e0:aw fs.length (λl=>-t l*Vf fs l j)=-aw fs.length (λl=>t l*Vf fs l j):=by have e2:aw fs.length (λl=>-t l*Vf fs l j)=aw fs.length (λl=>(-1)*(t l*Vf fs l j)):=ij (λl _=>by grind);rw[e2,oV];omega
    rw[e0];obtain⟨u1,h1⟩:=ht j hj;obtain⟨u2,h2⟩:=tO (p:Int) (r.getD j 0*s);obtain⟨u3,h3⟩:=hone;refine⟨-u1-(an:Int)*u2-u3*r.getD j 0,?_⟩;grind
theorem yL{p n:Nat}(hp:2<=p)(hp2:p<=101)(hpr:dQ p p=true):∀(rest done:List (List Int)) (fs:List (Nat×List Int)),(∀r∈rest,df p n r)->fY p n done fs->fY p n (done++rest) (rest.foldl (fP p) fs)
 |[],done,fs,_,h=>by simpa using h
 |row::rest,done,fs,hr,h=>by have h1:=yL hp hp2 hpr rest (done++[row]) (fP p fs row) (λr hm=>hr r (by simp[hm])) (Eu hp hp2 hpr (hr row (by simp)) h);simpa using h1
theorem Ev{p n:Nat}{rows:List (List Int)}(hp:2<=p)(hp2:p<=101)(hpr:dQ p p=true)(hr:∀r∈rows,df p n r):fY p n rows (gJ p rows):=by have h:=yL (p:=p) (n:=n) hp hp2 hpr rows [] [] hr ⟨by simp,trivial,by simp,by simp⟩;simpa [gJ] using h
theorem Ew(p:Int)(rows:List (List Int)):(gJ p rows).length<=rows.length:=by
 have h:∀(rest:List (List Int)) (fs:List (Nat×List Int)),(rest.foldl (fP p) fs).length<=fs.length+rest.length:=by
  intro rest;induction rest with
  |nil=>intro fs;simp
  |cons row rest ih=>
   intro fs;have h1:=ih (fP p fs row);have h2:(fP p fs row).length<=fs.length+1:=by unfold fP;split<;>simp
   simp only[List.foldl_cons,Nc];omega
 have:=h rows [];simpa [gJ] using this
end Go.Proofs.YteimdcndjjclnaaGreat
