/- Clearing a column. -/
import Derived.Test.YteimdcndjjclnaaGreatFA
import Derived.Test.YteimdcndjjclnaaGreatH
namespace Go.Proofs.YteimdcndjjclnaaGreat
set_option linter.all false
open Go.Proofs.Tryz Go.RowKit
theorem C7(w:World)(r:Option Nat):w.grownBy w r:=⟨rfl,rfl,rfl,Lc _,λ_ _ _=>rfl⟩
theorem cE{a b c:World}{r:Option Nat}(h:a.grownBy b r)(k:b.grownBy c r):a.grownBy c r:=
 ⟨k.os.trans h.os,k.tape.trans h.tape,k.output.trans h.output,Lk h.size k.size,λi hi hn=>(k.block i (Lj hi h.size) hn).trans (h.block i hi hn)⟩
theorem dE{w w':World}{g B:Nat}(h:w.grownBy w' (some g))(hB:B<=g)(hw:B<=w.heap.size):Below B w w':=
 ⟨h.os,h.tape,h.output,h.size,λk hk=>h.block k (by omega) (λe=>by simp at e;omega)⟩
theorem wU{w w':World}{r:Option Nat}(h:Below w.heap.size w w'):w.grownBy w' r:=
 ⟨h.os,h.tape,h.output,h.size,λk hk _=>h.block k hk⟩
theorem wV{w w':World}{g:Nat}{v:Value}{xs:List Int}(h:w.grownBy w' (some g))(hs:Sl w v xs)(hne:∀b off n c,v=.slice (some ⟨b,off,none⟩) n c->b≠g):Sl w' v xs:=by obtain⟨a,cap,rfl,h1⟩:=hs;refine⟨a,cap,rfl,λhp=>?_⟩;obtain⟨b,off,rfl,hlt,hc⟩:=h1 hp;refine⟨b,off,rfl,Lj hlt h.size,λi hi=>?_⟩;exact h.cell (hc i hi) (λe=>hne b off _ _ rfl (by injection e))
def wW(p t x y:Int):Int:=(x+t*y)%p
def fU(p:Int)(row:List Int)(f:Nat×List Int):List Int:=
 if row.getD f.1 0=0 then row else bL (wW p (p-row.getD f.1 0)) row f.2
theorem C8{w:World}{B g cap:Nat}{xs:List Int}(h:iB w B (.slice (some ⟨g,0,none⟩) xs.length cap) xs)(k:Nat)(hk:k<xs.length):w.cell? ⟨g,k,none⟩=some (.int .i64 (xs.getD k 0)):=by have h1:=La h k (by omega);rw[h1];simp[Lr,hk]
def nz:List Int->Nat
 |[]=>0
 |x::xs=>if x=0 then nz xs+1 else 0
theorem sr:∀xs,nz xs<=xs.length
 |[]=>Lc _
 |x::xs=>by simp only[nz,LN];split<;>have:=sr xs<;>omega
theorem wX:∀xs:List Int,nz xs<xs.length->xs.getD (nz xs) 0≠0
 |[],h=>by simp[nz] at h
 |x::xs,h=>by
  simp only[nz] at h⊢;by_cases hx:x=0
  .rw[LI hx] at h⊢;have:=wX xs (by simpa using h);simpa using this
  .rw[LH hx];simpa using hx
theorem wY:∀(xs:List Int)(k:Nat),k<nz xs->xs.getD k 0=0
 |[],k,h=>by simp[nz] at h
 |x::xs,k,h=>by
  simp only[nz] at h;by_cases hx:x=0
  .rw[LI hx] at h;cases k with
   |zero=>simpa using hx
   |succ k=>have:=wY xs k (by omega);simpa using this
  .rw[LH hx] at h;omega
def dJ(p:Int)(row:List Int)(fs:List (Nat×List Int)):List Int:=fs.foldl (fU p) row
def dI(p s:Int)(xs:List Int):List Int:=xs.map λx=>x*s%p
def lw(p:Int)(fs:List (Nat×List Int))(row:List Int):List (Nat×List Int):=
 if nz (dJ p row fs)=(dJ p row fs).length then fs else fs++[(nz (dJ p row fs),dI p (aN p ((dJ p row fs).getD (nz (dJ p row fs)) 0)) (dJ p row fs))]
def lA(p:Int)(rows:List (List Int)):List (Nat×List Int):=rows.foldl (lw p) []
def cU(p:Int)(n:Nat)(xs:List Int):Prop:=xs.length=n/\∀x∈xs,0<=x/\x<p
theorem C9{p t:Int}{n:Nat}{xs ys:List Int}(hp:2<=p)(hx:cU p n xs)(hy:cU p n ys):cU p n (bL (wW p t) xs ys):=by
 refine⟨by rw[kF _ _ _ (by rw[hx.1,hy.1]),hx.1],?_⟩;have hl:xs.length=ys.length:=by rw[hx.1,hy.1]
 clear hx hy;induction xs generalizing ys with
 |nil=>intro x hx;simp[bL] at hx
 |cons x xs ih=>cases ys with
  |nil=>simp at hl
  |cons y ys=>
   intro z hz;simp only[bL,LL] at hz;rcases hz with rfl|hz
   .exact⟨Int.emod_nonneg _ (by omega),Int.emod_lt_of_pos _ (by omega)⟩
   .exact ih (by simpa using hl) z hz
theorem pG{p:Int}{n:Nat}{xs:List Int}{f:Nat×List Int}(hp:2<=p)(hx:cU p n xs)(hf:cU p n f.2):cU p n (fU p xs f):=by
 unfold fU;split
 .exact hx
 .exact C9 hp hx hf
theorem su{p:Int}{n:Nat}(hp:2<=p):∀(fs:List (Nat×List Int)) (xs:List Int),cU p n xs->(∀f∈fs,cU p n f.2)->cU p n (dJ p xs fs)
 |[],xs,hx,_=>hx
 |f::fs,xs,hx,hf=>su hp fs (fU p xs f) (pG hp hx (hf f (by simp))) (λg hg=>hf g (by simp[hg]))
theorem Da{p s:Int}{n:Nat}{xs:List Int}(hp:2<=p)(hx:cU p n xs):cU p n (dI p s xs):=by refine⟨by simp[dI,hx.1],λx h=>?_⟩;simp only[dI,LC] at h;obtain⟨y,_,rfl⟩:=h;exact⟨Int.emod_nonneg _ (by omega),Int.emod_lt_of_pos _ (by omega)⟩
def pH(p:Int)(n:Nat)(f:Nat×List Int):Prop:=f.1<n/\cU p n f.2
theorem Db{p:Int}{n:Nat}{fs:List (Nat×List Int)}{row:List Int}(hp:2<=p)(hf:∀f∈fs,pH p n f)(hr:cU p n row):∀f∈lw p fs row,pH p n f:=by
 have h1:=su hp fs row hr (λf h=>(hf f h).2);have h2:=sr (dJ p row fs);intro f hfm;unfold lw at hfm;by_cases hz:nz (dJ p row fs)=(dJ p row fs).length
 .rw[LI hz] at hfm;exact hf f hfm
 .rw[LH hz] at hfm;rw[Lv] at hfm;rcases hfm with hfm|hfm
  .exact hf f hfm
  .rw[Lw] at hfm;rw[hfm];exact⟨show nz (dJ p row fs)<n by rw[<-h1.1];omega,Da hp h1⟩
abbrev n7:=(Nat×List Int)×Value
theorem aK{w:World}{B:Nat}{T:TypeId}{s:Nat}{v:Value}{n:Nat}{xs:List Value}(h:w.ownsRow B T s v n xs){w':World}(hb:Below w.heap.size w w'):w'.ownsRow B T s v n xs:=by
 cases ho:v.ownBlock with
 |none=>exact h.kept (wU (r:=none) hb) (L0 ho)
 |some k=>exact h.kept (wU (r:=none) hb) (L3 (by rw[ho];simp))
theorem sw{w:World}{B B':Nat}{T:TypeId}{s:Nat}{v:Value}{n:Nat}{xs:List Value}(h:w.ownsRow B T s v n xs)(hb:B'<=B):w.ownsRow B' T s v n xs:=by
 refine⟨h.1,?_⟩;rcases h.2 with h1|⟨g,c,af,h1,h2,h3⟩
 .exact .inl h1
 .exact .inr ⟨g,c,af,h1,Lk hb h2,h3⟩
theorem Dc{w:World}{B:Nat}{u:Value}{xs:List Int}(h:iB w B u xs)(h0:0<xs.length):∃g c,u=.slice (some ⟨g,0,none⟩) xs.length c/\B<=g/\g<w.heap.size:=by
 rcases h.2 with ⟨_,h2⟩|⟨g,c,af,h1,_⟩
 .omega
 .subst h1;exact⟨g,c,rfl,(Lb h g rfl).1,(Lb h g rfl).2⟩
end Go.Proofs.YteimdcndjjclnaaGreat
namespace Go.Proofs.YteimdcndjjclnaaGreat
open Go.Proofs.Tryz
set_option linter.all false
def aq:Nat->(Nat->Int)->Int
 |0,_=>0
 |n+1,f=>aq n f+f n
theorem gE{n:Nat}{f g:Nat->Int}(h:∀k,k<n->f k=g k):aq n f=aq n g:=by
 induction n with
 |zero=>rfl
 |succ n ih=>simp only[aq];rw[ih (λk hk=>h k (by omega)),h n (by omega)]
theorem wZ(n:Nat)(f g:Nat->Int):aq n (λk=>f k+g k)=aq n f+aq n g:=by
 induction n with
 |zero=>rfl
 |succ n ih=>simp only[aq];rw[ih];omega
theorem xe(n:Nat)(f g:Nat->Int):aq n (λk=>f k-g k)=aq n f-aq n g:=by
 induction n with
 |zero=>rfl
 |succ n ih=>simp only[aq];rw[ih];omega
theorem oa(n:Nat)(c:Int)(f:Nat->Int):aq n (λk=>c*f k)=c*aq n f:=by
 induction n with
 |zero=>simp[aq]
 |succ n ih=>simp only[aq];rw[ih,Int.mul_add]
theorem Dd(n:Nat)(c:Int)(f:Nat->Int):aq n (λk=>f k*c)=aq n f*c:=by
 induction n with
 |zero=>simp[aq]
 |succ n ih=>simp only[aq];rw[ih,Int.add_mul]
theorem pI(n:Nat):aq n (λ_=>0)=0:=by
 induction n with
 |zero=>rfl
 |succ n ih=>simp only[aq];rw[ih];rfl
theorem pJ{n:Nat}{d:Int}{f:Nat->Int}(h:∀k,k<n->d∣f k):d∣aq n f:=by
 induction n with
 |zero=>exact⟨0,by simp[aq]⟩
 |succ n ih=>simp only[aq];exact Int.dvd_add (ih (λk hk=>h k (by omega))) (h n (by omega))
theorem Df(n m:Nat)(f:Nat->Nat->Int):aq n (λi=>aq m (λj=>f i j))=aq m (λj=>aq n (λi=>f i j)):=by
 induction n with
 |zero=>simp only[aq];rw[pI]
 |succ n ih=>simp only[aq];rw[ih,<-wZ]
def sk(k0 k:Nat):Nat:=if k<k0 then k else k+1
theorem pK(n k0:Nat)(h:k0<=n)(f:Nat->Int):aq (n+1) f=aq n (λk=>f (sk k0 k))+f k0:=by
 induction n with
 |zero=>
  have:k0=0:=by omega
  subst this;simp[aq]
 |succ n ih=>
  by_cases hk:k0=n+1
  .subst hk;have e:aq (n+1) (λk=>f (sk (n+1) k))=aq (n+1) f:=gE (λk hk=>by simp[sk,hk]);rw[e];rfl
  .have h1:=ih (by omega);have e:aq (n+1+1) f=aq (n+1) f+f (n+1):=rfl;have e2:aq (n+1) (λk=>f (sk k0 k))=aq n (λk=>f (sk k0 k))+f (n+1):=by
    show aq n (λk=>f (sk k0 k))+f (sk k0 n)=_;have:sk k0 n=n+1:=by unfold sk;rw[LH (by omega)]
    rw[this]
   rw[e,h1,e2];omega
theorem Dg(p:Int)(hpr:∀a b:Int,p∣a*b->p∣a\/p∣b)(h1:¬p∣1):∀(r s:Nat),r<s->∀c:Nat->Nat->Int,∃x:Nat->Int,(∃k,k<s/\¬p∣x k)/\∀i,i<r->p∣aq s (λk=>c i k*x k):=by
 intro r;induction r with
 |zero=>intro s hs c;exact⟨λ_=>1,⟨0,hs,h1⟩,λi hi=>absurd hi (by omega)⟩
 |succ r ih=>
  intro s hs c;by_cases hall:∀k,k<s->p∣c r k
  .obtain⟨x,hx,hsol⟩:=ih s (by omega) c;refine⟨x,hx,λi hi=>?_⟩;by_cases hir:i=r
   .subst hir;exact pJ (λk hk=>Int.dvd_trans (hall k hk) ⟨x k,rfl⟩)
   .exact hsol i (by omega)
  .obtain⟨k0,hk0⟩:∃k0,¬(k0<s->p∣c r k0):=by apply LP;intro hn;exact hall (λk=>LP (λhk=>hn ⟨k,hk⟩))
   have hk1:k0<s:=LP (λh=>hk0 (λh'=>absurd h' h));have hk2:¬p∣c r k0:=λh=>hk0 (λ_=>h);obtain⟨s',rfl⟩:∃s',s=s'+1:=⟨s-1,by omega⟩;obtain⟨y,⟨kx,hkx,hky⟩,hsol⟩:=ih s' (by omega) (λi k=>c i (sk k0 k)*c r k0-c i k0*c r (sk k0 k));have hne:∀k,sk k0 k≠k0:=λk=>by unfold sk;split<;>omega
   obtain⟨X,hX0,hXk⟩:∃X:Nat->Int,X k0=-aq s' (λj=>c r (sk k0 j)*y j)/\∀k,X (sk k0 k)=y k*c r k0:=by
    refine⟨λk=>if k=k0 then-aq s' (λj=>c r (sk k0 j)*y j) else y (if k<k0 then k else k-1)*c r k0,by simp,λk=>?_⟩;show (if sk k0 k=k0 then _ else y (if sk k0 k<k0 then sk k0 k else sk k0 k-1)*c r k0)=_;rw[LH (hne k)];have e:(if sk k0 k<k0 then sk k0 k else sk k0 k-1)=k:=by
     by_cases hk:k<k0
     .have e1:sk k0 k=k:=by unfold sk;rw[LI hk]
      rw[e1,LI hk]
     .have e1:sk k0 k=k+1:=by unfold sk;rw[LH hk]
      rw[e1,LH (by omega)];omega
    rw[e]
   refine⟨X,⟨sk k0 kx,?_,?_⟩,λi hi=>?_⟩
   .unfold sk;split<;>omega
   .rw[hXk];intro h;rcases hpr _ _ h with h|h
    .exact hky h
    .exact hk2 h
   .rw[pK s' k0 (by omega),hX0];have e1:aq s' (λk=>c i (sk k0 k)*X (sk k0 k))=aq s' (λk=>c i (sk k0 k)*c r k0*y k):=
     gE (λk hk=>by rw[hXk];grind)
    have e2:aq s' (λk=>c i (sk k0 k)*c r k0*y k)+c i k0*-aq s' (λj=>c r (sk k0 j)*y j)=aq s' (λk=>(c i (sk k0 k)*c r k0-c i k0*c r (sk k0 k))*y k):=by have e3:aq s' (λk=>(c i (sk k0 k)*c r k0-c i k0*c r (sk k0 k))*y k)=aq s' (λk=>c i (sk k0 k)*c r k0*y k-c i k0*(c r (sk k0 k)*y k)):=gE (λk hk=>by grind);rw[e3,xe,oa];grind
    rw[e1,e2];by_cases hir:i=r
    .subst hir;have e4:aq s' (λk=>(c i (sk k0 k)*c i k0-c i k0*c i (sk k0 k))*y k)=0:=by exact(gE (λk hk=>by grind)).trans (pI s')
     rw[e4];exact⟨0,by simp⟩
    .exact hsol i (by omega)
def Sp(p:Int)(n r:Nat)(V:Nat->Nat->Int)(u:Nat->Int):Prop:=∃a:Nat->Int,∀j,j<n->p∣u j-aq r (λk=>a k*V k j)
theorem Sp.one{p:Int}{n r:Nat}{V:Nat->Nat->Int}{k:Nat}(hk:k<r):Sp p n r V (V k):=by
 refine⟨λi=>if i=k then 1 else 0,λj _=>?_⟩;obtain⟨r',rfl⟩:∃r',r=r'+1:=⟨r-1,by omega⟩;rw[pK r' k (by omega)];have e:aq r' (λi=>(if sk k i=k then 1 else 0)*V (sk k i) j)=0:=by refine(gE (λi _=>?_)).trans (pI r');rw[LH (by unfold sk;split<;>omega)];exact Int.zero_mul _
 rw[e];simp
theorem Sp.add{p:Int}{n r:Nat}{V:Nat->Nat->Int}{u v:Nat->Int}(hu:Sp p n r V u)(hv:Sp p n r V v):Sp p n r V (λj=>u j+v j):=by
 obtain⟨a,ha⟩:=hu;obtain⟨b,hb⟩:=hv;refine⟨λk=>a k+b k,λj hj=>?_⟩;have e:aq r (λk=>(a k+b k)*V k j)=aq r (λk=>a k*V k j)+aq r (λk=>b k*V k j):=by rw[<-wZ];exact gE (λk _=>by grind)
 rw[e];have:=Int.dvd_add (ha j hj) (hb j hj);have e2:u j+v j-(aq r (λk=>a k*V k j)+aq r (λk=>b k*V k j))=u j-aq r (λk=>a k*V k j)+(v j-aq r (λk=>b k*V k j)):=by omega
 rw[e2];exact this
theorem Sp.smul{p:Int}{n r:Nat}{V:Nat->Nat->Int}{u:Nat->Int}(c:Int)(hu:Sp p n r V u):Sp p n r V (λj=>c*u j):=by
 obtain⟨a,ha⟩:=hu;refine⟨λk=>c*a k,λj hj=>?_⟩;have e:aq r (λk=>c*a k*V k j)=c*aq r (λk=>a k*V k j):=by rw[<-oa];exact gE (λk _=>by grind)
 rw[e,<-Int.mul_sub];exact Int.dvd_trans (ha j hj) ⟨c,by rw[Int.mul_comm]⟩
theorem Sp.congr{p:Int}{n r:Nat}{V:Nat->Nat->Int}{u v:Nat->Int}(hu:Sp p n r V u)(h:∀j,j<n->p∣v j-u j):Sp p n r V v:=by
 obtain⟨a,ha⟩:=hu;refine⟨a,λj hj=>?_⟩;have:=Int.dvd_add (h j hj) (ha j hj);have e:v j-u j+(u j-aq r (λk=>a k*V k j))=v j-aq r (λk=>a k*V k j):=by omega
 rwa [e] at this
theorem Sp.zero{p:Int}{n r:Nat}{V:Nat->Nat->Int}:Sp p n r V (λ_=>0):=by refine⟨λ_=>0,λj _=>?_⟩;have e:aq r (λk=>0*V k j)=0:=(gE (λk _=>Int.zero_mul _)).trans (pI r);rw[e];exact⟨0,by simp⟩
theorem Sp.sum{p:Int}{n r:Nat}{V:Nat->Nat->Int}(m:Nat)(t:Nat->Int)(U:Nat->Nat->Int)(h:∀k,k<m->Sp p n r V (U k)):Sp p n r V (λj=>aq m (λk=>t k*U k j)):=by
 induction m with
 |zero=>exact Sp.zero
 |succ m ih=>exact(ih (λk hk=>h k (by omega))).add ((h m (by omega)).smul (t m))
theorem Sp.more{p:Int}{n r r':Nat}{V V':Nat->Nat->Int}{u:Nat->Int}(hu:Sp p n r V u)(h:∀k,k<r->Sp p n r' V' (V k)):Sp p n r' V' u:=by obtain⟨a,ha⟩:=hu;exact(Sp.sum r a V h).congr ha
theorem stair(p:Int)(hpr:∀a b:Int,p∣a*b->p∣a\/p∣b)(h1:¬p∣1)(m s r:Nat)(G:Nat->Nat->Int)(d:Nat->Nat)(A:Nat->Nat->Int)(hd:∀l,l<s->d l<m)(hone:∀l,l<s->p∣G l (d l)-1)(hzero:∀l l',l<l'->l'<s->p∣G l' (d l))(hsp:∀l,l<s->Sp p m r A (G l)):s<=r:=by
 apply Nat.le_of_not_lt;intro hrs;have hC:∃C:Nat->Nat->Int,∀l,l<s->∀i,i<m->p∣G l i-aq r (λk=>C l k*A k i):=by refine⟨λl=>if h:l<s then Classical.choose (hsp l h) else λ_=>0,λl hl i hi=>?_⟩;simp only[dif_pos hl];exact Classical.choose_spec (hsp l hl) i hi
 obtain⟨C,hC⟩:=hC;obtain⟨x,⟨k,hk,hxk⟩,hsol⟩:=Dg p hpr h1 r s hrs (λk l=>C l k)
 -- the sum is nothing
 have hsum:∀i,i<m->p∣aq s (λl=>x l*G l i):=by
  intro i hi;have hA:p∣aq s (λl=>x l*G l i)-aq s (λl=>x l*aq r (λk=>C l k*A k i)):=by rw[<-xe];refine pJ (λl hl=>?_);have:=hC l hl i hi;rw[<-Int.mul_sub];exact Int.dvd_trans this ⟨x l,by rw[Int.mul_comm]⟩
  have hB:p∣aq s (λl=>x l*aq r (λk=>C l k*A k i)):=by
   have e:aq s (λl=>x l*aq r (λk=>C l k*A k i))=aq r (λk=>aq s (λl=>C l k*x l)*A k i):=by
    have e1:aq s (λl=>x l*aq r (λk=>C l k*A k i))=aq s (λl=>aq r (λk=>C l k*x l*A k i)):=
     gE (λl _=>by rw[<-oa];exact gE (λk _=>by grind))
    rw[e1,Df];exact gE (λk _=>by rw[<-Dd])
   rw[e];exact pJ (λk hk=>Int.dvd_trans (hsol k hk) ⟨A k i,rfl⟩)
  have:=Int.dvd_add hA hB;rwa [Int.sub_add_cancel] at this
 have hall:∀l,l<s->p∣x l:=by
  intro l;induction l using Nat.strongRecOn with
  |_ l ih=>
   intro hl;have h2:=hsum (d l) (hd l hl);obtain⟨s',rfl⟩:∃s',s=s'+1:=⟨s-1,by omega⟩;rw[pK s' l (by omega)] at h2;have h3:p∣aq s' (λk=>x (sk l k)*G (sk l k) (d l)):=by
    refine pJ (λk hk=>?_);by_cases hkl:k<l
    .have e:sk l k=k:=by unfold sk;rw[LI hkl]
     rw[e];exact Int.dvd_trans (ih k hkl (by omega)) ⟨_,rfl⟩
    .have e:sk l k=k+1:=by unfold sk;rw[LH hkl]
     rw[e];exact Int.dvd_trans (hzero l (k+1) (by omega) (by omega)) ⟨x (k+1),by rw[Int.mul_comm]⟩
   have h4:p∣x l*G l (d l):=by have:=Int.dvd_sub h2 h3;rwa [show aq s' (λk=>x (sk l k)*G (sk l k) (d l))+x l*G l (d l)-aq s' (λk=>x (sk l k)*G (sk l k) (d l))=x l*G l (d l) by omega] at this
   have h5:p∣x l*(G l (d l)-1):=Int.dvd_trans (hone l hl) ⟨x l,by rw[Int.mul_comm]⟩;have:=Int.dvd_sub h4 h5;rwa [show x l*G l (d l)-x l*(G l (d l)-1)=x l by grind] at this
 exact hxk (hall k hk)
theorem sA(p x:Int):p∣x%p-x:=⟨-(x/p),by rw[Int.emod_def];grind⟩
def Vf(fs:List (Nat×List Int))(k j:Nat):Int:=(fs.getD k (0,[])).2.getD j 0
def Uf(rows:List (List Int))(k j:Nat):Int:=(rows.getD k []).getD j 0
def lB:List (Nat×List Int)->Prop
 |[]=>True
 |f::fs=>f.2.getD f.1 0=1/\(∀g∈fs,g.2.getD f.1 0=0)/\lB fs
theorem xf:∀(fs:List (Nat×List Int)) (g:Nat×List Int),lB fs->(∀f∈fs,g.2.getD f.1 0=0)->g.2.getD g.1 0=1->lB (fs++[g])
 |[],g,_,_,h=>⟨h,by simp,trivial⟩
 |f::fs,g,⟨h1,h2,h3⟩,h4,h5=>⟨h1,λx hx0=>by
   have hx:x∈fs++[g]:=hx0;rw[Lv,Lw] at hx;rcases hx with hx|rfl
   .exact h2 x hx
   .exact h4 f (by simp),xf fs g h3 (λy hy=>h4 y (by simp[hy])) h5⟩
theorem xg:∀(fs:List (Nat×List Int)) (l:Nat),lB fs->l<fs.length->Vf fs l (fs.getD l (0,[])).1=1
 |[],l,_,h=>by simp at h
 |f::fs,0,⟨h1,_,_⟩,_=>by simpa [Vf] using h1
 |f::fs,l+1,⟨_,_,h3⟩,h=>by have:=xg fs l h3 (by simpa using h);simpa [Vf] using this
theorem xh:∀(fs:List (Nat×List Int)) (l l':Nat),lB fs->l<l'->l'<fs.length->Vf fs l' (fs.getD l (0,[])).1=0
 |[],l,l',_,_,h=>by simp at h
 |f::fs,l,0,_,h,_=>by omega
 |f::fs,0,l'+1,⟨_,h2,_⟩,_,h=>by
  have hl:l'<fs.length:=by simpa using h
  have:=h2 fs[l'] (Lo hl);simpa [Vf,Lr,hl] using this
 |f::fs,l+1,l'+1,⟨_,_,h3⟩,h,h'=>by have:=xh fs l l' h3 (by omega) (by simpa using h');simpa [Vf] using this
theorem pL{p:Int}{n:Nat}{xs:List Int}{f:Nat×List Int}(hx:cU p n xs)(hf:cU p n f.2)(j:Nat)(hj:j<n):(fU p xs f).getD j 0=if xs.getD f.1 0=0 then xs.getD j 0 else (xs.getD j 0+(p-xs.getD f.1 0)*f.2.getD j 0)%p:=by
 unfold fU;split
 .rfl
 .rw[sB _ _ _ (by rw[hx.1,hf.1]) j (by rw[hx.1];exact hj)];rfl
theorem Dh{p:Int}{n:Nat}{xs:List Int}{f:Nat×List Int}(hx:cU p n xs)(hf:cU p n f.2):∃t:Int,∀j,j<n->p∣(fU p xs f).getD j 0-(xs.getD j 0+t*f.2.getD j 0):=by
 by_cases h:xs.getD f.1 0=0
 .refine⟨0,λj hj=>?_⟩;rw[pL hx hf j hj,LI h];exact⟨0,by simp⟩
 .refine⟨p-xs.getD f.1 0,λj hj=>?_⟩;rw[pL hx hf j hj,LH h];exact sA _ _
theorem Di(n:Nat)(f:Nat->Int):aq (n+1) f=f 0+aq n (λk=>f (k+1)):=by rw[pK n 0 (by omega)];have:aq n (λk=>f (sk 0 k))=aq n (λk=>f (k+1)):=gE (λk _=>by simp[sk]);rw[this];omega
theorem xi{p:Int}{n:Nat}(hp:2<=p):∀(fs:List (Nat×List Int)) (xs:List Int),cU p n xs->(∀f∈fs,cU p n f.2)->∃t:Nat->Int,∀j,j<n->p∣(dJ p xs fs).getD j 0-(xs.getD j 0+aq fs.length (λl=>t l*Vf fs l j))
 |[],xs,_,_=>⟨λ_=>0,λj _=>by simp[dJ,aq]⟩
 |f::fs,xs,hx,hf=>by
  have hff:=hf f (by simp);obtain⟨t,ht⟩:=xi hp fs (fU p xs f) (pG hp hx hff) (λg hg=>hf g (by simp[hg]));obtain⟨t0,ht0⟩:=Dh hx hff;refine⟨λl=>if l=0 then t0 else t (l-1),λj hj=>?_⟩;have e:aq (f::fs).length (λl=>(if l=0 then t0 else t (l-1))*Vf (f::fs) l j)=t0*f.2.getD j 0+aq fs.length (λl=>t l*Vf fs l j):=by
   rw[LN,Di];have e2:aq fs.length (λk=>(if k+1=0 then t0 else t (k+1-1))*Vf (f::fs) (k+1) j)=aq fs.length (λl=>t l*Vf fs l j):=
    gE (λk _=>by simp[Vf])
   rw[e2];simp[Vf]
  rw[e];have h1:=Int.dvd_add (ht j hj) (ht0 j hj);have e3:(dJ p xs (f::fs)).getD j 0=(dJ p (fU p xs f) fs).getD j 0:=rfl;rw[e3];have e4:((dJ p (fU p xs f) fs).getD j 0-((fU p xs f).getD j 0+aq fs.length (λl=>t l*Vf fs l j)))+((fU p xs f).getD j 0-(xs.getD j 0+t0*f.2.getD j 0))
    =(dJ p (fU p xs f) fs).getD j 0-(xs.getD j 0+(t0*f.2.getD j 0+aq fs.length (λl=>t l*Vf fs l j))):=by omega
  rw[e4] at h1;exact h1
theorem xj{p:Int}{n:Nat}(hp:2<=p)(c:Nat)(hc:c<n):∀(fs:List (Nat×List Int)) (xs:List Int),cU p n xs->(∀f∈fs,cU p n f.2)->xs.getD c 0=0->(∀g∈fs,g.2.getD c 0=0)->(dJ p xs fs).getD c 0=0
 |[],xs,_,_,h,_=>h
 |f::fs,xs,hx,hf,h,hg=>by have hff:=hf f (by simp);refine xj hp c hc fs (fU p xs f) (pG hp hx hff) (λg hg=>hf g (by simp[hg])) ?_ (λg h=>hg g (by simp[h]));rw[pL hx hff c hc,h,hg f (by simp)];split<;>simp
theorem xk{p:Int}{n:Nat}(hp:2<=p):∀(fs:List (Nat×List Int)) (xs:List Int),cU p n xs->(∀f∈fs,pH p n f)->lB fs->∀f∈fs,(dJ p xs fs).getD f.1 0=0
 |[],_,_,_,_,f,hf=>by simp at hf
 |g::fs,xs,hx,hok,⟨h1,h2,h3⟩,f,hf=>by
  have hgg:=hok g (by simp);have hcl:=pG hp hx hgg.2;simp only[LL] at hf;rcases hf with rfl|hf
  .refine xj hp f.1 hgg.1 fs (fU p xs f) hcl (λx h=>(hok x (by simp[h])).2) ?_ h2;rw[pL hx hgg.2 f.1 hgg.1,h1];split
   .assumption
   .have e:xs.getD f.1 0+(p-xs.getD f.1 0)*1=p:=by omega
    rw[e];simp
  .exact xk hp fs (fU p xs g) hcl (λx h=>hok x (by simp[h])) h3 f hf
structure fF(p:Int)(n:Nat)(done:List (List Int))(fs:List (Nat×List Int)):Prop where
 piv:∀f∈fs,pH p n f
 stair:lB fs
 made:∀f∈fs,Sp p n done.length (Uf done) (λj=>f.2.getD j 0)
 makes:∀r∈done,Sp p n fs.length (Vf fs) (λj=>r.getD j 0)
theorem Dj{xs:List Int}(h:nz xs=xs.length)(j:Nat)(hj:j<xs.length):xs.getD j 0=0:=wY xs j (by omega)
theorem Dk{p n:Nat}{done:List (List Int)}{fs:List (Nat×List Int)}{row:List Int}(hp:2<=p)(hp2:p<=101)(hpr:dH p p=true)(hr:cU p n row)(h:fF p n done fs):fF p n (done++[row]) (lw p fs row):=by
 have hpi:(2:Int)<=(p:Int):=by omega
 have hrx:=su (p:=p) (n:=n) hpi fs row hr (λf hf=>(h.piv f hf).2);obtain⟨t,ht⟩:=xi (p:=p) (n:=n) hpi fs row hr (λf hf=>(h.piv f hf).2);have hz:=xk (p:=p) (n:=n) hpi fs row hr h.piv h.stair;have hnl:=sr (dJ p row fs)
 -- more rows
 have upU:∀k,k<done.length->Sp p n (done++[row]).length (Uf (done++[row])) (Uf done k):=by
  intro k hk;have e:Uf done k=Uf (done++[row]) k:=by funext j;simp[Uf,Lr,List.getElem?_append,hk]
  rw[e];exact Sp.one (by simp;omega)
 have rowU:Sp p n (done++[row]).length (Uf (done++[row])) (λj=>row.getD j 0):=by
  have e:(λj=>row.getD j 0)=Uf (done++[row]) done.length:=by funext j;simp[Uf]
  rw[e];exact Sp.one (by simp)
 have hmade:∀f∈fs,Sp p n (done++[row]).length (Uf (done++[row])) (λj=>f.2.getD j 0):=λf hf=>(h.made f hf).more upU;have hV:∀k,k<fs.length->Sp p n (done++[row]).length (Uf (done++[row])) (Vf fs k):=by
  intro k hk;have e:Vf fs k=λj=>fs[k].2.getD j 0:=by funext j;simp[Vf,Lr,hk]
  rw[e];exact hmade _ (Lo hk)
 have hsok:=Db (p:=p) (n:=n) hpi h.piv hr;unfold lw at hsok⊢;by_cases hc:nz (dJ p row fs)=(dJ p row fs).length
 .rw[LI hc] at hsok⊢;refine⟨h.piv,h.stair,hmade,λr hrm=>?_⟩;rw[Lv,Lw] at hrm;rcases hrm with hrm|rfl
  .exact h.makes r hrm
  .refine(Sp.sum fs.length (λl=>-t l) (Vf fs) (λk hk=>Sp.one hk)).congr (λj hj=>?_);have h1:=ht j hj;rw[Dj hc j (by rw[hrx.1];exact hj)] at h1;have e:aq fs.length (λl=>-t l*Vf fs l j)=-aq fs.length (λl=>t l*Vf fs l j):=by have e2:aq fs.length (λl=>-t l*Vf fs l j)=aq fs.length (λl=>(-1)*(t l*Vf fs l j)):=gE (λl _=>by grind);rw[e2,oa];omega
   rw[e];obtain⟨u,hu⟩:=h1;exact⟨-u,by rw[Int.mul_neg,<-hu];omega⟩
 .rw[LH hc] at hsok⊢;have hcn:nz (dJ p row fs)<(dJ p row fs).length:=by omega
  have hx0:=wX _ hcn;have hxm:=hrx.2 _ (ix _ _ hcn);generalize dJ p row fs=r at*;generalize nz r=c at*;obtain⟨an,han⟩:∃an:Nat,r.getD c 0=an:=⟨(r.getD c 0).toNat,by omega⟩;rw[han] at hsok⊢hx0 hxm;have hok:=C6 (wT (p:=p) (a:=an) hp hp2 hpr (by omega) (by omega));have hinv:aN (p:Int) (an:Int)=(eO p an:Int):=rfl;rw[hinv] at hsok⊢;have hone:(p:Int)∣(an:Int)*(eO p an:Int)-1:=by
   have h1:=hok.2.2.1;rw[Nat.mod_eq_of_lt (show 1<p by omega)] at h1;refine⟨((an*eO p an/p:Nat):Int),?_⟩;have h2:=Nat.div_add_mod (an*eO p an) p;rw[h1] at h2;have h3:((an*eO p an:Nat):Int)=(p:Int)*((an*eO p an/p:Nat):Int)+1:=by rw[<-Int.natCast_mul,<-Int.natCast_one,<-Int.natCast_add,h2]
   rw[Int.natCast_mul] at h3;omega
  generalize eO p an=s at*;have hgj:∀j,j<n->(dI p s r).getD j 0=r.getD j 0*s%p:=λj hj=>by simp[dI,Lr,show j<r.length by rw[hrx.1];exact hj]
  have hcn':c<n:=by rw[<-hrx.1];exact hcn
  refine⟨hsok,?_,λf hf=>?_,λr' hrm=>?_⟩
  .refine xf fs _ h.stair (λf hf=>?_) ?_
   .show (dI p s r).getD f.1 0=0;rw[hgj f.1 (h.piv f hf).1,hz f hf];simp
   .show (dI p s r).getD c 0=1;rw[hgj c hcn',han];obtain⟨u,hu⟩:=hone;have e:(an:Int)*(s:Int)=1+(p:Int)*u:=by omega
    rw[e,Int.add_mul_emod_self_left];exact Int.emod_eq_of_lt (by omega) (by omega)
  .rw[Lv,Lw] at hf;rcases hf with hf|rfl
   .exact hmade f hf
   .refine((rowU.add (Sp.sum fs.length t (Vf fs) hV)).smul (s:Int)).congr (λj hj=>?_);show (p:Int)∣(dI p s r).getD j 0-(s:Int)*(row.getD j 0+aq fs.length (λk=>t k*Vf fs k j));rw[hgj j hj];have h1:=sA (p:Int) (r.getD j 0*s);have h2:(p:Int)∣(s:Int)*(r.getD j 0-(row.getD j 0+aq fs.length (λk=>t k*Vf fs k j))):=Int.dvd_trans (ht j hj) ⟨s,by rw[Int.mul_comm]⟩;have h3:=Int.dvd_add h1 h2;have e:r.getD j 0*(s:Int)%(p:Int)-r.getD j 0*(s:Int)+(s:Int)*(r.getD j 0-(row.getD j 0+aq fs.length (λk=>t k*Vf fs k j)))=r.getD j 0*(s:Int)%(p:Int)-(s:Int)*(row.getD j 0+aq fs.length (λk=>t k*Vf fs k j)):=by grind
    rw[e] at h3;exact h3
  ·-- the rows
   have upV:∀k,k<fs.length->Sp p n (fs++[(c,dI p s r)]).length (Vf (fs++[(c,dI p s r)])) (Vf fs k):=by
    intro k hk;have e:Vf fs k=Vf (fs++[(c,dI p s r)]) k:=by funext j;simp[Vf,Lr,List.getElem?_append,hk]
    rw[e];exact Sp.one (by simp;omega)
   rw[Lv,Lw] at hrm;rcases hrm with hrm|rfl
   .exact(h.makes r' hrm).more upV
   .have gV:Sp p n (fs++[(c,dI p s r)]).length (Vf (fs++[(c,dI p s r)])) (λj=>(dI p s r).getD j 0):=by
     have e:(λj=>(dI p s r).getD j 0)=Vf (fs++[(c,dI p s r)]) fs.length:=by funext j;simp[Vf]
     rw[e];exact Sp.one (by simp)
    refine((gV.smul (an:Int)).add (Sp.sum fs.length (λl=>-t l) (Vf fs) upV)).congr (λj hj=>?_);show (p:Int)∣r'.getD j 0-((an:Int)*(dI p s r).getD j 0+aq fs.length (λl=>-t l*Vf fs l j));rw[hgj j hj];have e0:aq fs.length (λl=>-t l*Vf fs l j)=-aq fs.length (λl=>t l*Vf fs l j):=by have e2:aq fs.length (λl=>-t l*Vf fs l j)=aq fs.length (λl=>(-1)*(t l*Vf fs l j)):=gE (λl _=>by grind);rw[e2,oa];omega
    rw[e0];obtain⟨u1,h1⟩:=ht j hj;obtain⟨u2,h2⟩:=sA (p:Int) (r.getD j 0*s);obtain⟨u3,h3⟩:=hone;refine⟨-u1-(an:Int)*u2-u3*r.getD j 0,?_⟩;grind
theorem xl{p n:Nat}(hp:2<=p)(hp2:p<=101)(hpr:dH p p=true):∀(rest done:List (List Int)) (fs:List (Nat×List Int)),(∀r∈rest,cU p n r)->fF p n done fs->fF p n (done++rest) (rest.foldl (lw p) fs)
 |[],done,fs,_,h=>by simpa using h
 |row::rest,done,fs,hr,h=>by have h1:=xl hp hp2 hpr rest (done++[row]) (lw p fs row) (λr hm=>hr r (by simp[hm])) (Dk hp hp2 hpr (hr row (by simp)) h);simpa using h1
theorem Dl{p n:Nat}{rows:List (List Int)}(hp:2<=p)(hp2:p<=101)(hpr:dH p p=true)(hr:∀r∈rows,cU p n r):fF p n rows (lA p rows):=by have h:=xl (p:=p) (n:=n) hp hp2 hpr rows [] [] hr ⟨by simp,trivial,by simp,by simp⟩;simpa [lA] using h
end Go.Proofs.YteimdcndjjclnaaGreat
