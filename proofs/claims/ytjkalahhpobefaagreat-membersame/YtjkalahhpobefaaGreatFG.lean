/- Clearing a column. -/
import Derived.Test.YtjkalahhpobefaaGreatH
import Derived.Deep.AppendLies
namespace Go.Proofs.YtjkalahhpobefaaGreat
set_option linter.all false
open Go.Proofs.Tryz Go.RowKit
theorem zL(w:OQ)(r:Option Nat):w.grownBy w r:=⟨rfl,rfl,rfl,NL _,λ_ _ _=>rfl⟩
variable{r:Option Nat}
theorem cZ{a b c:OQ}(h:a.grownBy b r)(k:b.grownBy c r):a.grownBy c r:=
 ⟨k.os.trans h.os,k.tape.trans h.tape,k.output.trans h.output,NR h.size k.size,λi hi hn=>(k.block i (NQ hi h.size) hn).trans (h.block i hi hn)⟩
variable{g B:Nat}{w w':OQ}
theorem cV(h:w.grownBy w' (some g))(hB:B<=g)(hw:B<=w.heap.size):Below B w w':=
 ⟨h.os,h.tape,h.output,h.size,λk hk=>h.block k (by omega) (λe=>by simp at e;omega)⟩
theorem zM(h:LT w w'):w.grownBy w' r:=
 ⟨h.os,h.tape,h.output,h.size,λk hk _=>h.block k hk⟩
variable{v:OR}
theorem zN{xs:OP}(h:w.grownBy w' (some g))(hs:Sl w v xs)(hne:∀b off n c,v=.slice (some (OV b off)) n c->b≠g):Sl w' v xs:=by obtain⟨a,cap,rfl,h1⟩:=hs;refine⟨a,cap,rfl,λhp=>?_⟩;obtain⟨b,off,rfl,hlt,hc⟩:=h1 hp;refine⟨b,off,rfl,NQ hlt h.size,λi hi=>?_⟩;exact h.cell (hc i hi) (λe=>hne b off _ _ rfl (by injection e))
def mN(p s:Int)(xs:OP):OP:=xs.map λx=>x*s%p
abbrev oZ:=(Nat×OP)×OR
variable{xs:OO}{n s:Nat}
theorem aF{T:TypeId}(h:w.ownsRow B T s v n xs)(hb:LT w w'):w'.ownsRow B T s v n xs:=by
 cases ho:v.ownBlock with
 |none=>exact h.kept (zM (r:=none) hb) (Ox ho)
 |some k=>exact h.kept (zM (r:=none) hb) (Oy (by rw[ho];simp))
variable{B':Nat}
theorem FI{T:TypeId}(h:w.ownsRow B T s v n xs)(hb:B'<=B):w.ownsRow B' T s v n xs:=by
 refine⟨h.1,?_⟩;rcases h.2 with h1|⟨g,c,ag,h1,h2,h3⟩
 .exact .inl h1
 .exact .inr ⟨g,c,ag,h1,NR hb h2,h3⟩
theorem uy(w:OQ)(a b:OR)(T:TypeId):∀j u,[a,b][j]?=some u->(w.alloc (.cells #[a,b] T)).cell? (((OV w.heap.size 0):Addr).add j)=some u:=by
 intro j u hj;rcases j with _|_|j
 .simp at hj;subst hj;simp[Addr.add]
 .simp at hj;subst hj;simp[Addr.add]
 .simp at hj
variable{P:Program}
theorem zO(w:OQ)(base:Nat)(t ty e:TypeId)(i:TypeInfo)(size:Nat)(ht:P.underlying t=some (.slice e))(hi:P.info? e=some i)(v:OR)(n c:Nat)(xs:OO)(hown:w.ownsRow base e size v n xs):(Builtin.append_ #[t,t] ty #[v,.slice none 0 c]).run P w=.ok v w:=by
 rcases hown.2 with ⟨rfl,rfl⟩|⟨g,cap,ag,rfl,_,_,hnc,_⟩
 .simp[Builtin.append_,run_underlying ht,sizeOf,typeInfo,hi,Builtin.lenOf,Builtin.firstCells]
 .simp[Builtin.append_,run_underlying ht,sizeOf,typeInfo,hi,Builtin.lenOf,Builtin.firstCells,hnc,storeCells]
theorem zP{ops:Array Oper}{rest:List Oper}{o:Oper}{a:Act}{Q:Exit->Act->OQ->Prop}(hgd:o.guard=none)(s x:Operand)(t:TypeId)(ho:o.op=.call {callee:=.builtin .append,args:=#[s,x],argTypes:=#[t,t]})(base:Nat)(e:TypeId)(i:TypeInfo)(size:Nat)(ht:P.underlying t=some (.slice e))(hi:P.info? e=some i)(v:OR)(n c:Nat)(xs:OO)(hs:a.eval s=v)(hown:w.ownsRow base e size v n xs)(hx:a.eval x=.slice none 0 c)(h:wpList P ops Q rest (a.put o.dst v) w):wpList P ops Q (o::rest) a w:=by refine wpList_plain hgd λK hK=>?_;have hrun:=zO (P:=P) w base t o.type e i size ht hi v n c xs hown;unfold Oper.wp;simp[execOp,ho,resolve,invoke,builtin,hs,hx,hrun,Result.andThen];exact hK _ _ h
variable{u:OR}
theorem iY{T T':TypeId}{s':Nat}{m:Nat}{ys:OO}(hT:T≠T')(h:w.ownsRow B T s u n xs)(k:w.ownsRow B' T' s' v m ys):u.ownBlock=none\/u.ownBlock≠v.ownBlock:=by
 rcases h.2 with ⟨rfl,_⟩|⟨g,c,ag,rfl,_,hg,_⟩
 .left;rfl
 .right;rcases k.2 with ⟨rfl,_⟩|⟨g',c',cur',rfl,_,hg',_⟩
  .simp[Value.ownBlock]
  .simp only[Value.ownBlock,ne_eq,N7];intro e;subst e;rw[hg] at hg';simp at hg';exact hT hg'.2
def uz(qs:List oZ):OO:=qs.map Prod.snd
def uA(qs:List oZ):OO:=qs.map λq=>OW q.1.1
structure ng(B:Nat)(w:OQ)(kv av:OR)(qs:List oZ):Prop where
 own:w.ownsRow B 45 1 kv qs.length (uz qs)
 cols:w.ownsRow B 3 1 av qs.length (uA qs)
 rows:∀q∈qs,kU w B q.2 q.1.2
 apart:∀q∈qs,q.2.ownBlock=none\/q.2.ownBlock≠av.ownBlock
variable{qs:List oZ}{kv av:OR}
theorem ng.below(h:ng B w kv av qs)(hb:LT w w'):ng B w' kv av qs:=
 ⟨aF h.own hb,aF h.cols hb,λq hq=>aF (h.rows q hq) hb,h.apart⟩
theorem ct{T:TypeId}(h:w.ownsRow B T s v n xs):∃a c,v=.slice a n c:=by
 rcases h.2 with ⟨h1,h2⟩|⟨g,c,ag,h1,_⟩
 .exact⟨none,0,by rw[h1,h2]⟩
 .exact⟨_,c,h1⟩
variable{c:Nat}
theorem qQ{T:TypeId}{a:Option Addr}(h:w.ownsRow B T 1 (.slice a n c) n xs)(k:Nat)(hk:k<n):∃g,a=some (OV g 0)/\B<=g/\g<w.heap.size/\w.cell? (OV g k)=xs[k]?:=by
 rcases h.2 with ⟨h1,h2⟩|⟨g,c',ag,h1,hB,hg,_⟩
 .omega
 .simp only[N8] at h1;obtain⟨rfl,_,_⟩:=h1;have hlt:=NK h g rfl;exact⟨g,rfl,hlt.1,hlt.2,h.cellAt k (by omega)⟩
theorem ng.snoc{W W2 W4:OQ}{kv2:OR}{r:OP}{O1 O2:Obj}{ga ca:Nat}(h:ng B W kv av qs)(hu:kU W B u r)(hua:u.ownBlock=none\/u.ownBlock≠av.ownBlock)(h2:W2.ownsRow B 45 1 kv2 (qs.length+1) (uz qs++[u]))(g2:(W.alloc O1).grownBy W2 kv.ownBlock)(h4:W4.ownsRow B 3 1 (OU ga (qs.length+1) ca) (qs.length+1) (uA qs++[OW c]))(g4:(W2.alloc O2).grownBy W4 av.ownBlock)(hat:av.ownBlock=some ga\/ga=(W2.alloc O2).heap.size):ng B W4 kv2 (OU ga (qs.length+1) ca) (qs++[((c,r),u)]):=by
 have hTne:(3:TypeId)≠45:=by decide
 have k1:=h.below (ai (A:=O1));have u1:=aF hu (ai (A:=O1));have r2:∀q∈qs,kU W2 B q.2 q.1.2:=λq hq=>(k1.rows q hq).kept g2 (iY hTne (k1.rows q hq) k1.own);have c2:=k1.cols.kept g2 (iY hTne k1.cols k1.own);have u2:=u1.kept g2 (iY hTne u1 k1.own);have r3:∀q∈qs,kU (W2.alloc O2) B q.2 q.1.2:=λq hq=>aF (r2 q hq) ai;have c3:=aF c2 (ai (A:=O2));have u3:=aF u2 (ai (A:=O2));have k3:=aF h2 (ai (A:=O2));have k4:=k3.kept g4 (iY (Ne.symm hTne) k3 c3);have new:∀{x:OR}{ys:OP},kU (W2.alloc O2) B x ys->(x.ownBlock=none\/x.ownBlock≠av.ownBlock)->(x.ownBlock=none\/x.ownBlock≠Value.ownBlock (OU ga (qs.length+1) ca)):=by
  intro x ys hx hxa;rcases hxa with hxa|hxa
  .exact Ox hxa
  .rcases hat with hat|hat
   .rw[hat] at hxa;exact Oy hxa
   .cases hb:x.ownBlock with
    |none=>exact Ox rfl
    |some kx=>have:=(NK hx kx hb).2;right;simp only[Value.ownBlock,ne_eq,N7];omega
 refine⟨?_,?_,λq hq=>?_,λq hq=>?_⟩
 .rw[uz,Oi,N3];exact k4
 .rw[uA,Oi,N3];exact h4
 .rw[N1,N2] at hq;rcases hq with hq|rfl
  .exact(r3 q hq).kept g4 (h.apart q hq)
  .exact u3.kept g4 hua
 .rw[N1,N2] at hq;rcases hq with hq|rfl
  .exact new (r3 q hq) (h.apart q hq)
  .exact new u3 hua
end Go.Proofs.YtjkalahhpobefaaGreat
