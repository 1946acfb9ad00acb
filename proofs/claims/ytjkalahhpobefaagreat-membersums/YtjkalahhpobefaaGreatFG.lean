/- Clearing a column. -/
import Derived.Test.YtjkalahhpobefaaGreatH
import Derived.Deep.AppendLies
namespace Go.Proofs.YtjkalahhpobefaaGreat
set_option linter.all false
open Go.Proofs.Tryz Go.RowKit
theorem zX(w:PJ)(r:Option Nat):w.grownBy w r:=⟨rfl,rfl,rfl,Ou _,λ_ _ _=>rfl⟩
variable{r:Option Nat}
theorem cW{a b c:PJ}(h:a.grownBy b r)(k:b.grownBy c r):a.grownBy c r:=
 ⟨k.os.trans h.os,k.tape.trans h.tape,k.output.trans h.output,OA h.size k.size,λi hi hn=>(k.block i (Oz hi h.size) hn).trans (h.block i hi hn)⟩
variable{g B:Nat}{w w':PJ}
theorem cQ(h:w.grownBy w' (some g))(hB:B<=g)(hw:B<=w.heap.size):Below B w w':=
 ⟨h.os,h.tape,h.output,h.size,λk hk=>h.block k (by omega) (λe=>by simp at e;omega)⟩
theorem zY(h:Io w w'):w.grownBy w' r:=
 ⟨h.os,h.tape,h.output,h.size,λk hk _=>h.block k hk⟩
variable{v:PK}
theorem zZ{xs:PI}(h:w.grownBy w' (some g))(hs:Sl w v xs)(hne:∀b off n c,v=.slice (some (PN b off)) n c->b≠g):Sl w' v xs:=by obtain⟨a,cap,rfl,h1⟩:=hs;refine⟨a,cap,rfl,λhp=>?_⟩;obtain⟨b,off,rfl,hlt,hc⟩:=h1 hp;refine⟨b,off,rfl,Oz hlt h.size,λi hi=>?_⟩;exact h.cell (hc i hi) (λe=>hne b off _ _ rfl (by injection e))
def mS(p s:Int)(xs:PI):PI:=xs.map λx=>x*s%p
abbrev pj:=(Nat×PI)×PK
variable{xs:PH}{n s:Nat}
theorem aF{T:TypeId}(h:w.ownsRow B T s v n xs)(hb:Io w w'):w'.ownsRow B T s v n xs:=by
 cases ho:v.ownBlock with
 |none=>exact h.kept (zY (r:=none) hb) (Pf ho)
 |some k=>exact h.kept (zY (r:=none) hb) (Pg (by rw[ho];simp))
variable{B':Nat}
theorem Ga{T:TypeId}(h:w.ownsRow B T s v n xs)(hb:B'<=B):w.ownsRow B' T s v n xs:=by
 refine⟨h.1,?_⟩;rcases h.2 with h1|⟨g,c,ag,h1,h2,h3⟩
 .exact .inl h1
 .exact .inr ⟨g,c,ag,h1,OA hb h2,h3⟩
theorem uI(w:PJ)(a b:PK)(T:TypeId):∀j u,[a,b][j]?=some u->(w.alloc (.cells #[a,b] T)).cell? (((PN w.heap.size 0):Addr).add j)=some u:=by
 intro j u hj;rcases j with _|_|j
 .simp at hj;subst hj;simp[Addr.add]
 .simp at hj;subst hj;simp[Addr.add]
 .simp at hj
variable{P:Program}
theorem Aa(w:PJ)(base:Nat)(t ty e:TypeId)(i:TypeInfo)(size:Nat)(ht:P.underlying t=some (.slice e))(hi:P.info? e=some i)(v:PK)(n c:Nat)(xs:PH)(hown:w.ownsRow base e size v n xs):(Builtin.append_ #[t,t] ty #[v,.slice none 0 c]).run P w=.ok v w:=by
 rcases hown.2 with ⟨rfl,rfl⟩|⟨g,cap,ag,rfl,_,_,hnc,_⟩
 .simp[Builtin.append_,run_underlying ht,sizeOf,typeInfo,hi,Builtin.lenOf,Builtin.firstCells]
 .simp[Builtin.append_,run_underlying ht,sizeOf,typeInfo,hi,Builtin.lenOf,Builtin.firstCells,hnc,storeCells]
theorem Ab{ops:Array Oper}{rest:List Oper}{o:Oper}{a:Act}{Q:Exit->Act->PJ->Prop}(hgd:o.guard=none)(s x:Operand)(t:TypeId)(ho:o.op=.call {callee:=.builtin .append,args:=#[s,x],argTypes:=#[t,t]})(base:Nat)(e:TypeId)(i:TypeInfo)(size:Nat)(ht:P.underlying t=some (.slice e))(hi:P.info? e=some i)(v:PK)(n c:Nat)(xs:PH)(hs:a.eval s=v)(hown:w.ownsRow base e size v n xs)(hx:a.eval x=.slice none 0 c)(h:wpList P ops Q rest (a.put o.dst v) w):wpList P ops Q (o::rest) a w:=by refine wpList_plain hgd λK hK=>?_;have hrun:=Aa (P:=P) w base t o.type e i size ht hi v n c xs hown;unfold Oper.wp;simp[execOp,ho,resolve,invoke,builtin,hs,hx,hrun,Result.andThen];exact hK _ _ h
variable{u:PK}
theorem i5{T T':TypeId}{s':Nat}{m:Nat}{ys:PH}(hT:T≠T')(h:w.ownsRow B T s u n xs)(k:w.ownsRow B' T' s' v m ys):u.ownBlock=none\/u.ownBlock≠v.ownBlock:=by
 rcases h.2 with ⟨rfl,_⟩|⟨g,c,ag,rfl,_,hg,_⟩
 .left;rfl
 .right;rcases k.2 with ⟨rfl,_⟩|⟨g',c',cur',rfl,_,hg',_⟩
  .simp[Value.ownBlock]
  .simp only[Value.ownBlock,ne_eq,OP];intro e;subst e;rw[hg] at hg';simp at hg';exact hT hg'.2
def uJ(qs:List pj):PH:=qs.map Prod.snd
def uK(qs:List pj):PH:=qs.map λq=>PO q.1.1
structure ns(B:Nat)(w:PJ)(kv av:PK)(qs:List pj):Prop where
 own:w.ownsRow B 45 1 kv qs.length (uJ qs)
 cols:w.ownsRow B 3 1 av qs.length (uK qs)
 rows:∀q∈qs,kY w B q.2 q.1.2
 apart:∀q∈qs,q.2.ownBlock=none\/q.2.ownBlock≠av.ownBlock
variable{qs:List pj}{kv av:PK}
theorem ns.below(h:ns B w kv av qs)(hb:Io w w'):ns B w' kv av qs:=
 ⟨aF h.own hb,aF h.cols hb,λq hq=>aF (h.rows q hq) hb,h.apart⟩
theorem cl{T:TypeId}(h:w.ownsRow B T s v n xs):∃a c,v=.slice a n c:=by
 rcases h.2 with ⟨h1,h2⟩|⟨g,c,ag,h1,_⟩
 .exact⟨none,0,by rw[h1,h2]⟩
 .exact⟨_,c,h1⟩
variable{c:Nat}
theorem rd{T:TypeId}{a:Option Addr}(h:w.ownsRow B T 1 (.slice a n c) n xs)(k:Nat)(hk:k<n):∃g,a=some (PN g 0)/\B<=g/\g<w.heap.size/\w.cell? (PN g k)=xs[k]?:=by
 rcases h.2 with ⟨h1,h2⟩|⟨g,c',ag,h1,hB,hg,_⟩
 .omega
 .simp only[OQ] at h1;obtain⟨rfl,_,_⟩:=h1;have hlt:=Ot h g rfl;exact⟨g,rfl,hlt.1,hlt.2,h.cellAt k (by omega)⟩
theorem ns.snoc{W W2 W4:PJ}{kv2:PK}{r:PI}{O1 O2:Obj}{ga ca:Nat}(h:ns B W kv av qs)(hu:kY W B u r)(hua:u.ownBlock=none\/u.ownBlock≠av.ownBlock)(h2:W2.ownsRow B 45 1 kv2 (qs.length+1) (uJ qs++[u]))(g2:(W.alloc O1).grownBy W2 kv.ownBlock)(h4:W4.ownsRow B 3 1 (PM ga (qs.length+1) ca) (qs.length+1) (uK qs++[PO c]))(g4:(W2.alloc O2).grownBy W4 av.ownBlock)(hat:av.ownBlock=some ga\/ga=(W2.alloc O2).heap.size):ns B W4 kv2 (PM ga (qs.length+1) ca) (qs++[((c,r),u)]):=by
 have hTne:(3:TypeId)≠45:=by decide
 have k1:=h.below (ai (A:=O1));have u1:=aF hu (ai (A:=O1));have r2:∀q∈qs,kY W2 B q.2 q.1.2:=λq hq=>(k1.rows q hq).kept g2 (i5 hTne (k1.rows q hq) k1.own);have c2:=k1.cols.kept g2 (i5 hTne k1.cols k1.own);have u2:=u1.kept g2 (i5 hTne u1 k1.own);have r3:∀q∈qs,kY (W2.alloc O2) B q.2 q.1.2:=λq hq=>aF (r2 q hq) ai;have c3:=aF c2 (ai (A:=O2));have u3:=aF u2 (ai (A:=O2));have k3:=aF h2 (ai (A:=O2));have k4:=k3.kept g4 (i5 (Ne.symm hTne) k3 c3);have new:∀{x:PK}{ys:PI},kY (W2.alloc O2) B x ys->(x.ownBlock=none\/x.ownBlock≠av.ownBlock)->(x.ownBlock=none\/x.ownBlock≠Value.ownBlock (PM ga (qs.length+1) ca)):=by
  intro x ys hx hxa;rcases hxa with hxa|hxa
  .exact Pf hxa
  .rcases hat with hat|hat
   .rw[hat] at hxa;exact Pg hxa
   .cases hb:x.ownBlock with
    |none=>exact Pf rfl
    |some kx=>have:=(Ot hx kx hb).2;right;simp only[Value.ownBlock,ne_eq,OP];omega
 refine⟨?_,?_,λq hq=>?_,λq hq=>?_⟩
 .rw[uJ,O0,OM];exact k4
 .rw[uK,O0,OM];exact h4
 .rw[OK,OL] at hq;rcases hq with hq|rfl
  .exact(r3 q hq).kept g4 (h.apart q hq)
  .exact u3.kept g4 hua
 .rw[OK,OL] at hq;rcases hq with hq|rfl
  .exact new (r3 q hq) (h.apart q hq)
  .exact new u3 hua
end Go.Proofs.YtjkalahhpobefaaGreat
