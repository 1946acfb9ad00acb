/- Clearing a column. -/
import Derived.Test.YtglijodcbdcngaaGreatFA
import Derived.Test.YtglijodcbdcngaaGreatH
import Derived.RegionTactic
import Derived.Deep.AppendLies
import Derived.BigRegion
namespace Go.Proofs.YtglijodcbdcngaaGreat
set_option linter.unusedSimpArgs false
set_option linter.unusedVariables false
open Go.Proofs.Tryz Go.RowKit
theorem nP(w:World)(r:Option Nat):w.grownBy w r:=⟨rfl,rfl,rfl,He _,λ_ _ _=>rfl⟩
theorem cj{a b c:World}{r:Option Nat}(h:a.grownBy b r)(k:b.grownBy c r):a.grownBy c r:=
 ⟨k.os.trans h.os,k.tape.trans h.tape,k.output.trans h.output,Hk h.size k.size,λi hi hn=>(k.block i (Hj hi h.size) hn).trans (h.block i hi hn)⟩
theorem ck{w w':World}{g B:Nat}(h:w.grownBy w' (some g))(hB:B<=g)(hw:B<=w.heap.size):Below B w w':=
 ⟨h.os,h.tape,h.output,h.size,λk hk=>h.block k (by omega) (λe=>by simp at e;omega)⟩
theorem tN{w w':World}{r:Option Nat}(h:Below w.heap.size w w'):w.grownBy w' r:=
 ⟨h.os,h.tape,h.output,h.size,λk hk _=>h.block k hk⟩
theorem tO{w w':World}{g:Nat}{v:Value}{xs:List Int}(h:w.grownBy w' (some g))(hs:Sl w v xs)(hne:∀b off n c,v=.slice (some ⟨b,off,none⟩) n c->b≠g):Sl w' v xs:=by obtain⟨a,cap,rfl,h1⟩:=hs;refine⟨a,cap,rfl,λhp=>?_⟩;obtain⟨b,off,rfl,hlt,hc⟩:=h1 hp;refine⟨b,off,rfl,Hj hlt h.size,λi hi=>?_⟩;exact h.cell (hc i hi) (λe=>hne b off _ _ rfl (by injection e))
def nz:List Int->Nat
 |[]=>0
 |x::xs=>if x=0 then nz xs+1 else 0
def mw(p s:Int)(xs:List Int):List Int:=xs.map λx=>x*s%p
abbrev mD:=(Nat×List Int)×Value
theorem aH{w:World}{B:Nat}{T:TypeId}{s:Nat}{v:Value}{n:Nat}{xs:List Value}(h:w.ownsRow B T s v n xs){w':World}(hb:Below w.heap.size w w'):w'.ownsRow B T s v n xs:=by
 cases ho:v.ownBlock with
 |none=>exact h.kept (tN (r:=none) hb) (Or.inl ho)
 |some k=>exact h.kept (tN (r:=none) hb) (Or.inr (by rw[ho];simp))
theorem tP{w:World}{B B':Nat}{T:TypeId}{s:Nat}{v:Value}{n:Nat}{xs:List Value}(h:w.ownsRow B T s v n xs)(hb:B'<=B):w.ownsRow B' T s v n xs:=by
 refine⟨h.1,?_⟩;rcases h.2 with h1|⟨g,c,ai,h1,h2,h3⟩
 ·exact .inl h1
 ·exact .inr ⟨g,c,ai,h1,Hk hb h2,h3⟩
theorem pX(w:World)(a b:Value)(T:TypeId):∀j u,[a,b][j]?=some u->(w.alloc (.cells #[a,b] T)).cell? ((⟨w.heap.size,0,none⟩:Addr).add j)=some u:=by
 intro j u hj;rcases j with _|_|j
 ·simp at hj;subst hj;simp[Addr.add]
 ·simp at hj;subst hj;simp[Addr.add]
 ·simp at hj
theorem nQ{P:Program}(w:World)(base:Nat)(t ty e:TypeId)(i:TypeInfo)(size:Nat)(ht:P.underlying t=some (.slice e))(hi:P.info? e=some i)(v:Value)(n c:Nat)(xs:List Value)(hown:w.ownsRow base e size v n xs):(Builtin.append_ #[t,t] ty #[v,.slice none 0 c]).run P w=.ok v w:=by
 rcases hown.2 with ⟨rfl,rfl⟩|⟨g,cap,ai,rfl,_,_,hnc,_⟩
 ·simp[Builtin.append_,run_underlying ht,sizeOf,typeInfo,hi,Builtin.lenOf,Builtin.firstCells]
 ·simp[Builtin.append_,run_underlying ht,sizeOf,typeInfo,hi,Builtin.lenOf,Builtin.firstCells,hnc,storeCells]
theorem tQ{P:Program}{w:World}{ops:Array Oper}{rest:List Oper}{o:Oper}{a:Act}{Q:Exit->Act->World->Prop}(hgd:o.guard=none)(s x:Operand)(t:TypeId)(ho:o.op=.call {callee:=.builtin .append,args:=#[s,x],argTypes:=#[t,t]})(base:Nat)(e:TypeId)(i:TypeInfo)(size:Nat)(ht:P.underlying t=some (.slice e))(hi:P.info? e=some i)(v:Value)(n c:Nat)(xs:List Value)(hs:a.eval s=v)(hown:w.ownsRow base e size v n xs)(hx:a.eval x=.slice none 0 c)(h:wpList P ops Q rest (a.put o.dst v) w):wpList P ops Q (o::rest) a w:=by refine wpList_plain hgd λK hK=>?_;have hrun:=nQ (P:=P) w base t o.type e i size ht hi v n c xs hown;unfold Oper.wp;simp[execOp,ho,resolve,invoke,builtin,hs,hx,hrun,Result.andThen];exact hK _ _ h
theorem iG{w:World}{B B':Nat}{T T':TypeId}{s s':Nat}{u v:Value}{n m:Nat}{xs ys:List Value}(hT:T≠T')(h:w.ownsRow B T s u n xs)(k:w.ownsRow B' T' s' v m ys):u.ownBlock=none\/u.ownBlock≠v.ownBlock:=by
 rcases h.2 with ⟨rfl,_⟩|⟨g,c,ai,rfl,_,hg,_⟩
 ·left;rfl
 ·right;rcases k.2 with ⟨rfl,_⟩|⟨g',c',cur',rfl,_,hg',_⟩
  ·simp[Value.ownBlock]
  ·simp only[Value.ownBlock,ne_eq,H6];intro e;subst e;rw[hg] at hg';simp at hg';exact hT hg'.2
def pY(qs:List mD):List Value:=qs.map Prod.snd
def pZ(qs:List mD):List Value:=qs.map λq=>.int .i64 q.1.1
structure k7(B:Nat)(w:World)(kv av:Value)(qs:List mD):Prop where
 own:w.ownsRow B 37 1 kv qs.length (pY qs)
 cols:w.ownsRow B 3 1 av qs.length (pZ qs)
 rows:∀q∈qs,jP w B q.2 q.1.2
 apart:∀q∈qs,q.2.ownBlock=none\/q.2.ownBlock≠av.ownBlock
theorem k7.below{B:Nat}{w w':World}{kv av:Value}{qs:List mD}(h:k7 B w kv av qs)(hb:Below w.heap.size w w'):k7 B w' kv av qs:=
 ⟨aH h.own hb,aH h.cols hb,λq hq=>aH (h.rows q hq) hb,h.apart⟩
theorem cq{w:World}{B:Nat}{T:TypeId}{s:Nat}{v:Value}{n:Nat}{xs:List Value}(h:w.ownsRow B T s v n xs):∃a c,v=.slice a n c:=by
 rcases h.2 with ⟨h1,h2⟩|⟨g,c,ai,h1,_⟩
 ·exact⟨none,0,by rw[h1,h2]⟩
 ·exact⟨_,c,h1⟩
theorem kz{w:World}{B:Nat}{T:TypeId}{a:Option Addr}{c n:Nat}{xs:List Value}(h:w.ownsRow B T 1 (.slice a n c) n xs)(k:Nat)(hk:k<n):∃g,a=some ⟨g,0,none⟩/\B<=g/\g<w.heap.size/\w.cell? ⟨g,k,none⟩=xs[k]?:=by
 rcases h.2 with ⟨h1,h2⟩|⟨g,c',ai,h1,hB,hg,_⟩
 ·omega
 ·simp only[H7] at h1;obtain⟨rfl,_,_⟩:=h1;have hlt:=Hd h g rfl;exact⟨g,rfl,hlt.1,hlt.2,h.cellAt k (by omega)⟩
theorem k7.snoc{B:Nat}{W W2 W4:World}{kv av kv2:Value}{qs:List mD}{c:Nat}{r:List Int}{u:Value}{O1 O2:Obj}{ga ca:Nat}(h:k7 B W kv av qs)(hu:jP W B u r)(hua:u.ownBlock=none\/u.ownBlock≠av.ownBlock)(h2:W2.ownsRow B 37 1 kv2 (qs.length+1) (pY qs++[u]))(g2:(W.alloc O1).grownBy W2 kv.ownBlock)(h4:W4.ownsRow B 3 1 (.slice (some ⟨ga,0,none⟩) (qs.length+1) ca) (qs.length+1) (pZ qs++[.int .i64 c]))(g4:(W2.alloc O2).grownBy W4 av.ownBlock)(hat:av.ownBlock=some ga\/ga=(W2.alloc O2).heap.size):k7 B W4 kv2 (.slice (some ⟨ga,0,none⟩) (qs.length+1) ca) (qs++[((c,r),u)]):=by
 have hTne:(3:TypeId)≠37:=by decide
 have k1:=h.below (af (A:=O1));have u1:=aH hu (af (A:=O1));have r2:∀q∈qs,jP W2 B q.2 q.1.2:=λq hq=>(k1.rows q hq).kept g2 (iG hTne (k1.rows q hq) k1.own);have c2:=k1.cols.kept g2 (iG hTne k1.cols k1.own);have u2:=u1.kept g2 (iG hTne u1 k1.own);have r3:∀q∈qs,jP (W2.alloc O2) B q.2 q.1.2:=λq hq=>aH (r2 q hq) af;have c3:=aH c2 (af (A:=O2));have u3:=aH u2 (af (A:=O2));have k3:=aH h2 (af (A:=O2));have k4:=k3.kept g4 (iG (Ne.symm hTne) k3 c3);have new:∀{x:Value}{ys:List Int},jP (W2.alloc O2) B x ys->(x.ownBlock=none\/x.ownBlock≠av.ownBlock)->(x.ownBlock=none\/x.ownBlock≠Value.ownBlock (.slice (some ⟨ga,0,none⟩) (qs.length+1) ca)):=by
  intro x ys hx hxa;rcases hxa with hxa|hxa
  ·exact Or.inl hxa
  ·rcases hat with hat|hat
   ·rw[hat] at hxa;exact Or.inr hxa
   ·cases hb:x.ownBlock with
    |none=>exact Or.inl rfl
    |some kx=>have:=(Hd hx kx hb).2;right;simp only[Value.ownBlock,ne_eq,H6];omega
 refine⟨?_,?_,λq hq=>?_,λq hq=>?_⟩
 ·rw[pY,List.map_append,Hx];exact k4
 ·rw[pZ,List.map_append,Hx];exact h4
 ·rw[Hv,Hw] at hq;rcases hq with hq|rfl
  ·exact(r3 q hq).kept g4 (h.apart q hq)
  ·exact u3.kept g4 hua
 ·rw[Hv,Hw] at hq;rcases hq with hq|rfl
  ·exact new (r3 q hq) (h.apart q hq)
  ·exact new u3 hua
end Go.Proofs.YtglijodcbdcngaaGreat
