/- RankOf of the reference. -/
import Derived.Test.YteimdcndjjclnaaGreatFG
import Derived.Deep.AppendLies
namespace Go.Proofs.YteimdcndjjclnaaGreat
set_option linter.all false
open Go.Proofs.Tryz Go.RowKit
theorem xo{P:Program}(w:World)(base:Nat)(t ty e:TypeId)(i:TypeInfo)(size:Nat)(ht:P.underlying t=some (.slice e))(hi:P.info? e=some i)(v:Value)(n c:Nat)(xs:List Value)(hown:w.ownsRow base e size v n xs):(Builtin.append_ #[t,t] ty #[v,.slice none 0 c]).run P w=.ok v w:=by
 rcases hown.2 with ⟨rfl,rfl⟩|⟨g,cap,af,rfl,_,_,hnc,_⟩
 .simp[Builtin.append_,run_underlying ht,sizeOf,typeInfo,hi,Builtin.lenOf,Builtin.firstCells]
 .simp[Builtin.append_,run_underlying ht,sizeOf,typeInfo,hi,Builtin.lenOf,Builtin.firstCells,hnc,storeCells]
theorem Do{P:Program}{w:World}{ops:Array Oper}{rest:List Oper}{o:Oper}{a:Act}{Q:Exit->Act->World->Prop}(hgd:o.guard=none)(s x:Operand)(t:TypeId)(ho:o.op=.call {callee:=.builtin .append,args:=#[s,x],argTypes:=#[t,t]})(base:Nat)(e:TypeId)(i:TypeInfo)(size:Nat)(ht:P.underlying t=some (.slice e))(hi:P.info? e=some i)(v:Value)(n c:Nat)(xs:List Value)(hs:a.eval s=v)(hown:w.ownsRow base e size v n xs)(hx:a.eval x=.slice none 0 c)(h:wpList P ops Q rest (a.put o.dst v) w):wpList P ops Q (o::rest) a w:=by refine wpList_plain hgd λK hK=>?_;have hrun:=xo (P:=P) w base t o.type e i size ht hi v n c xs hown;unfold Oper.wp;simp[execOp,ho,resolve,invoke,builtin,hs,hx,hrun,Result.andThen];exact hK _ _ h
theorem i6{w:World}{B B':Nat}{T T':TypeId}{s s':Nat}{u v:Value}{n m:Nat}{xs ys:List Value}(hT:T≠T')(h:w.ownsRow B T s u n xs)(k:w.ownsRow B' T' s' v m ys):u.ownBlock=none\/u.ownBlock≠v.ownBlock:=by
 rcases h.2 with ⟨rfl,_⟩|⟨g,c,af,rfl,_,hg,_⟩
 .left;rfl
 .right;rcases k.2 with ⟨rfl,_⟩|⟨g',c',cur',rfl,_,hg',_⟩
  .simp[Value.ownBlock]
  .simp only[Value.ownBlock,ne_eq,LA];intro e;subst e;rw[hg] at hg';simp at hg';exact hT hg'.2
def sC(qs:List n7):List Value:=qs.map Prod.snd
def sE(qs:List n7):List Value:=qs.map λq=>.int .i64 q.1.1
structure mq(B:Nat)(w:World)(kv av:Value)(qs:List n7):Prop where
 own:w.ownsRow B 24 1 kv qs.length (sC qs)
 cols:w.ownsRow B 3 1 av qs.length (sE qs)
 rows:∀q∈qs,iB w B q.2 q.1.2
 apart:∀q∈qs,q.2.ownBlock=none\/q.2.ownBlock≠av.ownBlock
theorem mq.below{B:Nat}{w w':World}{kv av:Value}{qs:List n7}(h:mq B w kv av qs)(hb:Below w.heap.size w w'):mq B w' kv av qs:=
 ⟨aK h.own hb,aK h.cols hb,λq hq=>aK (h.rows q hq) hb,h.apart⟩
theorem cw{w:World}{B:Nat}{T:TypeId}{s:Nat}{v:Value}{n:Nat}{xs:List Value}(h:w.ownsRow B T s v n xs):∃a c,v=.slice a n c:=by
 rcases h.2 with ⟨h1,h2⟩|⟨g,c,af,h1,_⟩
 .exact⟨none,0,by rw[h1,h2]⟩
 .exact⟨_,c,h1⟩
theorem sF{w:World}{B:Nat}{T:TypeId}{a:Option Addr}{c n:Nat}{xs:List Value}(h:w.ownsRow B T 1 (.slice a n c) n xs)(k:Nat)(hk:k<n):∃g,a=some ⟨g,0,none⟩/\B<=g/\g<w.heap.size/\w.cell? ⟨g,k,none⟩=xs[k]?:=by
 rcases h.2 with ⟨h1,h2⟩|⟨g,c',af,h1,hB,hg,_⟩
 .omega
 .simp only[LB] at h1;obtain⟨rfl,_,_⟩:=h1;have hlt:=Lb h g rfl;exact⟨g,rfl,hlt.1,hlt.2,h.cellAt k (by omega)⟩
theorem mq.snoc{B:Nat}{W W2 W4:World}{kv av kv2:Value}{qs:List n7}{c:Nat}{r:List Int}{u:Value}{O1 O2:Obj}{ga ca:Nat}(h:mq B W kv av qs)(hu:iB W B u r)(hua:u.ownBlock=none\/u.ownBlock≠av.ownBlock)(h2:W2.ownsRow B 24 1 kv2 (qs.length+1) (sC qs++[u]))(g2:(W.alloc O1).grownBy W2 kv.ownBlock)(h4:W4.ownsRow B 3 1 (.slice (some ⟨ga,0,none⟩) (qs.length+1) ca) (qs.length+1) (sE qs++[.int .i64 c]))(g4:(W2.alloc O2).grownBy W4 av.ownBlock)(hat:av.ownBlock=some ga\/ga=(W2.alloc O2).heap.size):mq B W4 kv2 (.slice (some ⟨ga,0,none⟩) (qs.length+1) ca) (qs++[((c,r),u)]):=by
 have hTne:(3:TypeId)≠24:=by decide
 have k1:=h.below (aj (A:=O1));have u1:=aK hu (aj (A:=O1));have r2:∀q∈qs,iB W2 B q.2 q.1.2:=λq hq=>(k1.rows q hq).kept g2 (i6 hTne (k1.rows q hq) k1.own);have c2:=k1.cols.kept g2 (i6 hTne k1.cols k1.own);have u2:=u1.kept g2 (i6 hTne u1 k1.own);have r3:∀q∈qs,iB (W2.alloc O2) B q.2 q.1.2:=λq hq=>aK (r2 q hq) aj;have c3:=aK c2 (aj (A:=O2));have u3:=aK u2 (aj (A:=O2));have k3:=aK h2 (aj (A:=O2));have k4:=k3.kept g4 (i6 (Ne.symm hTne) k3 c3);have new:∀{x:Value}{ys:List Int},iB (W2.alloc O2) B x ys->(x.ownBlock=none\/x.ownBlock≠av.ownBlock)->(x.ownBlock=none\/x.ownBlock≠Value.ownBlock (.slice (some ⟨ga,0,none⟩) (qs.length+1) ca)):=by
  intro x ys hx hxa;rcases hxa with hxa|hxa
  .exact L0 hxa
  .rcases hat with hat|hat
   .rw[hat] at hxa;exact L3 hxa
   .cases hb:x.ownBlock with
    |none=>exact L0 rfl
    |some kx=>have:=(Lb hx kx hb).2;right;simp only[Value.ownBlock,ne_eq,LA];omega
 refine⟨?_,?_,λq hq=>?_,λq hq=>?_⟩
 .rw[sC,LO,Lx];exact k4
 .rw[sE,LO,Lx];exact h4
 .rw[Lv,Lw] at hq;rcases hq with hq|rfl
  .exact(r3 q hq).kept g4 (h.apart q hq)
  .exact u3.kept g4 hua
 .rw[Lv,Lw] at hq;rcases hq with hq|rfl
  .exact new (r3 q hq) (h.apart q hq)
  .exact new u3 hua
structure ie(B:Nat)(w:World)(v:Value)(qs:List (List Int×Value)):Prop where
 own:w.ownsRow B 24 1 v qs.length (qs.map Prod.snd)
 rows:∀q∈qs,iB w B q.2 q.1
theorem ie.below{B:Nat}{w w':World}{v:Value}{qs:List (List Int×Value)}(h:ie B w v qs)(hb:Below w.heap.size w w'):ie B w' v qs:=⟨aK h.own hb,λq hq=>aK (h.rows q hq) hb⟩
theorem ie.snoc{B:Nat}{W W2:World}{v v2:Value}{qs:List (List Int×Value)}{r:List Int}{u:Value}{O:Obj}(h:ie B W v qs)(hu:iB W B u r)(h2:W2.ownsRow B 24 1 v2 (qs.length+1) (qs.map Prod.snd++[u]))(g2:(W.alloc O).grownBy W2 v.ownBlock):ie B W2 v2 (qs++[(r,u)]):=by
 have hTne:(3:TypeId)≠24:=by decide
 have k1:=h.below (aj (A:=O));have u1:=aK hu (aj (A:=O));refine⟨by rw[LO,Lx];exact h2,λq hq=>?_⟩;rw[Lv,Lw] at hq;rcases hq with hq|rfl
 .exact(k1.rows q hq).kept g2 (i6 hTne (k1.rows q hq) k1.own)
 .exact u1.kept g2 (i6 hTne u1 k1.own)
theorem ie.base{B B2:Nat}{W:World}{v:Value}{qs:List (List Int×Value)}(h:ie B W v qs)(hB:B2<=B):ie B2 W v qs:=⟨sw h.own hB,λq hq=>sw (h.rows q hq) hB⟩
def jV:Nat->Nat->List (List Int)
 |0,_=>[]
 |1,d=>[[(d:Int)]]
 |n+2,d=>(List.range (d+1)).flatMap λk=>(jV (n+1) (d-k)).map λr=>(k:Int)::r
def dK(n:Nat)(d:Int):List (List Int):=if d<0 then [] else jV n d.toNat
def mr(m:Nat)(d:Int)(j:Nat):List (List Int):=(List.range j).flatMap λi:Nat=>(dK (m+1) (d-(i:Int))).map λr=>(i:Int)::r
theorem xp{α β:Type}{f g:α->List β}:∀{l:List α},(∀x∈l,f x=g x)->l.flatMap f=l.flatMap g
 |[],_=>rfl
 |x::l,h=>by rw[List.flatMap_cons,List.flatMap_cons,h x (by simp),xp λy hy=>h y (by simp[hy])]
theorem pM(m:Nat){d:Int}(h:0<=d):mr m d (d.toNat+1)=dK (m+2) d:=by unfold mr dK;rw[LH (by omega)];show _=(List.range (d.toNat+1)).flatMap _;refine xp λi hi=>?_;rw[List.mem_range] at hi;rw[LH (by omega),show (d-(i:Int)).toNat=d.toNat-i by omega]
theorem oc:∀(n:Nat)(d:Int),∀r∈dK n d,r.length=n
 |0,d,r,h=>by unfold dK at h;split at h<;>simp[jV] at h
 |1,d,r,h=>by unfold dK at h;split at h<;>simp[jV] at h;rw[h];rfl
 |n+2,d,r,h=>by
  by_cases hd:d<0
  .unfold dK at h;rw[LI hd] at h;simp at h
  .rw[<-pM n (by omega)] at h;unfold mr at h;rw[L7] at h;obtain⟨i,_,h⟩:=h;obtain⟨q,hq,rfl⟩:=LC.1 h;have:=oc (n+1) _ q hq;simp[this]
theorem Dp{w:World}{B:Nat}:ie B w (.slice none 0 0) []:=⟨World.ownsRow_nil _ _ _ _,λq hq=>by simp at hq⟩
structure kG(B:Nat)(W:World)(kv av:Value)(nk nc:Nat)(ks cs:List Value)(ru:List (List Int×Value))(B2:Nat)(mv:Value)(rs:List (List Int×Value)):Prop where
 own:W.ownsRow B 24 1 kv nk ks
 cols:W.ownsRow B 3 1 av nc cs
 rows:∀q∈ru,iB W B q.2 q.1
 apart:∀q∈ru,q.2.ownBlock=none\/q.2.ownBlock≠av.ownBlock
 mrow:ie B2 W mv rs
 mkk:mv.ownBlock=none\/mv.ownBlock≠kv.ownBlock
 ma:∀q∈rs,q.2.ownBlock=none\/q.2.ownBlock≠av.ownBlock
theorem kG.below{B:Nat}{W W':World}{kv av:Value}{nk nc:Nat}{ks cs:List Value}{ru:List (List Int×Value)}{B2:Nat}{mv:Value}{rs:List (List Int×Value)}(h:kG B W kv av nk nc ks cs ru B2 mv rs)(hb:Below W.heap.size W W'):kG B W' kv av nk nc ks cs ru B2 mv rs:=
 ⟨aK h.own hb,aK h.cols hb,λq hq=>aK (h.rows q hq) hb,h.apart,h.mrow.below hb,h.mkk,h.ma⟩
theorem kG.take{B:Nat}{W:World}{kv av:Value}{nk nc:Nat}{ks cs:List Value}{ru:List (List Int×Value)}{B2:Nat}{mv:Value}{rs:List (List Int×Value)}(h:kG B W kv av nk nc ks cs ru B2 mv rs)(hB:B<=B2){q:List Int×Value}(hq:q∈rs):kG B W kv av nk nc ks cs (ru++[q]) B2 mv rs:=
 ⟨h.own,h.cols,λx hx=>by
  rcases Lv.1 hx with hx|hx
  .exact h.rows x hx
  .rw[Lw] at hx;subst hx;exact sw (h.mrow.rows _ hq) hB,λx hx=>by
  rcases Lv.1 hx with hx|hx
  .exact h.apart x hx
  .rw[Lw] at hx;subst hx;exact h.ma _ hq,h.mrow,h.mkk,h.ma⟩
theorem kG.nil(B:Nat)(W:World):kG B W (.slice none 0 0) (.slice none 0 0) 0 0 [] [] [] B (.slice none 0 0) []:=
 ⟨World.ownsRow_nil _ _ _ _,World.ownsRow_nil _ _ _ _,λq hq=>by simp at hq,λq hq=>by simp at hq,Dp,L0 rfl,λq hq=>by simp at hq⟩
end Go.Proofs.YteimdcndjjclnaaGreat
