/- Rows of terms of the call's own. -/
import Derived.Test.YteimdcndjjclnaaGreatPA
import Derived.Test.YteimdcndjjclnaaGreatFR
import Derived.Deep.RegionHeld
import Derived.Test.YteimdcndjjclnaaGreatFG
namespace Go.Proofs.YteimdcndjjclnaaGreat
set_option linter.all false
open Go.Proofs.Tryz Go.RowKit
abbrev TV:=Int×Value×List Int
def tm(t:TV):Tm:=(t.1,t.2.2)
def bO(ts:List TV):List Value:=ts.flatMap λt=>[.int .i64 t.1,t.2.1]
theorem oU(ts:List TV):(bO ts).length=ts.length*2:=by
 induction ts with
 |nil=>rfl
 |cons t ts ih=>simp only[bO,List.flatMap_cons,Lx,LN,List.length_nil] at ih⊢;omega
theorem oV(t:TV)(ts:List TV):bO (t::ts)=.int .i64 t.1::t.2.1::bO ts:=rfl
theorem ko(ts us:List TV):bO (ts++us)=bO ts++bO us:=by unfold bO;rw[List.flatMap_append]
def dO:TV:=(0,.slice none 0 0,[])
theorem A9:∀(ts:List TV)(i:Nat),i<ts.length->(bO ts)[i*2]?=some (.int .i64 (ts.getD i dO).1)/\(bO ts)[i*2+1]?=some (ts.getD i dO).2.1
 |[],i,h=>by simp at h
 |t::ts,0,h=>by simp[oV]
 |t::ts,i+1,h=>by have:=A9 ts i (by simpa using h);rw[oV,show (i+1)*2=i*2+1+1 by omega];simpa using this
theorem Jj(ts:List TV)(i:Nat)(h:i<ts.length):(ts.map tm).getD i bT=tm (ts.getD i dO):=by simp[Lr,h]
theorem uL(ts:List TV)(i:Nat)(h:i<ts.length):ts.getD i dO∈ts:=by rw[Lr,Ls h];simp
def Es(w:World)(ts:List TV):Prop:=∀t∈ts,Sl w t.2.1 t.2.2
theorem Es.below{w w':World}{ts:List TV}(h:Es w ts)(hb:Below w.heap.size w w'):Es w' ts:=λt ht=>(h t ht).below hb
theorem uM{w:World}{B:Nat}{v:Value}{ts:List TV}(h:w.ownsRow B 57 2 v ts.length (bO ts))(he:Es w ts):Pl w v (ts.map tm):=by
 rcases h.2 with ⟨h1,h2⟩|⟨g,cap,af,rfl,hg,hh,hn,hm,hcs,ht⟩
 .refine⟨none,0,by rw[h1];simp[h2],by simp[h2],λhp=>by simp at hp;omega⟩
 .refine⟨_,cap,by rw[LD],by rw[LD];exact hn,λhp=>⟨g,0,rfl,?_,λi hi=>?_⟩⟩
  .apply LF;intro hle;rw[Array.getElem?_eq_none hle] at hh;simp at hh
  .rw[LD] at hi;rw[Jj ts i hi];have key:∀j,j<ts.length*2->w.cell? ⟨g,j,none⟩=(bO ts)[j]?:=by
    intro j hj;have h1:(af.toList.take (ts.length*2))[j]?=(bO ts)[j]?:=by rw[ht]
    rw[List.getElem?_take,LI hj] at h1;rw[<-h1];unfold World.cell?;simp only[hh];simp
   have h2:=A9 ts i hi;refine⟨?_,(ts.getD i dO).2.1,?_,he _ (uL ts i hi)⟩
   .rw[Ly,key _ (by omega),h2.1];rfl
   .rw[Ly,key _ (by omega),h2.2]
def Ba(g:Nat)(v:Value):Prop:=∀b off n c,v=.slice (some ⟨b,off,none⟩) n c->b≠g
structure gZ(w:World)(wr:World)(g n:Nat)(us:List TV):Prop where
 own:∃rest,wr.ownsRow w.heap.size 57 2 (.slice (some ⟨g,0,none⟩) n n) n (bO us++rest)/\(bO us++rest).length=n*2
 es:Es wr us
 apart:∀t∈us,Ba g t.2.1
 below:Below w.heap.size w wr
 ge:w.heap.size<=g
theorem gZ.next{w wr w':World}{g n:Nat}{us:List TV}(h:gZ w wr g n us)(hb:Below wr.heap.size wr w'):gZ w w' g n us:=by obtain⟨rest,h1,h2⟩:=h.own;exact⟨⟨rest,aK h1 hb,h2⟩,h.es.below hb,h.apart,h.below.trans (hb.mono h.below.size),h.ge⟩
theorem gZ.lt{w wr:World}{g n:Nat}{us:List TV}(h:gZ w wr g n us):g<wr.heap.size:=by obtain⟨rest,h1,_⟩:=h.own;exact(Lb h1 g rfl).2
theorem gZ.cells{w wr:World}{g n:Nat}{us:List TV}(h:gZ w wr g n us)(hk:us.length<n):∃a b,wr.cell? ⟨g,us.length*2,none⟩=some a/\wr.cell? ⟨g,us.length*2+1,none⟩=some b/\wr.frozen? ⟨g,us.length*2,none⟩=false/\wr.frozen? ⟨g,us.length*2+1,none⟩=false:=by obtain⟨rest,h1,h2⟩:=h.own;have e1:=h1.cellAt (us.length*2) (by omega);have e2:=h1.cellAt (us.length*2+1) (by omega);rw[Ls (by omega)] at e1 e2;exact⟨_,_,e1,e2,h1.frozenAt _,h1.frozenAt _⟩
theorem Jk(l:List Value)(a b:Value):∀r:List Value,2<=r.length->((l++r).set l.length a).set (l.length+1) b=l++[a,b]++r.drop 2
 |[],h=>by simp at h
 |[_],h=>by simp at h
 |x::y::r,_=>by simp[List.set_append_right]
theorem gZ.put{w wr:World}{g n:Nat}{us:List TV}(h:gZ w wr g n us)(hk:us.length<n)(t:TV)(hs:Sl wr t.2.1 t.2.2)(ha:Ba g t.2.1):gZ w ((wr.setCell ⟨g,us.length*2,none⟩ (.int .i64 t.1)).setCell ⟨g,us.length*2+1,none⟩ t.2.1) g n (us++[t]):=by
 obtain⟨rest,h1,h2⟩:=h.own;have s1:=h1.stored (us.length*2) (.int .i64 t.1);have s2:=s1.1.stored (us.length*2+1) t.2.1;have hg:=cE s1.2 s2.2;rw[Lx,oU] at h2;refine⟨⟨rest.drop 2,?_,?_⟩,?_,?_,h.below.trans (dE hg h.ge h.below.size),h.ge⟩
 .have e:=Jk (bO us) (.int .i64 t.1) t.2.1 rest (by omega);rw[oU] at e;have:=s2.1;rw[e] at this;rw[ko];exact this
 .rw[Lx,oU,List.length_drop,Lx];simp;omega
 .intro u hu;rcases Lv.1 hu with hu|hu
  .exact wV hg (h.es u hu) (h.apart u hu)
  .rw[Lw] at hu;subst hu;exact wV hg hs ha
 .intro u hu;rcases Lv.1 hu with hu|hu
  .exact h.apart u hu
  .rw[Lw] at hu;subst hu;exact ha
theorem gZ.done{w wr:World}{g n:Nat}{us:List TV}(h:gZ w wr g n us)(hn:us.length=n):Pl wr (.slice (some ⟨g,0,none⟩) n n) (us.map tm):=by obtain⟨rest,h1,h2⟩:=h.own;rw[Lx,oU] at h2;have e:rest=[]:=LV.1 (by omega);rw[e,List.append_nil] at h1;subst hn;exact uM h1 h.es
theorem gZ.made{w w':World}{n:Nat}{z:Array Value}(h:w'.ownsRow w.heap.size 57 2 (.slice (some ⟨w.heap.size,0,none⟩) n n) n (madeCells z (n*2)).toList)(hg:w.grownBy w' none):gZ w w' w.heap.size n []:=
 ⟨⟨(madeCells z (n*2)).toList,h,by simp[bO,size_madeCells]⟩,λt ht=>by simp at ht,λt ht=>by simp at ht,⟨hg.os,hg.tape,hg.output,hg.size,λk hk=>hg.block k hk (by simp)⟩,Lc _⟩
theorem fu{w:World}{B:Nat}{T:TypeId}{s:Nat}{v:Value}{n:Nat}{xs:List Value}(h:w.ownsRow B T s v n xs):∃a c,v=.slice a n c:=by
 rcases h.2 with ⟨h1,h2⟩|⟨g,c,af,h1,_⟩
 .exact⟨none,0,by rw[h1,h2]⟩
 .exact⟨_,c,h1⟩
theorem Jl{w:World}{B:Nat}{v:Value}{zs:List Int}(h:iB w B v zs):Sl w v zs:=by
 obtain⟨_,h|⟨g,cap,af,rfl,hg,hh,hn,hm,hcs,ht⟩⟩:=h
 .obtain⟨rfl,h0⟩:=h;refine⟨none,0,by rw[h0],λhp=>absurd hp (by omega)⟩
 .refine⟨_,cap,rfl,λ_=>⟨g,0,rfl,?_,λi hi=>?_⟩⟩
  .apply LF;intro hle;rw[Array.getElem?_eq_none hle] at hh;simp at hh
  .have e:af.toList[i]?=some (.int .i64 (zs.getD i 0)):=by
    have h1:(af.toList.take (zs.length*1))[i]?=(zs.map (Value.int .i64))[i]?:=by rw[ht]
    rw[List.getElem?_take,LI (by omega),List.getElem?_map] at h1;rw[h1,Lr,Ls hi];rfl
   unfold World.cell?;simp only[hh,Ly];simpa using e
end Go.Proofs.YteimdcndjjclnaaGreat
