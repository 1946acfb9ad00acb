/- Rows of terms of the call's own. -/
import Derived.Test.YteimdcndjjclnaaGreatPA
import Derived.Test.YteimdcndjjclnaaGreatFR
import Derived.Deep.RegionHeld
import Derived.Test.YteimdcndjjclnaaGreatFG
namespace Go.Proofs.YteimdcndjjclnaaGreat
set_option linter.all false
open Go.Proofs.Tryz Go.RowKit
theorem Tryz.infoTerm:(prog.info? 57).map (λi=>(i.zero,i.size,i.bytes))=some (some (.agg #[.int .i64 0,.slice none 0 0]),2,32):=by kernel_rfl
abbrev TV:=Int×Value×List Int
def tm(t:TV):Tm:=(t.1,t.2.2)
def au(ts:List TV):List Value:=ts.flatMap λt=>[.int .i64 t.1,t.2.1]
theorem kU(ts:List TV):(au ts).length=ts.length*2:=by
 induction ts with
 |nil=>rfl
 |cons t ts ih=>simp only[au,List.flatMap_cons,M0,Nc,List.length_nil] at ih⊢;omega
theorem lQ(t:TV)(ts:List TV):au (t::ts)=.int .i64 t.1::t.2.1::au ts:=rfl
theorem km(ts us:List TV):au (ts++us)=au ts++au us:=by unfold au;rw[List.flatMap_append]
def ci:TV:=(0,.slice none 0 0,[])
theorem kV:∀(ts:List TV)(i:Nat),i<ts.length->(au ts)[i*2]?=some (.int .i64 (ts.getD i ci).1)/\(au ts)[i*2+1]?=some (ts.getD i ci).2.1
 |[],i,h=>by simp at h
 |t::ts,0,h=>by simp[lQ]
 |t::ts,i+1,h=>by have:=kV ts i (by simpa using h);rw[lQ,show (i+1)*2=i*2+1+1 by omega];simpa using this
theorem Kk(ts:List TV)(i:Nat)(h:i<ts.length):(ts.map tm).getD i bi=tm (ts.getD i ci):=by simp[MV,h]
theorem iI(ts:List TV)(i:Nat)(h:i<ts.length):ts.getD i ci∈ts:=by rw[MV,MW h];simp
def Es(w:World)(ts:List TV):Prop:=∀t∈ts,Sl w t.2.1 t.2.2
theorem Es.below{w w':World}{ts:List TV}(h:Es w ts)(hb:Below w.heap.size w w'):Es w' ts:=λt ht=>(h t ht).below hb
theorem ou{w:World}{ts:List TV}(h:Es w ts):∀u∈au ts,u.oneCell'=true:=by
 intro u hu;simp only[au,Nt] at hu;obtain⟨t,ht,hu⟩:=hu;simp only[Nb,List.not_mem_nil,or_false] at hu;rcases hu with rfl|rfl
 .rfl
 .obtain⟨a,c,e,_⟩:=h t ht;rw[e];rfl
theorem ow{w:World}{B:Nat}{v:Value}{ts:List TV}(h:w.ownsRow B 57 2 v ts.length (au ts))(he:Es w ts):Pl w v (ts.map tm):=by
 rcases h.2 with ⟨h1,h2⟩|⟨g,cap,ag,rfl,hg,hh,hn,hm,hcs,ht⟩
 .refine⟨none,0,by rw[h1];simp[h2],by simp[h2],λhp=>by simp at hp;omega⟩
 .refine⟨_,cap,by rw[M6],by rw[M6];exact hn,λhp=>⟨g,0,rfl,?_,λi hi=>?_⟩⟩
  .apply M7;intro hle;rw[Array.getElem?_eq_none hle] at hh;simp at hh
  .rw[M6] at hi;rw[Kk ts i hi];have key:∀j,j<ts.length*2->w.cell? ⟨g,j,none⟩=(au ts)[j]?:=by
    intro j hj;have h1:(ag.toList.take (ts.length*2))[j]?=(au ts)[j]?:=by rw[ht]
    rw[List.getElem?_take,M9 hj] at h1;rw[<-h1];unfold World.cell?;simp only[hh];simp
   have h2:=kV ts i hi;refine⟨?_,(ts.getD i ci).2.1,?_,he _ (iI ts i hi)⟩
   .rw[M1,key _ (by omega),h2.1];rfl
   .rw[M1,key _ (by omega),h2.2]
theorem Pl.tvs{w:World}{v:Value}{ts:List Tm}(h:Pl w v ts):∃(a:Option Addr)(cap:Nat)(us:List TV),v=.slice a us.length cap/\us.length<=cap/\us.map tm=ts/\Es w us/\(0<us.length->∃b off,a=some ⟨b,off,none⟩/\b<w.heap.size/\∀j u,(au us)[j]?=some u->w.cell? ⟨b,off+j,none⟩=some u):=by
 obtain⟨a,cap,rfl,hcap,h⟩:=h;by_cases hp:0<ts.length
 .obtain⟨b,off,rfl,hlt,hc⟩:=h hp;obtain⟨V,hV⟩:=Go.Deep.choose_lt (α:=Value) (n:=ts.length) (p:=λi u=>w.cell? ⟨b,off+i*2+1,none⟩=some u/\Sl w u (ts.getD i bi).2) (λi hi=>by
   obtain⟨_,v,h1,h2⟩:=hc i hi;exact⟨v,h1,h2⟩)
  let us:List TV:=(List.range ts.length).map λi=>((ts.getD i bi).1,V i,(ts.getD i bi).2);have hl:us.length=ts.length:=by simp[us]
  have hat:∀i,i<ts.length->us.getD i ci=((ts.getD i bi).1,V i,(ts.getD i bi).2):=λi hi=>by simp[us,MV,hi]
  refine⟨some ⟨b,off,none⟩,cap,us,by rw[hl],by rw[hl];exact hcap,?_,?_,λ_=>⟨b,off,rfl,hlt,?_⟩⟩
  .apply List.ext_getElem?;intro i;by_cases hi:i<ts.length
   .simp[us,tm,hi]
   .rw[MX (by simp;omega),MX (by omega)]
  .intro t ht;simp only[us,M5,List.mem_range] at ht;obtain⟨i,hi,rfl⟩:=ht;exact(hV i hi).2
  .intro j u hj;have hjl:j<us.length*2:=by rw[<-kU];apply M7;intro hle;rw[MX hle] at hj;simp at hj
   rw[hl] at hjl;have hi:j/2<ts.length:=by omega
   have hf:=kV us (j/2) (by rw[hl];exact hi);rw[hat _ hi] at hf;by_cases he:j%2=0
   .have e:j/2*2=j:=by omega
    rw[e] at hf;rw[hf.1] at hj;simp only[M3] at hj;subst hj;have:=(hc _ hi).1;rwa [e] at this
   .have e:j/2*2+1=j:=by omega
    rw[e] at hf;rw[hf.2] at hj;simp only[M3] at hj;subst hj;have:=(hV _ hi).1;rwa [Nat.add_assoc,e] at this
 .have e:ts=[]:=Nk.1 (by omega);subst e;exact⟨a,cap,[],rfl,MP _,rfl,λt ht=>by simp at ht,λh=>absurd h (by simp)⟩
def B5(g:Nat)(v:Value):Prop:=∀b off n c,v=.slice (some ⟨b,off,none⟩) n c->b≠g
structure iJ(w:World)(wr:World)(g n:Nat)(us:List TV):Prop where
 own:∃rest,wr.ownsRow w.heap.size 57 2 (.slice (some ⟨g,0,none⟩) n n) n (au us++rest)/\(au us++rest).length=n*2
 es:Es wr us
 apart:∀t∈us,B5 g t.2.1
 below:Below w.heap.size w wr
 ge:w.heap.size<=g
theorem iJ.next{w wr w':World}{g n:Nat}{us:List TV}(h:iJ w wr g n us)(hb:Below wr.heap.size wr w'):iJ w w' g n us:=by obtain⟨rest,h1,h2⟩:=h.own;exact⟨⟨rest,aI h1 hb,h2⟩,h.es.below hb,h.apart,h.below.trans (hb.mono h.below.size),h.ge⟩
theorem iJ.lt{w wr:World}{g n:Nat}{us:List TV}(h:iJ w wr g n us):g<wr.heap.size:=by obtain⟨rest,h1,_⟩:=h.own;exact(MH h1 g rfl).2
theorem iJ.cells{w wr:World}{g n:Nat}{us:List TV}(h:iJ w wr g n us)(hk:us.length<n):∃a b,wr.cell? ⟨g,us.length*2,none⟩=some a/\wr.cell? ⟨g,us.length*2+1,none⟩=some b/\wr.frozen? ⟨g,us.length*2,none⟩=false/\wr.frozen? ⟨g,us.length*2+1,none⟩=false:=by obtain⟨rest,h1,h2⟩:=h.own;have e1:=h1.cellAt (us.length*2) (by omega);have e2:=h1.cellAt (us.length*2+1) (by omega);rw[MW (by omega)] at e1 e2;exact⟨_,_,e1,e2,h1.frozenAt _,h1.frozenAt _⟩
theorem Kl(l:List Value)(a b:Value):∀r:List Value,2<=r.length->((l++r).set l.length a).set (l.length+1) b=l++[a,b]++r.drop 2
 |[],h=>by simp at h
 |[_],h=>by simp at h
 |x::y::r,_=>by simp[List.set_append_right]
theorem iJ.put{w wr:World}{g n:Nat}{us:List TV}(h:iJ w wr g n us)(hk:us.length<n)(t:TV)(hs:Sl wr t.2.1 t.2.2)(ha:B5 g t.2.1):iJ w ((wr.setCell ⟨g,us.length*2,none⟩ (.int .i64 t.1)).setCell ⟨g,us.length*2+1,none⟩ t.2.1) g n (us++[t]):=by
 obtain⟨rest,h1,h2⟩:=h.own;have s1:=h1.stored (us.length*2) (.int .i64 t.1);have s2:=s1.1.stored (us.length*2+1) t.2.1;have hg:=cN s1.2 s2.2;rw[M0,kU] at h2;refine⟨⟨rest.drop 2,?_,?_⟩,?_,?_,h.below.trans (dI hg h.ge h.below.size),h.ge⟩
 .have e:=Kl (au us) (.int .i64 t.1) t.2.1 rest (by omega);rw[kU] at e;have:=s2.1;rw[e] at this;rw[km];exact this
 .rw[M0,kU,List.length_drop,M0];simp;omega
 .intro u hu;rcases MY.1 hu with hu|hu
  .exact yu hg (h.es u hu) (h.apart u hu)
  .rw[MZ] at hu;subst hu;exact yu hg hs ha
 .intro u hu;rcases MY.1 hu with hu|hu
  .exact h.apart u hu
  .rw[MZ] at hu;subst hu;exact ha
theorem iJ.done{w wr:World}{g n:Nat}{us:List TV}(h:iJ w wr g n us)(hn:us.length=n):Pl wr (.slice (some ⟨g,0,none⟩) n n) (us.map tm):=by obtain⟨rest,h1,h2⟩:=h.own;rw[M0,kU] at h2;have e:rest=[]:=Nk.1 (by omega);rw[e,List.append_nil] at h1;subst hn;exact ow h1 h.es
theorem iJ.made{w w':World}{n:Nat}{z:Array Value}(h:w'.ownsRow w.heap.size 57 2 (.slice (some ⟨w.heap.size,0,none⟩) n n) n (madeCells z (n*2)).toList)(hg:w.grownBy w' none):iJ w w' w.heap.size n []:=
 ⟨⟨(madeCells z (n*2)).toList,h,by simp[au,size_madeCells]⟩,λt ht=>by simp at ht,λt ht=>by simp at ht,⟨hg.os,hg.tape,hg.output,hg.size,λk hk=>hg.block k hk (by simp)⟩,MI _⟩
theorem B6(us:List TV)(k:Nat)(h:k<us.length):(us.take (k+1)).map tm=(us.take k).map tm++[tm (us.getD k ci)]:=by rw[Na h,Nd];simp[MV,h]
theorem b8{w:World}{B:Nat}{T:TypeId}{s:Nat}{v:Value}{n:Nat}{xs:List Value}(h:w.ownsRow B T s v n xs):∃a c,v=.slice a n c:=by
 rcases h.2 with ⟨h1,h2⟩|⟨g,c,ag,h1,_⟩
 .exact⟨none,0,by rw[h1,h2]⟩
 .exact⟨_,c,h1⟩
theorem Km{w:World}{B:Nat}{v:Value}{zs:List Int}(h:cq w B v zs):Sl w v zs:=by
 obtain⟨_,h|⟨g,cap,ag,rfl,hg,hh,hn,hm,hcs,ht⟩⟩:=h
 .obtain⟨rfl,h0⟩:=h;refine⟨none,0,by rw[h0],λhp=>absurd hp (by omega)⟩
 .refine⟨_,cap,rfl,λ_=>⟨g,0,rfl,?_,λi hi=>?_⟩⟩
  .apply M7;intro hle;rw[Array.getElem?_eq_none hle] at hh;simp at hh
  .have e:ag.toList[i]?=some (.int .i64 (zs.getD i 0)):=by
    have h1:(ag.toList.take (zs.length*1))[i]?=(zs.map (Value.int .i64))[i]?:=by rw[ht]
    rw[List.getElem?_take,M9 (by omega),List.getElem?_map] at h1;rw[h1,MV,MW hi];rfl
   unfold World.cell?;simp only[hh,M1];simpa using e
theorem Kn{a b:Int}(h:0<=a/\a<=101/\0<=b/\b<=101):0<=a*b/\a*b<=10201:=by obtain⟨h1,h2,h3,h4⟩:=h;refine⟨Int.mul_nonneg h1 h3,?_⟩;have:=Int.mul_le_mul h2 h4 h3 (by omega:(0:Int)<=101);omega
end Go.Proofs.YteimdcndjjclnaaGreat
