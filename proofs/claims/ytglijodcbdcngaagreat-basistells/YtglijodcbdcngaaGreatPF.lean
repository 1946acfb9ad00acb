/- Rows of terms of the call's own. -/
import Derived.Test.YtglijodcbdcngaaGreatPA
import Derived.Test.YtglijodcbdcngaaGreatFR
import Derived.Test.YtglijodcbdcngaaGreatFA
import Derived.Deep.OwnRows
import Derived.Deep.RegionHeld
import Derived.Test.YtglijodcbdcngaaGreatFG
import Derived.Test.YtglijodcbdcngaaGreatH
set_option maxHeartbeats 2000000
namespace Go.Proofs.YtglijodcbdcngaaGreat
set_option linter.unusedSimpArgs false
set_option linter.unusedVariables false
open Go.Proofs.Tryz Go.RowKit
theorem Tryz.infoTerm:(prog.info? 54).map (λi=>(i.zero,i.size,i.bytes))=some (some (.agg #[.int .i64 0,.slice none 0 0]),2,32):=by kernel_rfl
abbrev TV:=Int×Value×List Int
def tm(t:TV):Tm:=(t.1,t.2.2)
def ak(ts:List TV):List Value:=ts.flatMap λt=>[.int .i64 t.1,t.2.1]
theorem iW(ts:List TV):(ak ts).length=ts.length*2:=by
 induction ts with
 |nil=>rfl
 |cons t ts ih=>simp only[ak,List.flatMap_cons,Hx,List.length_cons,List.length_nil] at ih⊢;omega
theorem kl(t:TV)(ts:List TV):ak (t::ts)=.int .i64 t.1::t.2.1::ak ts:=rfl
theorem gV(ts us:List TV):ak (ts++us)=ak ts++ak us:=by unfold ak;rw[List.flatMap_append]
def bK:TV:=(0,.slice none 0 0,[])
theorem iw:∀(ts:List TV)(i:Nat),i<ts.length->(ak ts)[i*2]?=some (.int .i64 (ts.getD i bK).1)/\(ak ts)[i*2+1]?=some (ts.getD i bK).2.1
 |[],i,h=>by simp at h
 |t::ts,0,h=>by simp[kl]
 |t::ts,i+1,h=>by have:=iw ts i (by simpa using h);rw[kl,show (i+1)*2=i*2+1+1 by omega];simpa using this
theorem EI(ts:List TV)(i:Nat)(h:i<ts.length):(ts.map tm).getD i aM=tm (ts.getD i bK):=by simp[Hs,h]
theorem eL(ts:List TV)(i:Nat)(h:i<ts.length):ts.getD i bK∈ts:=by rw[Hs,Ht h];simp
def Es(w:World)(ts:List TV):Prop:=∀t∈ts,Sl w t.2.1 t.2.2
theorem Es.below{w w':World}{ts:List TV}(h:Es w ts)(hb:Below w.heap.size w w'):Es w' ts:=λt ht=>(h t ht).below hb
theorem eK{w:World}{ts:List TV}(h:Es w ts):∀u∈ak ts,u.oneCell'=true:=by
 intro u hu;simp only[ak,List.mem_flatMap] at hu;obtain⟨t,ht,hu⟩:=hu;simp only[List.mem_cons,List.not_mem_nil,or_false] at hu;rcases hu with rfl|rfl
 ·rfl
 ·obtain⟨a,c,e,_⟩:=h t ht;rw[e];rfl
theorem kf{w:World}{B:Nat}{v:Value}{ts:List TV}(h:w.ownsRow B 54 2 v ts.length (ak ts))(he:Es w ts):Pl w v (ts.map tm):=by
 rcases h.2 with ⟨h1,h2⟩|⟨g,cap,ai,rfl,hg,hh,hn,hm,hcs,ht⟩
 ·refine⟨none,0,by rw[h1];simp[h2],by simp[h2],λhp=>by simp at hp;omega⟩
 ·refine⟨_,cap,by rw[Ia],by rw[Ia];exact hn,λhp=>⟨g,0,rfl,?_,λi hi=>?_⟩⟩
  ·apply Ib;intro hle;rw[Array.getElem?_eq_none hle] at hh;simp at hh
  ·rw[Ia] at hi;rw[EI ts i hi];have key:∀j,j<ts.length*2->w.cell? ⟨g,j,none⟩=(ak ts)[j]?:=by
    intro j hj;have h1:(ai.toList.take (ts.length*2))[j]?=(ak ts)[j]?:=by rw[ht]
    rw[List.getElem?_take,if_pos hj] at h1;rw[<-h1];unfold World.cell?;simp only[hh];simp
   have h2:=iw ts i hi;refine⟨?_,(ts.getD i bK).2.1,?_,he _ (eL ts i hi)⟩
   ·rw[Hy,key _ (by omega),h2.1];rfl
   ·rw[Hy,key _ (by omega),h2.2]
theorem Pl.tvs{w:World}{v:Value}{ts:List Tm}(h:Pl w v ts):∃(a:Option Addr)(cap:Nat)(us:List TV),v=.slice a us.length cap/\us.length<=cap/\us.map tm=ts/\Es w us/\(0<us.length->∃b off,a=some ⟨b,off,none⟩/\b<w.heap.size/\∀j u,(ak us)[j]?=some u->w.cell? ⟨b,off+j,none⟩=some u):=by
 obtain⟨a,cap,rfl,hcap,h⟩:=h;by_cases hp:0<ts.length
 ·obtain⟨b,off,rfl,hlt,hc⟩:=h hp;obtain⟨V,hV⟩:=Go.Deep.choose_lt (α:=Value) (n:=ts.length) (p:=λi u=>w.cell? ⟨b,off+i*2+1,none⟩=some u/\Sl w u (ts.getD i aM).2) (λi hi=>by
   obtain⟨_,v,h1,h2⟩:=hc i hi;exact⟨v,h1,h2⟩)
  let us:List TV:=(List.range ts.length).map λi=>((ts.getD i aM).1,V i,(ts.getD i aM).2);have hl:us.length=ts.length:=by simp[us]
  have hat:∀i,i<ts.length->us.getD i bK=((ts.getD i aM).1,V i,(ts.getD i aM).2):=λi hi=>by simp[us,Hs,hi]
  refine⟨some ⟨b,off,none⟩,cap,us,by rw[hl],by rw[hl];exact hcap,?_,?_,λ_=>⟨b,off,rfl,hlt,?_⟩⟩
  ·apply List.ext_getElem?;intro i;by_cases hi:i<ts.length
   ·simp[us,tm,hi]
   ·rw[Hu (by simp;omega),Hu (by omega)]
  ·intro t ht;simp only[us,H8,List.mem_range] at ht;obtain⟨i,hi,rfl⟩:=ht;exact(hV i hi).2
  ·intro j u hj;have hjl:j<us.length*2:=by rw[<-iW];apply Ib;intro hle;rw[Hu hle] at hj;simp at hj
   rw[hl] at hjl;have hi:j/2<ts.length:=by omega
   have hf:=iw us (j/2) (by rw[hl];exact hi);rw[hat _ hi] at hf;by_cases he:j%2=0
   ·have e:j/2*2=j:=by omega
    rw[e] at hf;rw[hf.1] at hj;simp only[H6] at hj;subst hj;have:=(hc _ hi).1;rwa [e] at this
   ·have e:j/2*2+1=j:=by omega
    rw[e] at hf;rw[hf.2] at hj;simp only[H6] at hj;subst hj;have:=(hV _ hi).1;rwa [Nat.add_assoc,e] at this
 ·have e:ts=[]:=List.length_eq_zero_iff.1 (by omega);subst e;exact⟨a,cap,[],rfl,Hl _,rfl,λt ht=>by simp at ht,λh=>absurd h (by simp)⟩
def oX(g:Nat)(v:Value):Prop:=∀b off n c,v=.slice (some ⟨b,off,none⟩) n c->b≠g
structure dA(w:World)(wr:World)(g n:Nat)(us:List TV):Prop where
 own:∃rest,wr.ownsRow w.heap.size 54 2 (.slice (some ⟨g,0,none⟩) n n) n (ak us++rest)/\(ak us++rest).length=n*2
 es:Es wr us
 apart:∀t∈us,oX g t.2.1
 below:Below w.heap.size w wr
 ge:w.heap.size<=g
theorem dA.next{w wr w':World}{g n:Nat}{us:List TV}(h:dA w wr g n us)(hb:Below wr.heap.size wr w'):dA w w' g n us:=by obtain⟨rest,h1,h2⟩:=h.own;exact⟨⟨rest,aH h1 hb,h2⟩,h.es.below hb,h.apart,h.below.trans (hb.mono h.below.size),h.ge⟩
theorem dA.lt{w wr:World}{g n:Nat}{us:List TV}(h:dA w wr g n us):g<wr.heap.size:=by obtain⟨rest,h1,_⟩:=h.own;exact(Hd h1 g rfl).2
theorem dA.cells{w wr:World}{g n:Nat}{us:List TV}(h:dA w wr g n us)(hk:us.length<n):∃a b,wr.cell? ⟨g,us.length*2,none⟩=some a/\wr.cell? ⟨g,us.length*2+1,none⟩=some b/\wr.frozen? ⟨g,us.length*2,none⟩=false/\wr.frozen? ⟨g,us.length*2+1,none⟩=false:=by obtain⟨rest,h1,h2⟩:=h.own;have e1:=h1.cellAt (us.length*2) (by omega);have e2:=h1.cellAt (us.length*2+1) (by omega);rw[Ht (by omega)] at e1 e2;exact⟨_,_,e1,e2,h1.frozenAt _,h1.frozenAt _⟩
theorem EJ(l:List Value)(a b:Value):∀r:List Value,2<=r.length->((l++r).set l.length a).set (l.length+1) b=l++[a,b]++r.drop 2
 |[],h=>by simp at h
 |[_],h=>by simp at h
 |x::y::r,_=>by simp[List.set_append_right]
theorem dA.put{w wr:World}{g n:Nat}{us:List TV}(h:dA w wr g n us)(hk:us.length<n)(t:TV)(hs:Sl wr t.2.1 t.2.2)(ha:oX g t.2.1):dA w ((wr.setCell ⟨g,us.length*2,none⟩ (.int .i64 t.1)).setCell ⟨g,us.length*2+1,none⟩ t.2.1) g n (us++[t]):=by
 obtain⟨rest,h1,h2⟩:=h.own;have s1:=h1.stored (us.length*2) (.int .i64 t.1);have s2:=s1.1.stored (us.length*2+1) t.2.1;have hg:=cj s1.2 s2.2;rw[Hx,iW] at h2;refine⟨⟨rest.drop 2,?_,?_⟩,?_,?_,h.below.trans (ck hg h.ge h.below.size),h.ge⟩
 ·have e:=EJ (ak us) (.int .i64 t.1) t.2.1 rest (by omega);rw[iW] at e;have:=s2.1;rw[e] at this;rw[gV];exact this
 ·rw[Hx,iW,List.length_drop,Hx];simp;omega
 ·intro u hu;rcases Hv.1 hu with hu|hu
  ·exact tO hg (h.es u hu) (h.apart u hu)
  ·rw[Hw] at hu;subst hu;exact tO hg hs ha
 ·intro u hu;rcases Hv.1 hu with hu|hu
  ·exact h.apart u hu
  ·rw[Hw] at hu;subst hu;exact ha
theorem dA.drawn{w wr:World}{g n:Nat}{us:List TV}(h:dA w wr g n us):dA w wr.drew g n us:=h.next (Hf _ _).drew
theorem dA.done{w wr:World}{g n:Nat}{us:List TV}(h:dA w wr g n us)(hn:us.length=n):Pl wr (.slice (some ⟨g,0,none⟩) n n) (us.map tm):=by obtain⟨rest,h1,h2⟩:=h.own;rw[Hx,iW] at h2;have e:rest=[]:=List.length_eq_zero_iff.1 (by omega);rw[e,List.append_nil] at h1;subst hn;exact kf h1 h.es
theorem dA.made{w w':World}{n:Nat}{z:Array Value}(h:w'.ownsRow w.heap.size 54 2 (.slice (some ⟨w.heap.size,0,none⟩) n n) n (madeCells z (n*2)).toList)(hg:w.grownBy w' none):dA w w' w.heap.size n []:=
 ⟨⟨(madeCells z (n*2)).toList,h,by simp[ak,size_madeCells]⟩,λt ht=>by simp at ht,λt ht=>by simp at ht,⟨hg.os,hg.tape,hg.output,hg.size,λk hk=>hg.block k hk (by simp)⟩,He _⟩
theorem oY(us:List TV)(k:Nat)(h:k<us.length):(us.take (k+1)).map tm=(us.take k).map tm++[tm (us.getD k bK)]:=by rw[List.take_succ_eq_append_getElem h,List.map_append];simp[Hs,h]
theorem a7{w:World}{B:Nat}{T:TypeId}{s:Nat}{v:Value}{n:Nat}{xs:List Value}(h:w.ownsRow B T s v n xs):∃a c,v=.slice a n c:=by
 rcases h.2 with ⟨h1,h2⟩|⟨g,c,ai,h1,_⟩
 ·exact⟨none,0,by rw[h1,h2]⟩
 ·exact⟨_,c,h1⟩
theorem EK{w:World}{B:Nat}{v:Value}{zs:List Int}(h:jP w B v zs):Sl w v zs:=by
 obtain⟨_,h|⟨g,cap,ai,rfl,hg,hh,hn,hm,hcs,ht⟩⟩:=h
 ·obtain⟨rfl,h0⟩:=h;refine⟨none,0,by rw[h0],λhp=>absurd hp (by omega)⟩
 ·refine⟨_,cap,rfl,λ_=>⟨g,0,rfl,?_,λi hi=>?_⟩⟩
  ·apply Ib;intro hle;rw[Array.getElem?_eq_none hle] at hh;simp at hh
  ·have e:ai.toList[i]?=some (.int .i64 (zs.getD i 0)):=by
    have h1:(ai.toList.take (zs.length*1))[i]?=(zs.map (Value.int .i64))[i]?:=by rw[ht]
    rw[List.getElem?_take,if_pos (by omega),List.getElem?_map] at h1;rw[h1,Hs,Ht hi];rfl
   unfold World.cell?;simp only[hh,Hy];simpa using e
theorem EL{w:World}{B g:Nat}{v:Value}{zs:List Int}(h:jP w B v zs)(hg:g<B):oX g v:=by
 intro b off n c e hb;have hv:v.ownBlock=some b:=by rw[e];rfl
 have:=(Hd h b hv).1;omega
theorem EM(v:Value)(ts:List Tm)(w:World)(hm:ts.length<=1200000000000)(hl:∀t∈ts,t.2.length<=400)(hs:Pl w v ts):Calls prog 300 #[v] w λe w'=>∃u,e=.returned u/\Pl w' u ts/\Below w.heap.size w w':=by
 obtain⟨a,cap,us,rfl,_,hus,hes,hcs⟩:=hs.tvs;have hul:us.length=ts.length:=by rw[<-hus,Ia]
 have HUS:=aa hus;have HES:=aa hes;have HCS:=aa hcs;have HL:=aa hl;have hm':us.length<=1200000000000:=by omega
 clear hs hus hes hcs hl hm hul;obtain⟨i0,hi,hz0,hz1,hz2⟩:=info_parts Tryz.infoTerm;go_enter func300,ntmps300;go_wp2_with (at_make;refine wpList_make_full _ rfl _ _ 31 rfl w.heap.size 54 i0 _ 2 underlying31 hi hz0 hz1 .i64 .i64 _ _ us.length rfl rfl rfl rfl (by rw[hz2];omega) (by unfold maxLen;omega) (He _) ?_;intro w1 hown hgrow;have HH:=aa (dA.made hown hgrow);clear hown hgrow);clear hi hz0 hz1 hz2;go_loopw [11] (λi wr=>∃k:Nat,k<=us.length/\i=.int .i64 k/\∃vs:List TV,vs.length=k/\vs.map tm=(us.take k).map tm/\dA w wr w.heap.size us.length vs) (λi _=>us.length-(intOf i).toNat);case atStart=>exact⟨0,Hl _,rfl,[],rfl,rfl,HH.o⟩
 case round=>
  clear HH;obtain⟨k,hk,rfl,vs,hvk,hvt,hh⟩:=hrel;have HH:=aa hh;clear hh;by_cases hk2:k<us.length
  ·obtain⟨b,off,rfl,hlt,hcell⟩:=HCS.o (by omega);have hf:=iw us k hk2;have c0:=hcell _ _ hf.1;have c1:=hcell _ _ hf.2;rw[<-HH.o.below.cell (p:=⟨b,off+k*2,none⟩) hlt] at c0;rw[<-Nat.add_assoc,<-HH.o.below.cell (p:=⟨b,off+k*2+1,none⟩) hlt] at c1;have HSL:=aa (HES.o _ (eL us k hk2));have HT:=aa (oY us k hk2);have HLE:=aa (HL.o (tm (us.getD k bK)) (by rw[<-HUS.o];exact List.mem_map_of_mem (eL us k hk2)));generalize us.getD k bK=t at c0 c1 HSL HT HLE;obtain⟨tc,tv,te⟩:=t;obtain⟨ea,ec,he,_⟩:=HSL.o;simp only at c0 c1 he;subst he;subst hvk;clear hf hcell;have H1:=aa (HH.o.next (af (A:=.cells #[.int .i64 tc,.slice ea te.length ec] 54)));have HB1:=aa (HH.o.below.trans ((af (w:=wr) (A:=.cells #[.int .i64 tc,.slice ea te.length ec] 54)).mono HH.o.below.size));have D0:Ic ((wr.alloc (.cells #[.int .i64 tc,.slice ea te.length ec] 54)).drew.cell? ⟨wr.heap.size,0,none⟩=some (.int .i64 tc)):=by show _=_;simp[go_sem]
   go_wp2;go_region_with (go_at_call 275;refine(AJ _ te _ HLE.o ((HSL.o.below HB1.o).below (Hf _ _).drew)).mono ?_;rintro e w9 ⟨u,rfl,hu,hb9⟩;have HH9:=aa (H1.o.drawn.next hb9);have HU:=aa (Hg (EK hu) (EL hu (H1.o.drawn.lt)));obtain⟨x0,x1,y0,y1,z0,z1⟩:=HH9.o.cells hk2;have d0:=D0.o;rw[<-hb9.cell (by simp)] at d0;obtain⟨ua,uc,rfl⟩:=a7 hu;clear hb9 hu);all_goals
    go_wp2;go_roundw;case rel=>exact⟨vs.length+1,by omega,by go_num,vs++[_],by simp,by rw[List.map_append,hvt,HT.o];rfl,HH9.o.put hk2 (tc,_,te) HU.o.1 HU.o.2⟩
    case measure=>simp[intOf];omega
  ·have e:k=us.length:=by omega
   subst e;go_wp2;go_ret;refine⟨_,rfl,?_,HH.o.below⟩;have h:=HH.o.done hvk;rw[hvt,Hz (He _),HUS.o] at h;exact h
theorem EN(p:Int)(b:Tm)(us:List TV)(k:Nat)(h:k<us.length):aT p b ((us.take (k+1)).map tm)=aT p b ((us.take k).map tm)++[(b.1*(us.getD k bK).1%p,ah (·+·) b.2 (us.getD k bK).2.2)]:=by rw[oY us k h];simp[aT,tm]
theorem dA.down{w w2 wr:World}{g n:Nat}{us:List TV}(h:dA w2 wr g n us)(hb:Below w.heap.size w w2):Below w.heap.size w wr:=hb.trans (h.below.mono hb.size)
theorem xJ{a b:Int}(h:0<=a/\a<=101/\0<=b/\b<=101):0<=a*b/\a*b<=10201:=by obtain⟨h1,h2,h3,h4⟩:=h;refine⟨Int.mul_nonneg h1 h3,?_⟩;have:=Int.mul_le_mul h2 h4 h3 (by omega:(0:Int)<=101);omega
theorem EO{w w1:World}{p n o v bc:Int}{bv:Value}{T1 T2:TypeId}{m:Nat}{z:Array Value}(h:w1.ownsRow (w.heap.size+1+1) 54 2 (.slice (some ⟨((w.alloc (.cells #[.int .i64 p,.int .i64 n,.int .i64 o,.int .i64 v] T1)).alloc (.cells #[.int .i64 bc,bv] T2)).heap.size,0,none⟩) m m) m (madeCells z (m*2)).toList)(hg:((w.alloc (.cells #[.int .i64 p,.int .i64 n,.int .i64 o,.int .i64 v] T1)).alloc (.cells #[.int .i64 bc,bv] T2)).grownBy w1 none):∃w2,Below w.heap.size w w2/\w2.heap.size=w.heap.size+1+1/\w2.cell? ⟨w.heap.size,0,none⟩=some (.int .i64 p)/\w2.cell? ⟨w.heap.size+1,0,none⟩=some (.int .i64 bc)/\w2.cell? ⟨w.heap.size+1,1,none⟩=some bv/\dA w2 w1 (w.heap.size+1+1) m []:=by
 refine⟨(w.alloc (.cells #[.int .i64 p,.int .i64 n,.int .i64 o,.int .i64 v] T1)).alloc (.cells #[.int .i64 bc,bv] T2),cW,by simp,by simp[go_sem],by simp[go_sem],by simp[go_sem],?_⟩;have e:((w.alloc (.cells #[.int .i64 p,.int .i64 n,.int .i64 o,.int .i64 v] T1)).alloc (.cells #[.int .i64 bc,bv] T2)).heap.size=w.heap.size+1+1:=by simp
 have k:=dA.made (w:=(w.alloc (.cells #[.int .i64 p,.int .i64 n,.int .i64 o,.int .i64 v] T1)).alloc (.cells #[.int .i64 bc,bv] T2)) (n:=m) (z:=z) (by rw[e];rw[e] at h;exact h) hg;rw[e] at k;exact k
theorem EP(p n o v bc:Int)(bv:Value)(be:List Int)(fv:Value)(ts:List Tm)(w:World)(hp:2<=p/\p<=101)(hbc:0<=bc/\bc<p)(h0:0<be.length)(hbl:be.length<=3)(hbe:∀x∈be,0<=x/\x<=20000)(hts:∀t∈ts,t.2.length=be.length/\(∀x∈t.2,0<=x/\x<=20000)/\0<=t.1/\t.1<p)(hm:ts.length<=1200000000000)(hs:Sl w bv be)(hf:Pl w fv ts):Calls prog 316 #[az p n o v,.agg #[.int .i64 bc,bv],fv] w λe w'=>∃u,e=.returned u/\Pl w' u (aT p (bc,be) ts)/\Below w.heap.size w w':=by
 obtain⟨a,cap,us,rfl,_,hus,hes,hcs⟩:=hf.tvs;obtain⟨ba,bcap,rfl,hbs⟩:=hs;obtain⟨bb,boff,rfl,hblt,hbint⟩:=hbs h0;have hul:us.length=ts.length:=by rw[<-hus,Ia]
 have HUS:=aa hus;have HES:=aa hes;have HCS:=aa hcs;have HBE:=aa hbe;have HBI:=aa hbint;have HTS:Ic (∀t∈us,t.2.2.length=be.length/\(∀x∈t.2.2,0<=x/\x<=20000)/\0<=t.1/\t.1<p):=λt ht=>hts (tm t) (by rw[<-hus];exact List.mem_map_of_mem ht);have hm':us.length<=1200000000000:=by omega
 clear hf hus hes hcs hts hm hul hbs hbe hbint;obtain⟨i0,hi,hz0,hz1,hz2⟩:=info_parts Tryz.infoTerm;obtain⟨hp1,hp2⟩:=hp;obtain⟨hc1,hc2⟩:=hbc;go_enter func316,ntmps316;go_wp2_with (at_make;refine wpList_make_full _ rfl _ _ 31 rfl (w.heap.size+1+1) 54 i0 _ 2 underlying31 hi hz0 hz1 .i64 .i64 _ _ us.length rfl rfl rfl rfl (by rw[hz2];omega) (by unfold maxLen;omega) (by simp) ?_;intro w1 hown hgrow;have HX:=aa (EO hown hgrow);clear hown hgrow);clear hi hz0 hz1 hz2;obtain⟨w2,hb2,hsz,kp,kc,kv,hh⟩:=HX.o;have HB2:=aa hb2;have HK:=aa (Hg hsz (Hg kp (Hg kc kv)));have HH0:=aa hh;clear HX hb2 hsz kp kc kv hh;go_loopw [17] (λi wr=>∃k:Nat,k<=us.length/\i=.int .i64 k/\∃vs:List TV,vs.length=k/\vs.map tm=aT p (bc,be) ((us.take k).map tm)/\dA w2 wr (w.heap.size+1+1) us.length vs) (λi _=>us.length-(intOf i).toNat);case atStart=>exact⟨0,Hl _,rfl,[],rfl,rfl,HH0.o⟩
 case round=>
  clear HH0;obtain⟨wo,hwo⟩:∃wo:World,wo=wr:=⟨_,rfl⟩;subst hwo;obtain⟨k,hk,rfl,vs,hvk,hvt,hh⟩:=hrel;have HH:=aa hh;clear hh;by_cases hk2:k<us.length
  ·obtain⟨b,off,rfl,hlt,hcell⟩:=HCS.o (by omega);have hf:=iw us k hk2;have c0:=hcell _ _ hf.1;have c1:=hcell _ _ hf.2;have HDN:=aa (HH.o.down HB2.o);rw[<-HDN.o.cell (p:=⟨b,off+k*2,none⟩) hlt] at c0;rw[<-Nat.add_assoc,<-HDN.o.cell (p:=⟨b,off+k*2+1,none⟩) hlt] at c1;have HSL:=aa (HES.o _ (eL us k hk2));have HT:=aa (EN p (bc,be) us k hk2);have HLE:=aa (HTS.o _ (eL us k hk2));generalize us.getD k bK=t at c0 c1 HSL HT HLE;obtain⟨tc,tv,te⟩:=t;obtain⟨ea,ec,he,hei⟩:=HSL.o;simp only at c0 c1 he;subst he;subst hvk;have hte:te.length<=3:=by have:=HLE.o.1;simp only at this;omega
   have hte0:0<te.length:=by have:=HLE.o.1;simp only at this;omega
   obtain⟨eb,eoff,rfl,helt,heint⟩:=hei hte0;have HEI:=aa heint;clear hf hcell hei heint;obtain⟨w3,hw3⟩:∃w3,w3=wo.alloc (.cells #[.int .i64 tc,.slice (some ⟨eb,eoff,none⟩) te.length ec] 54):=⟨_,rfl⟩;have hb3:Below wo.heap.size wo w3:=by rw[hw3];exact af
   have hs3:w3.heap.size=wo.heap.size+1:=by rw[hw3];simp
   have q0:w3.cell? ⟨wo.heap.size,0,none⟩=some (.int .i64 tc):=by rw[hw3];simp[go_sem]
   have q1:w3.cell? ⟨wo.heap.size,1,none⟩=some (.slice (some ⟨eb,eoff,none⟩) te.length ec):=by rw[hw3];simp[go_sem]
   have hwl:w.heap.size+1+1<wo.heap.size:=HH.o.lt;have H3:=aa (HH.o.next hb3);have HD3:=aa (HDN.o.trans (hb3.mono HDN.o.size));have HQ:=aa (Hg q0 q1);have HS3:=aa (Hg hs3 hwl);have HB3:=aa hb3;have HW3:=aa hw3;clear q0 q1 hs3 hwl hb3 hw3;have HLZ:=aa (eP (·+·) be te HLE.o.1.symm)
   have hmk:=fun(w:World)=>run_make_row' (P:=prog) 37 3 (.int .i64 0) 8 underlying37 Tryz.info_int rfl .i64 .i64 te.length (by omega) (by omega) w;go_wp2;clear hmk c0 c1;go_loopw [28] (λi wx=>∃j:Nat,j<=te.length/\i=.int .i64 j/\gq w3 wx te.length j (ah (·+·) be te)) (λi _=>te.length-(intOf i).toNat)
   case atStart=>exact⟨0,Hl _,rfl,by rw[HW3.o];exact gq.start _ _ _⟩
   case round=>
    obtain⟨j,hj,rfl,hown⟩:=hrel;have HO:=aa hown;clear hown;by_cases hj2:j<te.length
    ·have hjb:j<be.length:=by have:=HLE.o.1;omega
     have HXD:=aa (HD3.o.trans (HO.o.1.mono HD3.o.size));have x0:=HBI.o j hjb;have x1:=HEI.o j hj2;have HZ:=aa (ky (·+·) be te HLE.o.1.symm j hjb)
     have hx:=HBE.o _ (gl be j hjb);have hy:=HLE.o.2.1 _ (gl te j hj2);generalize be.getD j 0=x at x0 HZ hx;generalize te.getD j 0=y at x1 HZ hy;rw[<-HXD.o.cell (p:=⟨bb,boff+j,none⟩) hblt] at x0;rw[<-HXD.o.cell (p:=⟨eb,eoff+j,none⟩) helt] at x1;have b1:=HK.o.2.2.2;rw[<-H3.o.below.cell (p:=⟨w.heap.size+1,1,none⟩) (by rw[HK.o.1];simp),<-HO.o.1.cell (p:=⟨w.heap.size+1,1,none⟩) (by have:=HS3.o;simp only;omega)] at b1;have b2:=HQ.o.2;rw[<-HO.o.1.cell (p:=⟨wo.heap.size,1,none⟩) (by have:=HS3.o;simp only;omega)] at b2;obtain⟨hsome,hfr⟩:=HO.o.2.2.1 j hj2;rw[HS3.o.1] at hsome hfr;obtain⟨u,hu⟩:=Option.isSome_iff_exists.1 hsome;obtain⟨hx1,hx2⟩:=hx;obtain⟨hy1,hy2⟩:=hy;clear hsome;go_wp2;go_region;all_goals
      go_wp2;go_roundw;case rel=>exact⟨j+1,by omega,by go_num,by have h:=(HO.o.step hj2 _ HZ.o.symm).drawn;rw[HS3.o.1] at h;exact h⟩
      case measure=>simp[intOf];omega
    ·have e:j=te.length:=by omega
     subst e;have HXB:=aa (HB3.o.trans (HO.o.1.mono HB3.o.size));have HHx:=aa (HH.o.next HXB.o);have HSx:Ic (Sl wr (.slice (some ⟨wo.heap.size+1,0,none⟩) te.length te.length) (ah (·+·) be te)):=by
      have h:gq w3 wr (ah (·+·) be te).length (ah (·+·) be te).length (ah (·+·) be te):=by rw[HLZ.o,<-HLE.o.1];exact HO.o
      have h2:=h.sl;rw[HS3.o.1,HLZ.o,<-HLE.o.1] at h2;exact h2
     have b0:=HK.o.2.2.1;rw[<-H3.o.below.cell (p:=⟨w.heap.size+1,0,none⟩) (by rw[HK.o.1];simp),<-HO.o.1.cell (p:=⟨w.heap.size+1,0,none⟩) (by have:=HS3.o;simp only;omega)] at b0;have r0:=HK.o.2.1;rw[<-H3.o.below.cell (p:=⟨w.heap.size,0,none⟩) (by rw[HK.o.1];simp;omega),<-HO.o.1.cell (p:=⟨w.heap.size,0,none⟩) (by have:=HS3.o;simp only;omega)] at r0;have t0:=HQ.o.1;rw[<-HO.o.1.cell (p:=⟨wo.heap.size,0,none⟩) (by have:=HS3.o;simp only;omega)] at t0;obtain⟨x0,x1,y0,y1,z0,z1⟩:=HHx.o.cells hk2;have hmul:=xJ (a:=bc) (b:=tc) ⟨by omega,by omega,HLE.o.2.2.1,by have:=HLE.o.2.2.2;omega⟩;obtain⟨hm1,hm2⟩:=hmul;have HAP:Ic (oX (w.heap.size+1+1) (.slice (some ⟨wo.heap.size+1,0,none⟩) te.length te.length)):=by intro b' off' n' c' e' hb';simp only[H7,H6,Addr.mk.injEq] at e';have:=HS3.o.2;omega
     go_wp2;go_roundw;case rel=>exact⟨vs.length+1,by omega,by go_num,vs++[_],by simp,by rw[List.map_append,hvt,HT.o];rfl,HHx.o.put hk2 (bc*tc%p,_,ah (·+·) be te) HSx.o HAP.o⟩
     case measure=>simp[intOf];omega
  ·have e:k=us.length:=by omega
   subst e;go_wp2;go_ret;refine⟨_,rfl,?_,HH.o.down HB2.o⟩;have h:=HH.o.done hvk;rw[hvt,Hz (He _),HUS.o] at h;exact h
end Go.Proofs.YtglijodcbdcngaaGreat
