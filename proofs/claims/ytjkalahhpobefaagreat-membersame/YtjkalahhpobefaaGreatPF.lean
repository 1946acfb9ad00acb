/- Rows of terms of the call's own. -/
import Derived.Test.YtjkalahhpobefaaGreatFR
import Derived.Deep.RegionHeld
import Derived.Test.YtjkalahhpobefaaGreatFG
set_option maxHeartbeats 2000000
namespace Go.Proofs.YtjkalahhpobefaaGreat
set_option linter.all false
open Go.Proofs.Tryz Go.RowKit
theorem Tryz.infoTerm:(prog.info? 47).map (λi=>(i.zero,i.size,i.bytes))=some (some (.agg #[OW 0,.slice none 0 0]),2,32):=by kernel_rfl
abbrev TV:=Int×OR×OP
def tm(t:TV):Tm:=(t.1,t.2.2)
def bj(ts:List TV):OO:=ts.flatMap λt=>[OW t.1,t.2.1]
theorem mt(ts:List TV):(bj ts).length=ts.length*2:=by
 induction ts with
 |nil=>rfl
 |cons t ts ih=>simp only[bj,List.flatMap_cons,N3,Oh,List.length_nil] at ih⊢;omega
theorem pA(t:TV)(ts:List TV):bj (t::ts)=OW t.1::t.2.1::bj ts:=rfl
theorem kC(ts us:List TV):bj (ts++us)=bj ts++bj us:=by unfold bj;rw[List.flatMap_append]
def dh:TV:=(0,.slice none 0 0,[])
theorem pB:∀(ts:List TV)(i:Nat),i<ts.length->(bj ts)[i*2]?=some (OW (ts.getD i dh).1)/\(bj ts)[i*2+1]?=some (ts.getD i dh).2.1
 |[],i,h=>by simp at h
 |t::ts,0,h=>by simp[pA]
 |t::ts,i+1,h=>by have:=pB ts i (by simpa using h);rw[pA,show (i+1)*2=i*2+1+1 by omega];simpa using this
theorem Jf(ts:List TV)(i:Nat)(h:i<ts.length):(ts.map tm).getD i bH=tm (ts.getD i dh):=by simp[NY,h]
theorem mu(ts:List TV)(i:Nat)(h:i<ts.length):ts.getD i dh∈ts:=by rw[NY,NZ h];simp
def Es(w:OQ)(ts:List TV):Prop:=∀t∈ts,Sl w t.2.1 t.2.2
variable{ts:List TV}{w w':OQ}
theorem Es.below(h:Es w ts)(hb:LT w w'):Es w' ts:=λt ht=>(h t ht).below hb
theorem rQ(h:Es w ts):∀u∈bj ts,u.oneCell'=true:=by
 intro u hu;simp only[bj,OB] at hu;obtain⟨t,ht,hu⟩:=hu;simp only[Og,List.not_mem_nil,or_false] at hu;rcases hu with rfl|rfl
 .rfl
 .obtain⟨a,c,e,_⟩:=h t ht;rw[e];rfl
variable{v:OR}{B:Nat}
theorem vS(h:w.ownsRow B 47 2 v ts.length (bj ts))(he:Es w ts):Pl w v (ts.map tm):=by
 rcases h.2 with ⟨h1,h2⟩|⟨g,cap,ag,rfl,hg,hh,hn,hm,hcs,ht⟩
 .refine⟨none,0,by rw[h1];simp[h2],by simp[h2],λhp=>by simp at hp;omega⟩
 .refine⟨_,cap,by rw[Oa],by rw[Oa];exact hn,λhp=>⟨g,0,rfl,?_,λi hi=>?_⟩⟩
  .apply Ob;intro hle;rw[Array.getElem?_eq_none hle] at hh;simp at hh
  .rw[Oa] at hi;rw[Jf ts i hi];have key:∀j,j<ts.length*2->w.cell? (OV g j)=(bj ts)[j]?:=by
    intro j hj;have h1:(ag.toList.take (ts.length*2))[j]?=(bj ts)[j]?:=by rw[ht]
    rw[List.getElem?_take,Oe hj] at h1;rw[<-h1];unfold World.cell?;simp only[hh];simp
   have h2:=pB ts i hi;refine⟨?_,(ts.getD i dh).2.1,?_,he _ (mu ts i hi)⟩
   .rw[N4,key _ (by omega),h2.1];rfl
   .rw[N4,key _ (by omega),h2.2]
theorem Pl.tvs{ts:Lt}(h:Pl w v ts):∃(a:Option Addr)(cap:Nat)(us:List TV),v=.slice a us.length cap/\us.length<=cap/\us.map tm=ts/\Es w us/\(0<us.length->∃b off,a=some (OV b off)/\b<w.heap.size/\∀j u,(bj us)[j]?=some u->w.cell? (OV b (off+j))=some u):=by
 obtain⟨a,cap,rfl,hcap,h⟩:=h;by_cases hp:0<ts.length
 .obtain⟨b,off,rfl,hlt,hc⟩:=h hp;obtain⟨V,hV⟩:=Go.Deep.choose_lt (α:=OR) (n:=ts.length) (p:=λi u=>w.cell? ⟨b,off+i*2+1,none⟩=some u/\Sl w u (ts.getD i bH).2) (λi hi=>by
   obtain⟨_,v,h1,h2⟩:=hc i hi;exact⟨v,h1,h2⟩)
  let us:List TV:=(List.range ts.length).map λi=>((ts.getD i bH).1,V i,(ts.getD i bH).2);have hl:us.length=ts.length:=by simp[us]
  have hat:∀i,i<ts.length->us.getD i dh=((ts.getD i bH).1,V i,(ts.getD i bH).2):=λi hi=>by simp[us,NY,hi]
  refine⟨some (OV b off),cap,us,by rw[hl],by rw[hl];exact hcap,?_,?_,λ_=>⟨b,off,rfl,hlt,?_⟩⟩
  .apply List.ext_getElem?;intro i;by_cases hi:i<ts.length
   .simp[us,tm,hi]
   .rw[N0 (by simp;omega),N0 (by omega)]
  .intro t ht;simp only[us,N9,List.mem_range] at ht;obtain⟨i,hi,rfl⟩:=ht;exact(hV i hi).2
  .intro j u hj;have hjl:j<us.length*2:=by rw[<-mt];apply Ob;intro hle;rw[N0 hle] at hj;simp at hj
   rw[hl] at hjl;have hi:j/2<ts.length:=by omega
   have hf:=pB us (j/2) (by rw[hl];exact hi);rw[hat _ hi] at hf;by_cases he:j%2=0
   .have e:j/2*2=j:=by omega
    rw[e] at hf;rw[hf.1] at hj;simp only[N7] at hj;subst hj;have:=(hc _ hi).1;rwa [e] at this
   .have e:j/2*2+1=j:=by omega
    rw[e] at hf;rw[hf.2] at hj;simp only[N7] at hj;subst hj;have:=(hV _ hi).1;rwa [Nat.add_assoc,e] at this
 .have e:ts=[]:=Oq.1 (by omega);subst e;exact⟨a,cap,[],rfl,NS _,rfl,λt ht=>by simp at ht,λh=>absurd h (by simp)⟩
def rR(g:Nat)(v:OR):Prop:=∀b off n c,v=.slice (some (OV b off)) n c->b≠g
structure eo(w:OQ)(wr:OQ)(g n:Nat)(us:List TV):Prop where
 own:∃rest,wr.ownsRow w.heap.size 47 2 (OU g n n) n (bj us++rest)/\(bj us++rest).length=n*2
 es:Es wr us
 apart:∀t∈us,rR g t.2.1
 below:LT w wr
 ge:w.heap.size<=g
variable{us:List TV}{g n:Nat}{wr:OQ}
theorem eo.next(h:eo w wr g n us)(hb:LT wr w'):eo w w' g n us:=by obtain⟨rest,h1,h2⟩:=h.own;exact⟨⟨rest,aF h1 hb,h2⟩,h.es.below hb,h.apart,Io h.below hb,h.ge⟩
theorem eo.lt(h:eo w wr g n us):g<wr.heap.size:=by obtain⟨rest,h1,_⟩:=h.own;exact(NK h1 g rfl).2
theorem eo.cells(h:eo w wr g n us)(hk:us.length<n):∃a b,wr.cell? ⟨g,us.length*2,none⟩=some a/\wr.cell? ⟨g,us.length*2+1,none⟩=some b/\wr.frozen? ⟨g,us.length*2,none⟩=false/\wr.frozen? ⟨g,us.length*2+1,none⟩=false:=by obtain⟨rest,h1,h2⟩:=h.own;have e1:=h1.cellAt (us.length*2) (by omega);have e2:=h1.cellAt (us.length*2+1) (by omega);rw[NZ (by omega)] at e1 e2;exact⟨_,_,e1,e2,h1.frozenAt _,h1.frozenAt _⟩
theorem Jg(l:OO)(a b:OR):∀r:OO,2<=r.length->((l++r).set l.length a).set (l.length+1) b=l++[a,b]++r.drop 2
 |[],h=>by simp at h
 |[_],h=>by simp at h
 |x::y::r,_=>by simp[List.set_append_right]
theorem eo.put(h:eo w wr g n us)(hk:us.length<n)(t:TV)(hs:Sl wr t.2.1 t.2.2)(ha:rR g t.2.1):eo w ((wr.setCell ⟨g,us.length*2,none⟩ (OW t.1)).setCell ⟨g,us.length*2+1,none⟩ t.2.1) g n (us++[t]):=by
 obtain⟨rest,h1,h2⟩:=h.own;have s1:=h1.stored (us.length*2) (OW t.1);have s2:=s1.1.stored (us.length*2+1) t.2.1;have hg:=cZ s1.2 s2.2;rw[N3,mt] at h2;refine⟨⟨rest.drop 2,?_,?_⟩,?_,?_,h.below.trans (cV hg h.ge h.below.size),h.ge⟩
 .have e:=Jg (bj us) (OW t.1) t.2.1 rest (by omega);rw[mt] at e;have:=s2.1;rw[e] at this;rw[kC];exact this
 .rw[N3,mt,List.length_drop,N3];simp;omega
 .intro u hu;rcases N1.1 hu with hu|hu
  .exact zN hg (h.es u hu) (h.apart u hu)
  .rw[N2] at hu;subst hu;exact zN hg hs ha
 .intro u hu;rcases N1.1 hu with hu|hu
  .exact h.apart u hu
  .rw[N2] at hu;subst hu;exact ha
theorem eo.drawn(h:eo w wr g n us):eo w wr.drew g n us:=h.next (NM _ _).drew
theorem eo.done(h:eo w wr g n us)(hn:us.length=n):Pl wr (OU g n n) (us.map tm):=by obtain⟨rest,h1,h2⟩:=h.own;rw[N3,mt] at h2;have e:rest=[]:=Oq.1 (by omega);rw[e,List.append_nil] at h1;subst hn;exact vS h1 h.es
variable{z:Array OR}
theorem eo.made(h:w'.ownsRow w.heap.size 47 2 (OU w.heap.size n n) n (madeCells z (n*2)).toList)(hg:w.grownBy w' none):eo w w' w.heap.size n []:=
 ⟨⟨(madeCells z (n*2)).toList,h,by simp[bj,size_madeCells]⟩,λt ht=>by simp at ht,λt ht=>by simp at ht,⟨hg.os,hg.tape,hg.output,hg.size,λk hk=>hg.block k hk (by simp)⟩,NL _⟩
theorem BG(us:List TV)(k:Nat)(h:k<us.length):(us.take (k+1)).map tm=(us.take k).map tm++[tm (us.getD k dh)]:=by rw[Of h,Oi];simp[NY,h]
theorem cQ{T:TypeId}{s:Nat}{xs:OO}(h:w.ownsRow B T s v n xs):∃a c,v=.slice a n c:=by
 rcases h.2 with ⟨h1,h2⟩|⟨g,c,ag,h1,_⟩
 .exact⟨none,0,by rw[h1,h2]⟩
 .exact⟨_,c,h1⟩
variable{zs:OP}
theorem Jh(h:kU w B v zs):Sl w v zs:=by
 obtain⟨_,h|⟨g,cap,ag,rfl,hg,hh,hn,hm,hcs,ht⟩⟩:=h
 .obtain⟨rfl,h0⟩:=h;refine⟨none,0,by rw[h0],λhp=>absurd hp (by omega)⟩
 .refine⟨_,cap,rfl,λ_=>⟨g,0,rfl,?_,λi hi=>?_⟩⟩
  .apply Ob;intro hle;rw[Array.getElem?_eq_none hle] at hh;simp at hh
  .have e:ag.toList[i]?=some (OW (zs.getD i 0)):=by
    have h1:(ag.toList.take (zs.length*1))[i]?=(zs.map (Value.int .i64))[i]?:=by rw[ht]
    rw[List.getElem?_take,Oe (by omega),List.getElem?_map] at h1;rw[h1,NY,NZ hi];rfl
   unfold World.cell?;simp only[hh,N4];simpa using e
theorem Ji(h:kU w B v zs)(hg:g<B):rR g v:=by
 intro b off n c e hb;have hv:v.ownBlock=some b:=by rw[e];rfl
 have:=(NK h b hv).1;omega
theorem Jj(v:OR)(ts:Lt)(w:OQ)(hm:ts.length<=1200000000000)(hl:∀t∈ts,t.2.length<=400)(hs:Pl w v ts):Calls prog 98 #[v] w λe w'=>∃u,e=.returned u/\Pl w' u ts/\LT w w':=by
 obtain⟨a,cap,us,rfl,_,hus,hes,hcs⟩:=hs.tvs;have hul:us.length=ts.length:=by rw[<-hus,Oa]
 have HUS:=ae hus;have HES:=ae hes;have HCS:=ae hcs;have HL:=ae hl;have hm':us.length<=1200000000000:=by omega
 clear hs hus hes hcs hl hm hul;obtain⟨i0,hi,hz0,hz1,hz2⟩:=info_parts Tryz.infoTerm;go_enter func98,ntmps98;go_wp2_with (at_make;refine wpList_make_full _ rfl _ _ 40 rfl w.heap.size 47 i0 _ 2 underlying40 hi hz0 hz1 .i64 .i64 _ _ us.length rfl rfl rfl rfl (by rw[hz2];omega) (by unfold maxLen;omega) (NL _) ?_;intro w1 hown hgrow;have HH:=ae (eo.made hown hgrow);clear hown hgrow);clear hi hz0 hz1 hz2;go_loopw [11] (λi wr=>∃k:Nat,k<=us.length/\i=OW k/\∃vs:List TV,vs.length=k/\vs.map tm=(us.take k).map tm/\eo w wr w.heap.size us.length vs) (λi _=>us.length-(intOf i).toNat);case atStart=>exact⟨0,NS _,rfl,[],rfl,rfl,HH.o⟩
 case round=>
  clear HH;obtain⟨k,hk,rfl,vs,hvk,hvt,hh⟩:=hrel;have HH:=ae hh;clear hh;by_cases hk2:k<us.length
  .obtain⟨b,off,rfl,hlt,hcell⟩:=HCS.o (by omega);have hf:=pB us k hk2;have c0:=hcell _ _ hf.1;have c1:=hcell _ _ hf.2;rw[<-HH.o.below.cell (p:=⟨b,off+k*2,none⟩) hlt] at c0;rw[<-Nat.add_assoc,<-HH.o.below.cell (p:=⟨b,off+k*2+1,none⟩) hlt] at c1;have HSL:=ae (HES.o _ (mu us k hk2));have HT:=ae (BG us k hk2);have HLE:=ae (HL.o (tm (us.getD k dh)) (by rw[<-HUS.o];exact List.mem_map_of_mem (mu us k hk2)));generalize us.getD k dh=t at c0 c1 HSL HT HLE;obtain⟨tc,tv,te⟩:=t;obtain⟨ea,ec,he,_⟩:=HSL.o;simp only at c0 c1 he;subst he;subst hvk;clear hf hcell;have H1:=ae (HH.o.next (ai (A:=.cells #[OW tc,.slice ea te.length ec] 47)));have HB1:=ae (Io HH.o.below (ai (w:=wr) (A:=.cells #[OW tc,.slice ea te.length ec] 47)));have D0:OE ((wr.alloc (.cells #[OW tc,.slice ea te.length ec] 47)).drew.cell? (OV wr.heap.size 0)=some (OW tc)):=by show _=_;simp[go_sem]
   go_wp2;go_region_with (go_at_call 49;refine(FH _ te _ HLE.o ((HSL.o.below HB1.o).below (NM _ _).drew)).mono ?_;rintro e w9 ⟨u,rfl,hu,hb9⟩;have HH9:=ae (H1.o.drawn.next hb9);have HU:=ae (NN (Jh hu) (Ji hu (H1.o.drawn.lt)));obtain⟨x0,x1,y0,y1,z0,z1⟩:=HH9.o.cells hk2;have d0:=D0.o;rw[<-hb9.cell (by simp)] at d0;obtain⟨ua,uc,rfl⟩:=cQ hu;clear hb9 hu);all_goals
    go_wp2;go_roundw;case rel=>exact⟨vs.length+1,by omega,by go_num,vs++[_],by simp,by rw[Oi,hvt,HT.o];rfl,HH9.o.put hk2 (tc,_,te) HU.o.1 HU.o.2⟩
    case measure=>simp[intOf];omega
  .have e:k=us.length:=by omega
   subst e;go_wp2;go_ret;refine⟨_,rfl,?_,HH.o.below⟩;have h:=HH.o.done hvk;rw[hvt,N5 (NL _),HUS.o] at h;exact h
theorem Jk(p:Int)(b:Tm)(us:List TV)(k:Nat)(h:k<us.length):cG p b ((us.take (k+1)).map tm)=cG p b ((us.take k).map tm)++[(b.1*(us.getD k dh).1%p,aP (·+·) b.2 (us.getD k dh).2.2)]:=by rw[BG us k h];simp[cG,tm]
theorem eo.down{w2:OQ}(h:eo w2 wr g n us)(hb:LT w w2):LT w wr:=Io hb h.below
theorem Jl{a b:Int}(h:0<=a/\a<=101/\0<=b/\b<=101):0<=a*b/\a*b<=10201:=by obtain⟨h1,h2,h3,h4⟩:=h;refine⟨Int.mul_nonneg h1 h3,?_⟩;have:=Int.mul_le_mul h2 h4 h3 (by omega:(0:Int)<=101);omega
theorem Jm{w1:OQ}{p n o v bc:Int}{bv:OR}{T1 T2:TypeId}{m:Nat}(h:w1.ownsRow (w.heap.size+1+1) 47 2 (.slice (some ⟨((w.alloc (.cells #[OW p,OW n,OW o,OW v] T1)).alloc (.cells #[OW bc,bv] T2)).heap.size,0,none⟩) m m) m (madeCells z (m*2)).toList)(hg:((w.alloc (.cells #[OW p,OW n,OW o,OW v] T1)).alloc (.cells #[OW bc,bv] T2)).grownBy w1 none):∃w2,LT w w2/\w2.heap.size=w.heap.size+1+1/\w2.cell? (OV w.heap.size 0)=some (OW p)/\w2.cell? (OV (w.heap.size+1) 0)=some (OW bc)/\w2.cell? (OV (w.heap.size+1) 1)=some bv/\eo w2 w1 (w.heap.size+1+1) m []:=by
 refine⟨(w.alloc (.cells #[OW p,OW n,OW o,OW v] T1)).alloc (.cells #[OW bc,bv] T2),dR,by simp,by simp[go_sem],by simp[go_sem],by simp[go_sem],?_⟩;have e:((w.alloc (.cells #[OW p,OW n,OW o,OW v] T1)).alloc (.cells #[OW bc,bv] T2)).heap.size=w.heap.size+1+1:=by simp
 have k:=eo.made (w:=(w.alloc (.cells #[OW p,OW n,OW o,OW v] T1)).alloc (.cells #[OW bc,bv] T2)) (n:=m) (z:=z) (by rw[e];rw[e] at h;exact h) hg;rw[e] at k;exact k
theorem Jn(p n o v bc:Int)(bv:OR)(be:OP)(fv:OR)(ts:Lt)(w:OQ)(hp:2<=p/\p<=101)(hbc:0<=bc/\bc<p)(h0:0<be.length)(hbl:be.length<=3)(hbe:∀x∈be,0<=x/\x<=20000)(hts:∀t∈ts,t.2.length=be.length/\(∀x∈t.2,0<=x/\x<=20000)/\0<=t.1/\t.1<p)(hm:ts.length<=1200000000000)(hs:Sl w bv be)(hf:Pl w fv ts):Calls prog 130 #[aI p n o v,.agg #[OW bc,bv],fv] w λe w'=>∃u,e=.returned u/\Pl w' u (cG p (bc,be) ts)/\LT w w':=by
 obtain⟨a,cap,us,rfl,_,hus,hes,hcs⟩:=hf.tvs;obtain⟨ba,bcap,rfl,hbs⟩:=hs;obtain⟨bb,boff,rfl,hblt,hbint⟩:=hbs h0;have hul:us.length=ts.length:=by rw[<-hus,Oa]
 have HUS:=ae hus;have HES:=ae hes;have HCS:=ae hcs;have HBE:=ae hbe;have HBI:=ae hbint;have HTS:OE (∀t∈us,t.2.2.length=be.length/\(∀x∈t.2.2,0<=x/\x<=20000)/\0<=t.1/\t.1<p):=λt ht=>hts (tm t) (by rw[<-hus];exact List.mem_map_of_mem ht);have hm':us.length<=1200000000000:=by omega
 clear hf hus hes hcs hts hm hul hbs hbe hbint;obtain⟨i0,hi,hz0,hz1,hz2⟩:=info_parts Tryz.infoTerm;obtain⟨hp1,hp2⟩:=hp;obtain⟨hc1,hc2⟩:=hbc;go_enter func130,ntmps130;go_wp2_with (at_make;refine wpList_make_full _ rfl _ _ 40 rfl (w.heap.size+1+1) 47 i0 _ 2 underlying40 hi hz0 hz1 .i64 .i64 _ _ us.length rfl rfl rfl rfl (by rw[hz2];omega) (by unfold maxLen;omega) (by simp) ?_;intro w1 hown hgrow;have HX:=ae (Jm hown hgrow);clear hown hgrow);clear hi hz0 hz1 hz2;obtain⟨w2,hb2,hsz,kp,kc,kv,hh⟩:=HX.o;have HB2:=ae hb2;have HK:=ae (NN hsz (NN kp (NN kc kv)));have HH0:=ae hh;clear HX hb2 hsz kp kc kv hh;go_loopw [17] (λi wr=>∃k:Nat,k<=us.length/\i=OW k/\∃vs:List TV,vs.length=k/\vs.map tm=cG p (bc,be) ((us.take k).map tm)/\eo w2 wr (w.heap.size+1+1) us.length vs) (λi _=>us.length-(intOf i).toNat);case atStart=>exact⟨0,NS _,rfl,[],rfl,rfl,HH0.o⟩
 case round=>
  clear HH0;obtain⟨wo,hwo⟩:∃wo:OQ,wo=wr:=⟨_,rfl⟩;subst hwo;obtain⟨k,hk,rfl,vs,hvk,hvt,hh⟩:=hrel;have HH:=ae hh;clear hh;by_cases hk2:k<us.length
  .obtain⟨b,off,rfl,hlt,hcell⟩:=HCS.o (by omega);have hf:=pB us k hk2;have c0:=hcell _ _ hf.1;have c1:=hcell _ _ hf.2;have HDN:=ae (HH.o.down HB2.o);rw[<-HDN.o.cell (p:=⟨b,off+k*2,none⟩) hlt] at c0;rw[<-Nat.add_assoc,<-HDN.o.cell (p:=⟨b,off+k*2+1,none⟩) hlt] at c1;have HSL:=ae (HES.o _ (mu us k hk2));have HT:=ae (Jk p (bc,be) us k hk2);have HLE:=ae (HTS.o _ (mu us k hk2));generalize us.getD k dh=t at c0 c1 HSL HT HLE;obtain⟨tc,tv,te⟩:=t;obtain⟨ea,ec,he,hei⟩:=HSL.o;simp only at c0 c1 he;subst he;subst hvk;have hte:te.length<=3:=by have:=HLE.o.1;simp only at this;omega
   have hte0:0<te.length:=by have:=HLE.o.1;simp only at this;omega
   obtain⟨eb,eoff,rfl,helt,heint⟩:=hei hte0;have HEI:=ae heint;clear hf hcell hei heint;obtain⟨w3,hw3⟩:∃w3,w3=wo.alloc (.cells #[OW tc,.slice (some (OV eb eoff)) te.length ec] 47):=⟨_,rfl⟩;have hb3:LT wo w3:=by rw[hw3];exact ai
   have hs3:w3.heap.size=wo.heap.size+1:=by rw[hw3];simp
   have q0:w3.cell? (OV wo.heap.size 0)=some (OW tc):=by rw[hw3];simp[go_sem]
   have q1:w3.cell? (OV wo.heap.size 1)=some (.slice (some (OV eb eoff)) te.length ec):=by rw[hw3];simp[go_sem]
   have hwl:w.heap.size+1+1<wo.heap.size:=HH.o.lt;have H3:=ae (HH.o.next hb3);have HD3:=ae (Io HDN.o hb3);have HQ:=ae (NN q0 q1);have HS3:=ae (NN hs3 hwl);have HB3:=ae hb3;have HW3:=ae hw3;clear q0 q1 hs3 hwl hb3 hw3;have HLZ:=ae (ky (·+·) be te HLE.o.1.symm)
   have hmk:=fun(w:OQ)=>run_make_row' (P:=prog) 45 3 (OW 0) 8 underlying45 Tryz.info_int rfl .i64 .i64 te.length (by omega) (by omega) w;go_wp2;clear hmk c0 c1;go_loopw [28] (λi wx=>∃j:Nat,j<=te.length/\i=OW j/\iK w3 wx te.length j (aP (·+·) be te)) (λi _=>te.length-(intOf i).toNat)
   case atStart=>exact⟨0,NS _,rfl,by rw[HW3.o];exact iK.start _ _ _⟩
   case round=>
    obtain⟨j,hj,rfl,hown⟩:=hrel;have HO:=ae hown;clear hown;by_cases hj2:j<te.length
    .have hjb:j<be.length:=by have:=HLE.o.1;omega
     have HXD:=ae (Io HD3.o HO.o.1);have x0:=HBI.o j hjb;have x1:=HEI.o j hj2;have HZ:=ae (Ac (·+·) be te HLE.o.1.symm j hjb)
     have hx:=HBE.o _ (lP be j hjb);have hy:=HLE.o.2.1 _ (lP te j hj2);generalize be.getD j 0=x at x0 HZ hx;generalize te.getD j 0=y at x1 HZ hy;rw[<-HXD.o.cell (p:=(OV bb (boff+j))) hblt] at x0;rw[<-HXD.o.cell (p:=(OV eb (eoff+j))) helt] at x1;have b1:=HK.o.2.2.2;rw[<-H3.o.below.cell (p:=(OV (w.heap.size+1) 1)) (by rw[HK.o.1];simp),<-HO.o.1.cell (p:=(OV (w.heap.size+1) 1)) (by have:=HS3.o;simp only;omega)] at b1;have b2:=HQ.o.2;rw[<-HO.o.1.cell (p:=(OV wo.heap.size 1)) (by have:=HS3.o;simp only;omega)] at b2;obtain⟨hsome,hfr⟩:=HO.o.2.2.1 j hj2;rw[HS3.o.1] at hsome hfr;obtain⟨u,hu⟩:=Option.isSome_iff_exists.1 hsome;obtain⟨hx1,hx2⟩:=hx;obtain⟨hy1,hy2⟩:=hy;clear hsome;go_wp2;go_region;all_goals
      go_wp2;go_roundw;case rel=>exact⟨j+1,by omega,by go_num,by have h:=(HO.o.step hj2 _ HZ.o.symm).drawn;rw[HS3.o.1] at h;exact h⟩
      case measure=>simp[intOf];omega
    .have e:j=te.length:=by omega
     subst e;have HXB:=ae (Io HB3.o HO.o.1);have HHx:=ae (HH.o.next HXB.o);have HSx:OE (Sl wr (OU (wo.heap.size+1) te.length te.length) (aP (·+·) be te)):=by
      have h:iK w3 wr (aP (·+·) be te).length (aP (·+·) be te).length (aP (·+·) be te):=by rw[HLZ.o,<-HLE.o.1];exact HO.o
      have h2:=h.sl;rw[HS3.o.1,HLZ.o,<-HLE.o.1] at h2;exact h2
     have b0:=HK.o.2.2.1;rw[<-H3.o.below.cell (p:=(OV (w.heap.size+1) 0)) (by rw[HK.o.1];simp),<-HO.o.1.cell (p:=(OV (w.heap.size+1) 0)) (by have:=HS3.o;simp only;omega)] at b0;have r0:=HK.o.2.1;rw[<-H3.o.below.cell (p:=(OV w.heap.size 0)) (by rw[HK.o.1];simp;omega),<-HO.o.1.cell (p:=(OV w.heap.size 0)) (by have:=HS3.o;simp only;omega)] at r0;have t0:=HQ.o.1;rw[<-HO.o.1.cell (p:=(OV wo.heap.size 0)) (by have:=HS3.o;simp only;omega)] at t0;obtain⟨x0,x1,y0,y1,z0,z1⟩:=HHx.o.cells hk2;have hmul:=Jl (a:=bc) (b:=tc) ⟨by omega,by omega,HLE.o.2.2.1,by have:=HLE.o.2.2.2;omega⟩;obtain⟨hm1,hm2⟩:=hmul;have HAP:OE (rR (w.heap.size+1+1) (OU (wo.heap.size+1) te.length te.length)):=by intro b' off' n' c' e' hb';simp only[N8,N7,Addr.mk.injEq] at e';have:=HS3.o.2;omega
     go_wp2;go_roundw;case rel=>exact⟨vs.length+1,by omega,by go_num,vs++[_],by simp,by rw[Oi,hvt,HT.o];rfl,HHx.o.put hk2 (bc*tc%p,_,aP (·+·) be te) HSx.o HAP.o⟩
     case measure=>simp[intOf];omega
  .have e:k=us.length:=by omega
   subst e;go_wp2;go_ret;refine⟨_,rfl,?_,HH.o.down HB2.o⟩;have h:=HH.o.done hvk;rw[hvt,N5 (NL _),HUS.o] at h;exact h
end Go.Proofs.YtjkalahhpobefaaGreat
