/- Rows of terms of the. -/
import Derived.Test.YtjkalahhpobefaaGreatFR
import Derived.Deep.RegionHeld
import Derived.Test.YtjkalahhpobefaaGreatFG
set_option maxHeartbeats 2000000
namespace Go.Proofs.YtjkalahhpobefaaGreat
set_option linter.all false
open Go.Proofs.Tryz Go.RowKit
theorem Tryz.infoTerm:(prog.info? 47).map (λi=>(i.zero,i.size,i.bytes))=some (some (.agg #[PO 0,.slice none 0 0]),2,32):=by kernel_rfl
abbrev TV:=Int×PK×PI
def tm(t:TV):Tm:=(t.1,t.2.2)
def bm(ts:List TV):PH:=ts.flatMap λt=>[PO t.1,t.2.1]
theorem mF(ts:List TV):(bm ts).length=ts.length*2:=by
 induction ts with
 |nil=>rfl
 |cons t ts ih=>simp only[bm,List.flatMap_cons,OM,OZ,List.length_nil] at ih⊢;omega
theorem pM(t:TV)(ts:List TV):bm (t::ts)=PO t.1::t.2.1::bm ts:=rfl
theorem kG(ts us:List TV):bm (ts++us)=bm ts++bm us:=by unfold bm;rw[List.flatMap_append]
def cX:TV:=(0,.slice none 0 0,[])
theorem pN:∀(ts:List TV)(i:Nat),i<ts.length->(bm ts)[i*2]?=some (PO (ts.getD i cX).1)/\(bm ts)[i*2+1]?=some (ts.getD i cX).2.1
 |[],i,h=>by simp at h
 |t::ts,0,h=>by simp[pM]
 |t::ts,i+1,h=>by have:=pN ts i (by simpa using h);rw[pM,show (i+1)*2=i*2+1+1 by omega];simpa using this
theorem JO(ts:List TV)(i:Nat)(h:i<ts.length):(ts.map tm).getD i bV=tm (ts.getD i cX):=by simp[OH,h]
theorem mG(ts:List TV)(i:Nat)(h:i<ts.length):ts.getD i cX∈ts:=by rw[OH,OI h];simp
def Es(w:PJ)(ts:List TV):Prop:=∀t∈ts,Sl w t.2.1 t.2.2
variable{ts:List TV}{w w':PJ}
theorem Es.below(h:Es w ts)(hb:Io w w'):Es w' ts:=λt ht=>(h t ht).below hb
theorem sd(h:Es w ts):∀u∈bm ts,u.oneCell'=true:=by
 intro u hu;simp only[bm,Pk] at hu;obtain⟨t,ht,hu⟩:=hu;simp only[OY,List.not_mem_nil,or_false] at hu;rcases hu with rfl|rfl
 .rfl
 .obtain⟨a,c,e,_⟩:=h t ht;rw[e];rfl
variable{v:PK}{B:Nat}
theorem wE(h:w.ownsRow B 47 2 v ts.length (bm ts))(he:Es w ts):Pl w v (ts.map tm):=by
 rcases h.2 with ⟨h1,h2⟩|⟨g,cap,ag,rfl,hg,hh,hn,hm,hcs,ht⟩
 .refine⟨none,0,by rw[h1];simp[h2],by simp[h2],λhp=>by simp at hp;omega⟩
 .refine⟨_,cap,by rw[OS],by rw[OS];exact hn,λhp=>⟨g,0,rfl,?_,λi hi=>?_⟩⟩
  .apply OU;intro hle;rw[Array.getElem?_eq_none hle] at hh;simp at hh
  .rw[OS] at hi;rw[JO ts i hi];have key:∀j,j<ts.length*2->w.cell? (PN g j)=(bm ts)[j]?:=by
    intro j hj;have h1:(ag.toList.take (ts.length*2))[j]?=(bm ts)[j]?:=by rw[ht]
    rw[List.getElem?_take,OW hj] at h1;rw[<-h1];unfold World.cell?;simp only[hh];simp
   have h2:=pN ts i hi;refine⟨?_,(ts.getD i cX).2.1,?_,he _ (mG ts i hi)⟩
   .rw[ON,key _ (by omega),h2.1];rfl
   .rw[ON,key _ (by omega),h2.2]
theorem Pl.tvs{ts:LT}(h:Pl w v ts):∃(a:Option Addr)(cap:Nat)(us:List TV),v=.slice a us.length cap/\us.length<=cap/\us.map tm=ts/\Es w us/\(0<us.length->∃b off,a=some (PN b off)/\b<w.heap.size/\∀j u,(bm us)[j]?=some u->w.cell? (PN b (off+j))=some u):=by
 obtain⟨a,cap,rfl,hcap,h⟩:=h;by_cases hp:0<ts.length
 .obtain⟨b,off,rfl,hlt,hc⟩:=h hp;obtain⟨V,hV⟩:=Go.Deep.choose_lt (α:=PK) (n:=ts.length) (p:=λi u=>w.cell? ⟨b,off+i*2+1,none⟩=some u/\Sl w u (ts.getD i bV).2) (λi hi=>by
   obtain⟨_,v,h1,h2⟩:=hc i hi;exact⟨v,h1,h2⟩)
  let us:List TV:=(List.range ts.length).map λi=>((ts.getD i bV).1,V i,(ts.getD i bV).2);have hl:us.length=ts.length:=by simp[us]
  have hat:∀i,i<ts.length->us.getD i cX=((ts.getD i bV).1,V i,(ts.getD i bV).2):=λi hi=>by simp[us,OH,hi]
  refine⟨some (PN b off),cap,us,by rw[hl],by rw[hl];exact hcap,?_,?_,λ_=>⟨b,off,rfl,hlt,?_⟩⟩
  .apply List.ext_getElem?;intro i;by_cases hi:i<ts.length
   .simp[us,tm,hi]
   .rw[OJ (by simp;omega),OJ (by omega)]
  .intro t ht;simp only[us,OR,List.mem_range] at ht;obtain⟨i,hi,rfl⟩:=ht;exact(hV i hi).2
  .intro j u hj;have hjl:j<us.length*2:=by rw[<-mF];apply OU;intro hle;rw[OJ hle] at hj;simp at hj
   rw[hl] at hjl;have hi:j/2<ts.length:=by omega
   have hf:=pN us (j/2) (by rw[hl];exact hi);rw[hat _ hi] at hf;by_cases he:j%2=0
   .have e:j/2*2=j:=by omega
    rw[e] at hf;rw[hf.1] at hj;simp only[OP] at hj;subst hj;have:=(hc _ hi).1;rwa [e] at this
   .have e:j/2*2+1=j:=by omega
    rw[e] at hf;rw[hf.2] at hj;simp only[OP] at hj;subst hj;have:=(hV _ hi).1;rwa [Nat.add_assoc,e] at this
 .have e:ts=[]:=O8.1 (by omega);subst e;exact⟨a,cap,[],rfl,OB _,rfl,λt ht=>by simp at ht,λh=>absurd h (by simp)⟩
def sf(g:Nat)(v:PK):Prop:=∀b off n c,v=.slice (some (PN b off)) n c->b≠g
structure ei(w:PJ)(wr:PJ)(g n:Nat)(us:List TV):Prop where
 own:∃rest,wr.ownsRow w.heap.size 47 2 (PM g n n) n (bm us++rest)/\(bm us++rest).length=n*2
 es:Es wr us
 apart:∀t∈us,sf g t.2.1
 below:Io w wr
 ge:w.heap.size<=g
variable{us:List TV}{g n:Nat}{wr:PJ}
theorem ei.next(h:ei w wr g n us)(hb:Io wr w'):ei w w' g n us:=by obtain⟨rest,h1,h2⟩:=h.own;exact⟨⟨rest,aF h1 hb,h2⟩,h.es.below hb,h.apart,In h.below hb,h.ge⟩
theorem ei.lt(h:ei w wr g n us):g<wr.heap.size:=by obtain⟨rest,h1,_⟩:=h.own;exact(Ot h1 g rfl).2
theorem ei.cells(h:ei w wr g n us)(hk:us.length<n):∃a b,wr.cell? ⟨g,us.length*2,none⟩=some a/\wr.cell? ⟨g,us.length*2+1,none⟩=some b/\wr.frozen? ⟨g,us.length*2,none⟩=false/\wr.frozen? ⟨g,us.length*2+1,none⟩=false:=by obtain⟨rest,h1,h2⟩:=h.own;have e1:=h1.cellAt (us.length*2) (by omega);have e2:=h1.cellAt (us.length*2+1) (by omega);rw[OI (by omega)] at e1 e2;exact⟨_,_,e1,e2,h1.frozenAt _,h1.frozenAt _⟩
theorem JP(l:PH)(a b:PK):∀r:PH,2<=r.length->((l++r).set l.length a).set (l.length+1) b=l++[a,b]++r.drop 2
 |[],h=>by simp at h
 |[_],h=>by simp at h
 |x::y::r,_=>by simp[List.set_append_right]
theorem ei.put(h:ei w wr g n us)(hk:us.length<n)(t:TV)(hs:Sl wr t.2.1 t.2.2)(ha:sf g t.2.1):ei w ((wr.setCell ⟨g,us.length*2,none⟩ (PO t.1)).setCell ⟨g,us.length*2+1,none⟩ t.2.1) g n (us++[t]):=by
 obtain⟨rest,h1,h2⟩:=h.own;have s1:=h1.stored (us.length*2) (PO t.1);have s2:=s1.1.stored (us.length*2+1) t.2.1;have hg:=cW s1.2 s2.2;rw[OM,mF] at h2;refine⟨⟨rest.drop 2,?_,?_⟩,?_,?_,h.below.trans (cQ hg h.ge h.below.size),h.ge⟩
 .have e:=JP (bm us) (PO t.1) t.2.1 rest (by omega);rw[mF] at e;have:=s2.1;rw[e] at this;rw[kG];exact this
 .rw[OM,mF,List.length_drop,OM];simp;omega
 .intro u hu;rcases OK.1 hu with hu|hu
  .exact zZ hg (h.es u hu) (h.apart u hu)
  .rw[OL] at hu;subst hu;exact zZ hg hs ha
 .intro u hu;rcases OK.1 hu with hu|hu
  .exact h.apart u hu
  .rw[OL] at hu;subst hu;exact ha
theorem ei.drawn(h:ei w wr g n us):ei w wr.drew g n us:=h.next (Ov _ _).drew
theorem ei.done(h:ei w wr g n us)(hn:us.length=n):Pl wr (PM g n n) (us.map tm):=by obtain⟨rest,h1,h2⟩:=h.own;rw[OM,mF] at h2;have e:rest=[]:=O8.1 (by omega);rw[e,List.append_nil] at h1;subst hn;exact wE h1 h.es
variable{z:Array PK}
theorem ei.made(h:w'.ownsRow w.heap.size 47 2 (PM w.heap.size n n) n (madeCells z (n*2)).toList)(hg:w.grownBy w' none):ei w w' w.heap.size n []:=
 ⟨⟨(madeCells z (n*2)).toList,h,by simp[bm,size_madeCells]⟩,λt ht=>by simp at ht,λt ht=>by simp at ht,⟨hg.os,hg.tape,hg.output,hg.size,λk hk=>hg.block k hk (by simp)⟩,Ou _⟩
theorem B5(us:List TV)(k:Nat)(h:k<us.length):(us.take (k+1)).map tm=(us.take k).map tm++[tm (us.getD k cX)]:=by rw[OX h,O0];simp[OH,h]
theorem cE{T:TypeId}{s:Nat}{xs:PH}(h:w.ownsRow B T s v n xs):∃a c,v=.slice a n c:=by
 rcases h.2 with ⟨h1,h2⟩|⟨g,c,ag,h1,_⟩
 .exact⟨none,0,by rw[h1,h2]⟩
 .exact⟨_,c,h1⟩
variable{zs:PI}
theorem JQ(h:kY w B v zs):Sl w v zs:=by
 obtain⟨_,h|⟨g,cap,ag,rfl,hg,hh,hn,hm,hcs,ht⟩⟩:=h
 .obtain⟨rfl,h0⟩:=h;refine⟨none,0,by rw[h0],λhp=>absurd hp (by omega)⟩
 .refine⟨_,cap,rfl,λ_=>⟨g,0,rfl,?_,λi hi=>?_⟩⟩
  .apply OU;intro hle;rw[Array.getElem?_eq_none hle] at hh;simp at hh
  .have e:ag.toList[i]?=some (PO (zs.getD i 0)):=by
    have h1:(ag.toList.take (zs.length*1))[i]?=(zs.map (Value.int .i64))[i]?:=by rw[ht]
    rw[List.getElem?_take,OW (by omega),List.getElem?_map] at h1;rw[h1,OH,OI hi];rfl
   unfold World.cell?;simp only[hh,ON];simpa using e
theorem JR(h:kY w B v zs)(hg:g<B):sf g v:=by
 intro b off n c e hb;have hv:v.ownBlock=some b:=by rw[e];rfl
 have:=(Ot h b hv).1;omega
theorem JS(v:PK)(ts:LT)(w:PJ)(hm:ts.length<=1200000000000)(hl:∀t∈ts,t.2.length<=400)(hs:Pl w v ts):Calls prog 98 #[v] w λe w'=>∃u,e=.returned u/\Pl w' u ts/\Io w w':=by
 obtain⟨a,cap,us,rfl,_,hus,hes,hcs⟩:=hs.tvs;have hul:us.length=ts.length:=by rw[<-hus,OS]
 have HUS:=ae hus;have HES:=ae hes;have HCS:=ae hcs;have HL:=ae hl;have hm':us.length<=1200000000000:=by omega
 clear hs hus hes hcs hl hm hul;obtain⟨i0,hi,hz0,hz1,hz2⟩:=info_parts Tryz.infoTerm;go_enter func98,ntmps98;go_wp2_with (at_make;refine wpList_make_full _ rfl _ _ 40 rfl w.heap.size 47 i0 _ 2 underlying40 hi hz0 hz1 .i64 .i64 _ _ us.length rfl rfl rfl rfl (by rw[hz2];omega) (by unfold maxLen;omega) (Ou _) ?_;intro w1 hown hgrow;have HH:=ae (ei.made hown hgrow);clear hown hgrow);clear hi hz0 hz1 hz2;go_loopw [11] (λi wr=>∃k:Nat,k<=us.length/\i=PO k/\∃vs:List TV,vs.length=k/\vs.map tm=(us.take k).map tm/\ei w wr w.heap.size us.length vs) (λi _=>us.length-(intOf i).toNat);case atStart=>exact⟨0,OB _,rfl,[],rfl,rfl,HH.o⟩
 case round=>
  clear HH;obtain⟨k,hk,rfl,vs,hvk,hvt,hh⟩:=hrel;have HH:=ae hh;clear hh;by_cases hk2:k<us.length
  .obtain⟨b,off,rfl,hlt,hcell⟩:=HCS.o (by omega);have hf:=pN us k hk2;have c0:=hcell _ _ hf.1;have c1:=hcell _ _ hf.2;rw[<-HH.o.below.cell (p:=⟨b,off+k*2,none⟩) hlt] at c0;rw[<-Nat.add_assoc,<-HH.o.below.cell (p:=⟨b,off+k*2+1,none⟩) hlt] at c1;have HSL:=ae (HES.o _ (mG us k hk2));have HT:=ae (B5 us k hk2);have HLE:=ae (HL.o (tm (us.getD k cX)) (by rw[<-HUS.o];exact List.mem_map_of_mem (mG us k hk2)));generalize us.getD k cX=t at c0 c1 HSL HT HLE;obtain⟨tc,tv,te⟩:=t;obtain⟨ea,ec,he,_⟩:=HSL.o;simp only at c0 c1 he;subst he;subst hvk;clear hf hcell;have H1:=ae (HH.o.next (ai (A:=.cells #[PO tc,.slice ea te.length ec] 47)));have HB1:=ae (In HH.o.below (ai (w:=wr) (A:=.cells #[PO tc,.slice ea te.length ec] 47)));have D0:Po ((wr.alloc (.cells #[PO tc,.slice ea te.length ec] 47)).drew.cell? (PN wr.heap.size 0)=some (PO tc)):=by show _=_;simp[go_sem]
   go_wp2;go_region_with (go_at_call 49;refine(zW _ te _ HLE.o ((HSL.o.below HB1.o).below (Ov _ _).drew)).mono ?_;rintro e w9 ⟨u,rfl,hu,hb9⟩;have HH9:=ae (H1.o.drawn.next hb9);have HU:=ae (Ow (JQ hu) (JR hu (H1.o.drawn.lt)));obtain⟨x0,x1,y0,y1,z0,z1⟩:=HH9.o.cells hk2;have d0:=D0.o;rw[<-hb9.cell (by simp)] at d0;obtain⟨ua,uc,rfl⟩:=cE hu;clear hb9 hu);all_goals
    go_wp2;go_roundw;case rel=>exact⟨vs.length+1,by omega,by go_num,vs++[_],by simp,by rw[O0,hvt,HT.o];rfl,HH9.o.put hk2 (tc,_,te) HU.o.1 HU.o.2⟩
    case measure=>simp[intOf];omega
  .have e:k=us.length:=by omega
   subst e;go_wp2;go_ret;refine⟨_,rfl,?_,HH.o.below⟩;have h:=HH.o.done hvk;rw[hvt,OO (Ou _),HUS.o] at h;exact h
theorem JT(p:Int)(b:Tm)(us:List TV)(k:Nat)(h:k<us.length):cB p b ((us.take (k+1)).map tm)=cB p b ((us.take k).map tm)++[(b.1*(us.getD k cX).1%p,aP (·+·) b.2 (us.getD k cX).2.2)]:=by rw[B5 us k h];simp[cB,tm]
theorem ei.down{w2:PJ}(h:ei w2 wr g n us)(hb:Io w w2):Io w wr:=In hb h.below
theorem JU{a b:Int}(h:0<=a/\a<=101/\0<=b/\b<=101):0<=a*b/\a*b<=10201:=by obtain⟨h1,h2,h3,h4⟩:=h;refine⟨Int.mul_nonneg h1 h3,?_⟩;have:=Int.mul_le_mul h2 h4 h3 (by omega:(0:Int)<=101);omega
theorem JV{w1:PJ}{p n o v bc:Int}{bv:PK}{T1 T2:TypeId}{m:Nat}(h:w1.ownsRow (w.heap.size+1+1) 47 2 (.slice (some ⟨((w.alloc (.cells #[PO p,PO n,PO o,PO v] T1)).alloc (.cells #[PO bc,bv] T2)).heap.size,0,none⟩) m m) m (madeCells z (m*2)).toList)(hg:((w.alloc (.cells #[PO p,PO n,PO o,PO v] T1)).alloc (.cells #[PO bc,bv] T2)).grownBy w1 none):∃w2,Io w w2/\w2.heap.size=w.heap.size+1+1/\w2.cell? (PN w.heap.size 0)=some (PO p)/\w2.cell? (PN (w.heap.size+1) 0)=some (PO bc)/\w2.cell? (PN (w.heap.size+1) 1)=some bv/\ei w2 w1 (w.heap.size+1+1) m []:=by
 refine⟨(w.alloc (.cells #[PO p,PO n,PO o,PO v] T1)).alloc (.cells #[PO bc,bv] T2),cY,by simp,by simp[go_sem],by simp[go_sem],by simp[go_sem],?_⟩;have e:((w.alloc (.cells #[PO p,PO n,PO o,PO v] T1)).alloc (.cells #[PO bc,bv] T2)).heap.size=w.heap.size+1+1:=by simp
 have k:=ei.made (w:=(w.alloc (.cells #[PO p,PO n,PO o,PO v] T1)).alloc (.cells #[PO bc,bv] T2)) (n:=m) (z:=z) (by rw[e];rw[e] at h;exact h) hg;rw[e] at k;exact k
theorem JW(p n o v bc:Int)(bv:PK)(be:PI)(fv:PK)(ts:LT)(w:PJ)(hp:2<=p/\p<=101)(hbc:0<=bc/\bc<p)(h0:0<be.length)(hbl:be.length<=3)(hbe:∀x∈be,0<=x/\x<=20000)(hts:∀t∈ts,t.2.length=be.length/\(∀x∈t.2,0<=x/\x<=20000)/\0<=t.1/\t.1<p)(hm:ts.length<=1200000000000)(hs:Sl w bv be)(hf:Pl w fv ts):Calls prog 130 #[aI p n o v,.agg #[PO bc,bv],fv] w λe w'=>∃u,e=.returned u/\Pl w' u (cB p (bc,be) ts)/\Io w w':=by
 obtain⟨a,cap,us,rfl,_,hus,hes,hcs⟩:=hf.tvs;obtain⟨ba,bcap,rfl,hbs⟩:=hs;obtain⟨bb,boff,rfl,hblt,hbint⟩:=hbs h0;have hul:us.length=ts.length:=by rw[<-hus,OS]
 have HUS:=ae hus;have HES:=ae hes;have HCS:=ae hcs;have HBE:=ae hbe;have HBI:=ae hbint;have HTS:Po (∀t∈us,t.2.2.length=be.length/\(∀x∈t.2.2,0<=x/\x<=20000)/\0<=t.1/\t.1<p):=λt ht=>hts (tm t) (by rw[<-hus];exact List.mem_map_of_mem ht);have hm':us.length<=1200000000000:=by omega
 clear hf hus hes hcs hts hm hul hbs hbe hbint;obtain⟨i0,hi,hz0,hz1,hz2⟩:=info_parts Tryz.infoTerm;obtain⟨hp1,hp2⟩:=hp;obtain⟨hc1,hc2⟩:=hbc;go_enter func130,ntmps130;go_wp2_with (at_make;refine wpList_make_full _ rfl _ _ 40 rfl (w.heap.size+1+1) 47 i0 _ 2 underlying40 hi hz0 hz1 .i64 .i64 _ _ us.length rfl rfl rfl rfl (by rw[hz2];omega) (by unfold maxLen;omega) (by simp) ?_;intro w1 hown hgrow;have HX:=ae (JV hown hgrow);clear hown hgrow);clear hi hz0 hz1 hz2;obtain⟨w2,hb2,hsz,kp,kc,kv,hh⟩:=HX.o;have HB2:=ae hb2;have HK:=ae (Ow hsz (Ow kp (Ow kc kv)));have HH0:=ae hh;clear HX hb2 hsz kp kc kv hh;go_loopw [17] (λi wr=>∃k:Nat,k<=us.length/\i=PO k/\∃vs:List TV,vs.length=k/\vs.map tm=cB p (bc,be) ((us.take k).map tm)/\ei w2 wr (w.heap.size+1+1) us.length vs) (λi _=>us.length-(intOf i).toNat);case atStart=>exact⟨0,OB _,rfl,[],rfl,rfl,HH0.o⟩
 case round=>
  clear HH0;obtain⟨wo,hwo⟩:∃wo:PJ,wo=wr:=⟨_,rfl⟩;subst hwo;obtain⟨k,hk,rfl,vs,hvk,hvt,hh⟩:=hrel;have HH:=ae hh;clear hh;by_cases hk2:k<us.length
  .obtain⟨b,off,rfl,hlt,hcell⟩:=HCS.o (by omega);have hf:=pN us k hk2;have c0:=hcell _ _ hf.1;have c1:=hcell _ _ hf.2;have HDN:=ae (HH.o.down HB2.o);rw[<-HDN.o.cell (p:=⟨b,off+k*2,none⟩) hlt] at c0;rw[<-Nat.add_assoc,<-HDN.o.cell (p:=⟨b,off+k*2+1,none⟩) hlt] at c1;have HSL:=ae (HES.o _ (mG us k hk2));have HT:=ae (JT p (bc,be) us k hk2);have HLE:=ae (HTS.o _ (mG us k hk2));generalize us.getD k cX=t at c0 c1 HSL HT HLE;obtain⟨tc,tv,te⟩:=t;obtain⟨ea,ec,he,hei⟩:=HSL.o;simp only at c0 c1 he;subst he;subst hvk;have hte:te.length<=3:=by have:=HLE.o.1;simp only at this;omega
   have hte0:0<te.length:=by have:=HLE.o.1;simp only at this;omega
   obtain⟨eb,eoff,rfl,helt,heint⟩:=hei hte0;have HEI:=ae heint;clear hf hcell hei heint;obtain⟨w3,hw3⟩:∃w3,w3=wo.alloc (.cells #[PO tc,.slice (some (PN eb eoff)) te.length ec] 47):=⟨_,rfl⟩;have hb3:Io wo w3:=by rw[hw3];exact ai
   have hs3:w3.heap.size=wo.heap.size+1:=by rw[hw3];simp
   have q0:w3.cell? (PN wo.heap.size 0)=some (PO tc):=by rw[hw3];simp[go_sem]
   have q1:w3.cell? (PN wo.heap.size 1)=some (.slice (some (PN eb eoff)) te.length ec):=by rw[hw3];simp[go_sem]
   have hwl:w.heap.size+1+1<wo.heap.size:=HH.o.lt;have H3:=ae (HH.o.next hb3);have HD3:=ae (In HDN.o hb3);have HQ:=ae (Ow q0 q1);have HS3:=ae (Ow hs3 hwl);have HB3:=ae hb3;have HW3:=ae hw3;clear q0 q1 hs3 hwl hb3 hw3;have HLZ:=ae (kC (·+·) be te HLE.o.1.symm)
   have hmk:=fun(w:PJ)=>run_make_row' (P:=prog) 45 3 (PO 0) 8 underlying45 Tryz.info_int rfl .i64 .i64 te.length (by omega) (by omega) w;go_wp2;clear hmk c0 c1;go_loopw [28] (λi wx=>∃j:Nat,j<=te.length/\i=PO j/\iJ w3 wx te.length j (aP (·+·) be te)) (λi _=>te.length-(intOf i).toNat)
   case atStart=>exact⟨0,OB _,rfl,by rw[HW3.o];exact iJ.start _ _ _⟩
   case round=>
    obtain⟨j,hj,rfl,hown⟩:=hrel;have HO:=ae hown;clear hown;by_cases hj2:j<te.length
    .have hjb:j<be.length:=by have:=HLE.o.1;omega
     have HXD:=ae (In HD3.o HO.o.1);have x0:=HBI.o j hjb;have x1:=HEI.o j hj2;have HZ:=ae (Am (·+·) be te HLE.o.1.symm j hjb)
     have hx:=HBE.o _ (mQ be j hjb);have hy:=HLE.o.2.1 _ (mQ te j hj2);generalize be.getD j 0=x at x0 HZ hx;generalize te.getD j 0=y at x1 HZ hy;rw[<-HXD.o.cell (p:=(PN bb (boff+j))) hblt] at x0;rw[<-HXD.o.cell (p:=(PN eb (eoff+j))) helt] at x1;have b1:=HK.o.2.2.2;rw[<-H3.o.below.cell (p:=(PN (w.heap.size+1) 1)) (by rw[HK.o.1];simp),<-HO.o.1.cell (p:=(PN (w.heap.size+1) 1)) (by have:=HS3.o;simp only;omega)] at b1;have b2:=HQ.o.2;rw[<-HO.o.1.cell (p:=(PN wo.heap.size 1)) (by have:=HS3.o;simp only;omega)] at b2;obtain⟨hsome,hfr⟩:=HO.o.2.2.1 j hj2;rw[HS3.o.1] at hsome hfr;obtain⟨u,hu⟩:=Option.isSome_iff_exists.1 hsome;obtain⟨hx1,hx2⟩:=hx;obtain⟨hy1,hy2⟩:=hy;clear hsome;go_wp2;go_region;all_goals
      go_wp2;go_roundw;case rel=>exact⟨j+1,by omega,by go_num,by have h:=(HO.o.step hj2 _ HZ.o.symm).drawn;rw[HS3.o.1] at h;exact h⟩
      case measure=>simp[intOf];omega
    .have e:j=te.length:=by omega
     subst e;have HXB:=ae (In HB3.o HO.o.1);have HHx:=ae (HH.o.next HXB.o);have HSx:Po (Sl wr (PM (wo.heap.size+1) te.length te.length) (aP (·+·) be te)):=by
      have h:iJ w3 wr (aP (·+·) be te).length (aP (·+·) be te).length (aP (·+·) be te):=by rw[HLZ.o,<-HLE.o.1];exact HO.o
      have h2:=h.sl;rw[HS3.o.1,HLZ.o,<-HLE.o.1] at h2;exact h2
     have b0:=HK.o.2.2.1;rw[<-H3.o.below.cell (p:=(PN (w.heap.size+1) 0)) (by rw[HK.o.1];simp),<-HO.o.1.cell (p:=(PN (w.heap.size+1) 0)) (by have:=HS3.o;simp only;omega)] at b0;have r0:=HK.o.2.1;rw[<-H3.o.below.cell (p:=(PN w.heap.size 0)) (by rw[HK.o.1];simp;omega),<-HO.o.1.cell (p:=(PN w.heap.size 0)) (by have:=HS3.o;simp only;omega)] at r0;have t0:=HQ.o.1;rw[<-HO.o.1.cell (p:=(PN wo.heap.size 0)) (by have:=HS3.o;simp only;omega)] at t0;obtain⟨x0,x1,y0,y1,z0,z1⟩:=HHx.o.cells hk2;have hmul:=JU (a:=bc) (b:=tc) ⟨by omega,by omega,HLE.o.2.2.1,by have:=HLE.o.2.2.2;omega⟩;obtain⟨hm1,hm2⟩:=hmul;have HAP:Po (sf (w.heap.size+1+1) (PM (wo.heap.size+1) te.length te.length)):=by intro b' off' n' c' e' hb';simp only[OQ,OP,Addr.mk.injEq] at e';have:=HS3.o.2;omega
     go_wp2;go_roundw;case rel=>exact⟨vs.length+1,by omega,by go_num,vs++[_],by simp,by rw[O0,hvt,HT.o];rfl,HHx.o.put hk2 (bc*tc%p,_,aP (·+·) be te) HSx.o HAP.o⟩
     case measure=>simp[intOf];omega
  .have e:k=us.length:=by omega
   subst e;go_wp2;go_ret;refine⟨_,rfl,?_,HH.o.down HB2.o⟩;have h:=HH.o.done hvk;rw[hvt,OO (Ou _),HUS.o] at h;exact h
end Go.Proofs.YtjkalahhpobefaaGreat
