/- All monomials of a degree, one after the other: hilbert.monomials. -/
import Derived.Test.YteimdcndjjclnaaGreatMA
import Derived.Test.YteimdcndjjclnaaGreatBA
import Derived.Shelf.RegionOpen
import Derived.OwnWalkIn
import Derived.LoopNIn
import Derived.LoopIn
set_option maxHeartbeats 4000000
set_option maxRecDepth 100000
namespace Go.Proofs.YteimdcndjjclnaaGreat
set_option linter.all false
open Go.Proofs.Tryz Go.RowKit Go.Shelf
attribute [local go_sem] Oper.semAt_some
def xV(e:Gb.Mo):Value:=.agg #[.int .u16 e.1,.int .u16 e.2.1,.int .u16 e.2.2,.int .u16 0]
def b9(i k:Nat)(e:Gb.Mo):Gb.Mo:=if i=1 then (e.1,k,e.2.2) else (e.1,e.2.1,k)
def cK:Nat->Nat->List Gb.Mo
 |0,_=>[]
 |1,d=>[(d,0,0)]
 |n+2,d=>(List.range (d+1)).flatMap λk=>(cK (n+1) (d-k)).map (b9 (n+1) k)
def bq(n:Nat)(d:Int):List Gb.Mo:=if d<0 then [] else cK n d.toNat
theorem zU(n d:Int)(w:World):Calls prog 35 #[.int .i64 n,.int .i64 d] w λe w'=>e=.returned (.func (.func 60) #[] #[.pointer (some ⟨w.heap.size,0,none⟩),.pointer (some ⟨w.heap.size+1,0,none⟩)])/\w'=(w.alloc (.cells #[.int .i64 n] 3)).alloc (.cells #[.int .i64 d] 3):=by go_enter func35,ntmps35;go_wp2;go_ret;exact⟨by simp,rfl⟩
theorem zW(bn bd n₀:Nat)(d:Int)(hd0:0<=d)(hd:d<=16000)(w:World)(_:n₀<=bn)(_:n₀<=bd)(hbn:bn<w.heap.size)(hbd:bd<w.heap.size)(hn:w.cell? ⟨bn,0,none⟩=some (.int .i64 1))(hc:w.cell? ⟨bd,0,none⟩=some (.int .i64 d)):kT Fence.wide prog 60 #[.pointer (some ⟨bn,0,none⟩),.pointer (some ⟨bd,0,none⟩)] (λe=>#[xV e]) (bq 1 d) n₀ w:=by
 obtain⟨k,rfl⟩:=Int.eq_ofNat_of_zero_le hd0;intro n l J W hW hl hlt hJ hY h0;have hn':=(hW.cell (p:=⟨bn,0,none⟩) hbn).trans hn;have hc':=(hW.cell (p:=⟨bd,0,none⟩) hbd).trans hc;have hbnW:bn<W.heap.size:=by have:=hW.size;omega
 have hbdW:bd<W.heap.size:=by have:=hW.size;omega
 refine callsIn_of_wp func60 rfl trivial ?_ rfl;simp only[ntmps60,List.size_toArray,LN,List.length_nil,Nat.reduceAdd,Nat.reduceSub,Array.replicate_succ,Array.replicate_zero,List.push_toArray,List.append_toArray,List.nil_append,List.cons_append];have hz:decide (0<=(k:Int))=true:=by simp
 have hx:bq 1 (k:Int)=[(k,0,0)]:=by unfold bq;rw[LH (by omega)];rfl
 have hbl:Below W.heap.size W (W.alloc (.cells #[.func (.yield l) #[] #[]] 46)):=(Lf _ W).alloc (Lc _) _;obtain⟨fn,tmps,assign,body,hy,hR⟩:=hY (n-1) [] (k,0,0) (W.alloc (.cells #[.func (.yield l) #[] #[]] 46)) (hJ _ _ _ (hbl.mono (by omega)) h0) (by simp;omega) ⟨[],by rw[hx];rfl⟩;replace hy:(Instr.yield l #[.agg #[.int .u16 (k:Int),.int .u16 0,.int .u16 0,.int .u16 0]]).run prog (W.alloc (.cells #[.func (.yield l) #[] #[]] 46))=_:=hy
 gi_wp2
 refine⟨(λh=>by cases h),hR.mono ?_⟩;rintro e W3 ⟨rfl,hJ3,hA3⟩
 gi_wp2
 refine Lm (Ln rfl _ _ _) rfl ⟨⟨_,rfl⟩,by rw[hx];exact hJ3,?_⟩;exact(cS.of_below hbl (Lc _)).trans (hA3.mono (Lc _) (by simp))
def jg(m:Nat)(d:Int)(j:Nat):List Gb.Mo:=(List.range j).flatMap λi:Nat=>(bq (m+1) (d-(i:Int))).map (b9 (m+1) i)
theorem ug(m:Nat)(d:Int)(j:Nat):jg m d (j+1)=jg m d j++(bq (m+1) (d-j)).map (b9 (m+1) j):=by unfold jg;rw[List.range_succ,List.flatMap_append];simp
theorem zX{α β:Type}{f g:α->List β}:∀{l:List α},(∀x∈l,f x=g x)->l.flatMap f=l.flatMap g
 |[],_=>rfl
 |x::l,h=>by rw[List.flatMap_cons,List.flatMap_cons,h x (by simp),zX λy hy=>h y (by simp[hy])]
theorem zY(m:Nat){d:Int}(h:0<=d):jg m d (d.toNat+1)=bq (m+2) d:=by unfold jg bq;rw[LH (by omega)];show _=(List.range (d.toNat+1)).flatMap _;refine zX λi hi=>?_;rw[List.mem_range] at hi;rw[LH (by omega),show (d-(i:Int)).toNat=d.toNat-i by omega]
theorem Ha(m:Nat)(d:Int){j k:Nat}(h:j<=k):∃post,jg m d k=jg m d j++post:=by
 induction h with
 |refl=>exact⟨[],by simp⟩
 |step _ ih=>obtain⟨post,e⟩:=ih;exact⟨_,by rw[ug,e,List.append_assoc]⟩
theorem Hb(m:Nat){d:Int}(h:0<=d){j:Nat}(hj:(j:Int)<d+1){pre:List Gb.Mo}{x:Gb.Mo}(hp:∃post,bq (m+1) (d-j)=pre++x::post):∃post,bq (m+2) d=(jg m d j++pre.map (b9 (m+1) j))++b9 (m+1) j x::post:=by obtain⟨post,e⟩:=hp;obtain⟨q,e2⟩:=Ha m d (j:=j+1) (k:=d.toNat+1) (by omega);rw[zY m h,ug,e] at e2;exact⟨_,by rw[e2];simp;rfl⟩
theorem fe{W:World}{z:Nat}{vs:Array Value}{t:TypeId}(h:W.heap[z]?=some (.cells vs t (0,0)))(i:Nat):W.cell? ⟨z,i,none⟩=vs[i]?:=by simp[World.cell?,h]
theorem lW{W:World}{z:Nat}{vs:Array Value}{t:TypeId}(h:W.heap[z]?=some (.cells vs t (0,0)))(i:Nat):W.frozen? ⟨z,i,none⟩=false:=by simp[World.frozen?,h]
theorem zZ(b:Nat)(hb:b=0\/b=1)(ih:∀(bn bd n₀:Nat)(d:Int)(_:0<=d)(_:d<=16000)(w:World)(_:n₀<=bn)(_:n₀<=bd)(_:bn<w.heap.size)(_:bd<w.heap.size) (_:w.cell? ⟨bn,0,none⟩=some (.int .i64 ((b:Int)+1))) (_:w.cell? ⟨bd,0,none⟩=some (.int .i64 d)),kT Fence.wide prog 60 #[.pointer (some ⟨bn,0,none⟩),.pointer (some ⟨bd,0,none⟩)] (λe=>#[xV e]) (bq (b+1) d) n₀ w)(bn bd n₀:Nat)(d:Int)(hd0:0<=d)(hd:d<=16000)(w:World)(hb1:n₀<=bn)(hb2:n₀<=bd)(hbn:bn<w.heap.size)(hbd:bd<w.heap.size)(hn:w.cell? ⟨bn,0,none⟩=some (.int .i64 ((b:Int)+2)))(hc:w.cell? ⟨bd,0,none⟩=some (.int .i64 d)):kT Fence.wide prog 60 #[.pointer (some ⟨bn,0,none⟩),.pointer (some ⟨bd,0,none⟩)] (λe=>#[xV e]) (bq (b+2) d) n₀ w:=by
 have hq1:(((b:Int)+2)==1)=false:=by rcases hb with rfl|rfl<;>rfl
 have hq2:(b:Int)+2-1=(b:Int)+1:=by omega
 have hq3:IntKind.i64.wrap ((b:Int)+1)=(b:Int)+1:=by rcases hb with rfl|rfl<;>rfl
 have hq4:(b:Int)+1<4:=by omega
 have hq5:0<=(b:Int)+1:=by omega
 intro n l J W hW hl hlt hJ hY h0;have hn':=(hW.cell (p:=⟨bn,0,none⟩) hbn).trans hn;have hc':=(hW.cell (p:=⟨bd,0,none⟩) hbd).trans hc;have hbnW:bn<W.heap.size:=by have:=hW.size;omega
 have hbdW:bd<W.heap.size:=by have:=hW.size;omega
 have hwz:=hW.size;refine callsIn_of_wp_marks func60 rfl trivial ?_ rfl;simp only[ntmps60,List.size_toArray,LN,List.length_nil,Nat.reduceAdd,Nat.reduceSub,Array.replicate_succ,Array.replicate_zero,List.push_toArray,List.append_toArray,List.nil_append,List.cons_append];have hbl:Below W.heap.size W (W.alloc (.cells #[.func (.yield l) #[] #[]] 46)):=(Lf _ W).alloc (Lc _) _
 gi_wp2
 refine wpIn_loop (λa w'=>∃(j:Nat)(ds:List Nat)(v4 v5 v20 v21 v22 v23 v24 v25 v26 v27 v28 v29 v30 v31 v32 v33 v34 v35 v36 v37 v38:Value),a={tmps:=#[.func (.yield l) #[] #[],.pointer (some ⟨bn,0,none⟩),.pointer (some ⟨bd,0,none⟩),.pointer (some ⟨W.heap.size,0,none⟩),v4,v5,.int .i64 ((b:Int)+2),.bool false,.bool false,undef,undef,.bool false,undef,undef,undef,undef,undef,.int .i64 d,.int .i64 (d+1),.int .i64 (j:Int),v20,v21,v22,v23,v24,v25,v26,v27,v28,v29,v30,v31,v32,v33,v34,v35,v36,v37,v38],defers:=mks ds}/\(j:Int)<=d+1/\J (jg b d j) w'/\cS n₀ l (W.heap.size+1) (W.alloc (.cells #[.func (.yield l) #[] #[]] 46)) w'/\ds.Nodup/\∀D∈ds,W.heap.size+1<=D/\D<w'.heap.size/\w'.heap[D]?=some (.deferred (some []))) (λa _=>(d+1-intOf (a.tmps.getD 19 undef)).toNat) ?_ ?_
 .exact⟨0,[],_,_,_,_,_,_,_,_,_,_,_,_,_,_,_,_,_,_,_,_,_,rfl,by omega,hJ [] _ _ (hbl.mono (by omega)) h0,cS.refl _ _ _ _,by simp,by simp⟩
 .rintro a w' ⟨j,ds,v4,v5,v20,v21,v22,v23,v24,v25,v26,v27,v28,v29,v30,v31,v32,v33,v34,v35,v36,v37,v38,rfl,hj,hJ',hA',hnd,hD⟩;have hz':W.heap.size+1<=w'.heap.size:=by have:=hA'.size;simpa using this
  have hcell:∀W4,cS n₀ l (W.heap.size+1) (W.alloc (.cells #[.func (.yield l) #[] #[]] 46)) W4->W4.cell? ⟨bn,0,none⟩=some (.int .i64 ((b:Int)+2))/\W4.cell? ⟨bd,0,none⟩=some (.int .i64 d)/\W4.cell? ⟨W.heap.size,0,none⟩=some (.func (.yield l) #[] #[]):=λW4 hA'=>⟨(hA'.cell (p:=⟨bn,0,none⟩) hb1 (by simp;omega) (by simp;omega)).trans ((hbl.cell (p:=⟨bn,0,none⟩) hbnW).trans hn'),(hA'.cell (p:=⟨bd,0,none⟩) hb2 (by simp;omega) (by simp;omega)).trans ((hbl.cell (p:=⟨bd,0,none⟩) hbdW).trans hc'),(hA'.cell (p:=⟨W.heap.size,0,none⟩) (by simp;omega) (by simp) (by simp;omega)).trans (by simp[go_sem])⟩
  obtain⟨hn2,hc2,hy2⟩:=hcell w' hA';have hbn2:bn<w'.heap.size:=by omega
  have hbd2:bd<w'.heap.size:=by omega
  have hbw2:W.heap.size<w'.heap.size:=by omega
  by_cases hjd:(j:Int)<d+1
  .gi_wp2
   refine⟨trivial,(λh=>by cases h),(callsIn_wide.2 (zU _ _ _)).mono ?_⟩;rintro e w1 ⟨rfl,rfl⟩
   gi_wp2
   obtain⟨w2,hw2⟩:∃w2,w2=(((w'.alloc (.cells #[.int .i64 (j:Int)] 3)).alloc (.cells #[.int .i64 ((b:Int)+1)] 3)).alloc (.cells #[.int .i64 (d-(j:Int))] 3)):=⟨_,rfl⟩;have hw2z:w2.heap.size=w'.heap.size+3:=by rw[hw2];simp
   have hw2b:Below w'.heap.size w' w2:=by rw[hw2];exact(((Lf _ w').alloc (Lc _) _).alloc (by simp) _).alloc (by simp;omega) _
   have hla:w2.cell? ⟨w'.heap.size,0,none⟩=some (.int .i64 (j:Int)):=by rw[hw2];simp[go_sem]
   have hnn:w2.cell? ⟨w'.heap.size+1,0,none⟩=some (.int .i64 ((b:Int)+1)):=by rw[hw2];simp[go_sem]
   have hdd:w2.cell? ⟨w'.heap.size+2,0,none⟩=some (.int .i64 (d-(j:Int))):=by rw[hw2];simp[go_sem]
   have hseq:=ih (w'.heap.size+1) (w'.heap.size+2) w'.heap.size (d-(j:Int)) (by omega) (by omega) w2 (by omega) (by omega) (by omega) (by omega) hnn hdd;rw[<-hw2];refine zT rfl rfl (gf:=60) (lb:=#[.pointer (some ⟨w'.heap.size+1,0,none⟩),.pointer (some ⟨w'.heap.size+2,0,none⟩)]) rfl trivial (enters_of func60 (by kernel_rfl) rfl) (n₀:=w'.heap.size) (by omega) hseq (λ_=>rfl)
    (λpre W4=>J (jg b d j++pre.map (b9 (b+1) j)) W4/\cS n₀ l (W.heap.size+1) (W.alloc (.cells #[.func (.yield l) #[] #[]] 46)) W4/\(∀D∈ds,W4.heap[D]?=some (.deferred (some [])))/\W4.cell? ⟨w'.heap.size,0,none⟩=some (.int .i64 (j:Int))/\w2.heap.size<=W4.heap.size)
    ?hI ?h0 (λz pre x a' W4=>W4.heap[z]?=some (.cells #[.int .u16 (x.1:Int),.int .u16 (x.2.1:Int),.int .u16 (x.2.2:Int),.int .u16 0] 45 (0,0))/\a'={tmps:=#[.func (.yield l) #[] #[],.pointer (some ⟨bn,0,none⟩),.pointer (some ⟨bd,0,none⟩),.pointer (some ⟨W.heap.size,0,none⟩),.pointer (some ⟨w'.heap.size,0,none⟩),.pointer (some ⟨z,0,none⟩),.int .i64 ((b:Int)+2),.bool false,.bool false,undef,undef,.bool false,undef,undef,undef,undef,undef,.int .i64 d,.int .i64 (d+1),.int .i64 (j:Int),.bool true,.int .i64 (j:Int),.int .i64 ((b:Int)+2),.int .i64 ((b:Int)+1),.int .i64 d,.int .i64 (j:Int),.int .i64 (d-(j:Int)),.func (.func 60) #[] #[.pointer (some ⟨w'.heap.size+1,0,none⟩),.pointer (some ⟨w'.heap.size+2,0,none⟩)],xV x,v29,v30,v31,v32,v33,v34,v35,v36,v37,v38],defers:=[]}) ?hassign ?hAx ?hbody ?hdone
   case hI=>exact λs A B hb ⟨h1,h2,h3,h4,h5⟩=>⟨hJ _ _ _ (hb.mono (by omega)) h1,h2.trans (cS.of_below hb (by omega)),λD h=>(hb.block D (by have:=(hD D h).2.1;omega)).trans (h3 D h),(hb.cell (p:=⟨w'.heap.size,0,none⟩) (by simp;omega)).trans h4,by have:=hb.size;omega⟩
   case h0=>exact⟨by rw[List.map_nil,List.append_nil];exact hJ _ _ _ (hw2b.mono (by omega)) hJ',hA'.trans (cS.of_below hw2b (by omega)),λD h=>(hw2b.block D (hD D h).2.1).trans (hD D h).2.2,hla,Lc _⟩
   case hassign=>
    rintro l2 m2 pre x W4 K rfl hlt4 ⟨hJ4,hA4,hD4,hl4,hz4⟩ hpost hK;dsimp only[xV]
    gi_wp2
    exact hK _ _ ((Lf _ W4).alloc (Lc _) _) ⟨World.alloc_heap_new _ _,rfl⟩
   case hAx=>rintro z pre x a' A B hz hzA ⟨h1,rfl⟩ hb ha;exact⟨(ha.same z (by omega) (LS.1 h1).1 (by omega)).trans h1,rfl⟩
   case hbody=>
    rintro l2 m2 z pre x a' W4 rfl hlz hzW ⟨hJ4,hA4,hD4,hl4,hz4⟩ ⟨hcz,rfl⟩ hpost;obtain⟨hn4,hc4,hy4⟩:=hcell W4 hA4;have hzl:z<W4.heap.size:=(LS.1 hcz).1;have c0:W4.cell? ⟨z,0,none⟩=some (.int .u16 (x.1:Int)):=fe hcz 0;have c1:W4.cell? ⟨z,1,none⟩=some (.int .u16 (x.2.1:Int)):=fe hcz 1;have c2:W4.cell? ⟨z,2,none⟩=some (.int .u16 (x.2.2:Int)):=fe hcz 2;have c3:W4.cell? ⟨z,3,none⟩=some (.int .u16 0):=fe hcz 3;have f1:W4.frozen? ⟨z,b+1,none⟩=false:=lW hcz (b+1);have hb4:Below z W4 (W4.setCell ⟨z,b+1,none⟩ (.int .u16 (j:Int))):=(Lf _ W4).setCell (p:=⟨z,b+1,none⟩) (Lc _) _;have hne1:W.heap.size≠z:=by omega
    obtain⟨fn,tmps,assign,body,hy,hR⟩:=hY (m2-1) (jg b d j++pre.map (b9 (b+1) j)) (b9 (b+1) j x) (W4.setCell ⟨z,b+1,none⟩ (.int .u16 (j:Int))) (hJ _ _ _ (hb4.mono (by omega)) hJ4) (by simp[World.setCell];omega) (Hb b hd0 hjd hpost);dsimp only[xV] at hy;have e0:(W4.setCell ⟨z,b+1,none⟩ (.int .u16 (j:Int))).cell? ⟨z,0,none⟩=some (.int .u16 ((b9 (b+1) j x).1:Int)):=by rcases hb with rfl|rfl<;>simp[go_sem,b9,c0]
    have e1:(W4.setCell ⟨z,b+1,none⟩ (.int .u16 (j:Int))).cell? ⟨z,1,none⟩=some (.int .u16 ((b9 (b+1) j x).2.1:Int)):=by rcases hb with rfl|rfl<;>simp[go_sem,b9,c1]
    have e2:(W4.setCell ⟨z,b+1,none⟩ (.int .u16 (j:Int))).cell? ⟨z,2,none⟩=some (.int .u16 ((b9 (b+1) j x).2.2:Int)):=by rcases hb with rfl|rfl<;>simp[go_sem,b9,c2]
    have e3:(W4.setCell ⟨z,b+1,none⟩ (.int .u16 (j:Int))).cell? ⟨z,3,none⟩=some (.int .u16 0):=by rcases hb with rfl|rfl<;>simp[go_sem,b9,c3]
    obtain⟨u,hu⟩:∃u,W4.cell? ⟨z,b+1,none⟩=some u:=by rcases hb with rfl|rfl<;>first|exact⟨_,c1⟩|exact⟨_,c2⟩
    clear c0 c1 c2 c3
    gi_wp2
    refine⟨(λh=>by cases h),RoundIn.mono hR ?_⟩;rintro e W5 ⟨rfl,hJ5,hA5⟩
    gi_wp2
    have hs4:(W4.setCell ⟨z,b+1,none⟩ (.int .u16 (j:Int))).heap.size=W4.heap.size:=by simp[World.setCell]
    rw[hs4] at hA5;refine⟨⟨?_,hA4.trans ((cS.of_below hb4 (by omega)).trans (hA5.mono (Lc _) (by omega))),λD h=>?_,?_,by have:=hA5.size;omega⟩,?_⟩
    .rw[LO,<-List.append_assoc];exact hJ5
    .have h2:=hD D h;exact(hA5.same D (by omega) (by omega) (by omega)).trans ((hb4.block D (by omega)).trans (hD4 D h))
    .exact(hA5.cell (p:=⟨w'.heap.size,0,none⟩) (by simp;omega) (by simp;omega) (by simp;omega)).trans ((hb4.cell (p:=⟨w'.heap.size,0,none⟩) (by simp;omega)).trans hl4)
    .exact⟨by have:=hA5.size;omega,λk h1 h2 h3=>(hA5.same k (by omega) (by omega) (by omega)).trans (hb4.block k h2)⟩
   case hdone=>
    rintro W4 hz5 ⟨hJ4,hA4,hD4,hl4,hz4⟩ hd4
    gi_wp2
    refine⟨⟨j+1,w2.heap.size::ds,_,_,_,_,_,_,_,_,_,_,_,_,_,_,_,_,_,_,_,_,_,rfl,by omega,by rw[ug];exact hJ4,hA4,List.nodup_cons.2 ⟨λh=>by have:=(hD _ h).2.1;omega,hnd⟩,λD h=>?_⟩,?_⟩
    .rcases LL.1 h with rfl|h
     .exact⟨by omega,by omega,hd4⟩
     .have h2:=hD D h;exact⟨h2.1,by omega,hD4 D h⟩
    .simp[intOf];omega
  .gi_wp2
   have hjj:j=d.toNat+1:=by omega
   refine ud (B:=W.heap.size+1) ds w' hnd (λD h=>⟨(hD D h).1,(hD D h).2.2⟩) λw5 h1 h2 h3=>?_;refine⟨_,Ln rfl _ _ _,⟨_,rfl⟩,?_,?_⟩
   .rw[<-zY b hd0,<-hjj];exact hJ _ _ _ (h1.mono (by omega)) hJ'
   .exact(cS.of_below hbl (Lc _)).trans ((hA'.mono (Lc _) (by omega)).trans (cS.of_below h1 (by omega)))
theorem Aa(bn bd n₀:Nat)(d:Int)(hd0:0<=d)(hd:d<=16000)(w:World)(hb1:n₀<=bn)(hb2:n₀<=bd)(hbn:bn<w.heap.size)(hbd:bd<w.heap.size)(hn:w.cell? ⟨bn,0,none⟩=some (.int .i64 2))(hc:w.cell? ⟨bd,0,none⟩=some (.int .i64 d)):kT Fence.wide prog 60 #[.pointer (some ⟨bn,0,none⟩),.pointer (some ⟨bd,0,none⟩)] (λe=>#[xV e]) (bq 2 d) n₀ w:=
 zZ 0 (L0 rfl) zW bn bd n₀ d hd0 hd w hb1 hb2 hbn hbd hn hc
theorem Hc(bn bd n₀:Nat)(d:Int)(hd0:0<=d)(hd:d<=16000)(w:World)(hb1:n₀<=bn)(hb2:n₀<=bd)(hbn:bn<w.heap.size)(hbd:bd<w.heap.size)(hn:w.cell? ⟨bn,0,none⟩=some (.int .i64 3))(hc:w.cell? ⟨bd,0,none⟩=some (.int .i64 d)):kT Fence.wide prog 60 #[.pointer (some ⟨bn,0,none⟩),.pointer (some ⟨bd,0,none⟩)] (λe=>#[xV e]) (bq 3 d) n₀ w:=
 zZ 1 (L3 rfl) Aa bn bd n₀ d hd0 hd w hb1 hb2 hbn hbd hn hc
attribute [local go_sem] Oper.semAt_some
theorem Hd(bn bd n₀:Nat)(nn:Int)(hnn:nn=1\/nn=2\/nn=3)(d:Int)(hd0:d<0)(hd:-16000<=d)(w:World)(hbn:bn<w.heap.size)(hbd:bd<w.heap.size)(hn:w.cell? ⟨bn,0,none⟩=some (.int .i64 nn))(hc:w.cell? ⟨bd,0,none⟩=some (.int .i64 d)):kT Fence.wide prog 60 #[.pointer (some ⟨bn,0,none⟩),.pointer (some ⟨bd,0,none⟩)] (λe:Gb.Mo=>#[xV e]) [] n₀ w:=by
 intro n l J W hW hl hlt hJ hY h0;clear hY;have hn':=(hW.cell (p:=⟨bn,0,none⟩) hbn).trans hn;have hc':=(hW.cell (p:=⟨bd,0,none⟩) hbd).trans hc;have hbnW:bn<W.heap.size:=by have:=hW.size;omega
 have hbdW:bd<W.heap.size:=by have:=hW.size;omega
 have hz:decide (0<=d)=false:=by simp;omega
 have hbl:Below W.heap.size W (W.alloc (.cells #[.func (.yield l) #[] #[]] 46)):=(Lf _ W).alloc (Lc _) _;clear hn hc;rcases hnn with rfl|rfl|rfl;all_goals
  refine callsIn_of_wp func60 rfl trivial ?_ rfl;simp only[ntmps60,List.size_toArray,LN,List.length_nil,Nat.reduceAdd,Nat.reduceSub,Array.replicate_succ,Array.replicate_zero,List.push_toArray,List.append_toArray,List.nil_append,List.cons_append]
  gi_wp2
  gi_loopw [19] (λi wr=>i=.int .i64 0/\wr=W.alloc (.cells #[.func (.yield l) #[] #[]] 46)) (λ_ _=>0)
  case atStart=>exact⟨rfl,rfl⟩
  case round=>
   obtain⟨rfl,rfl⟩:=hrel;have hlt0:decide ((0:Int)<d+1)=false:=by simp;omega
   gi_wp2
   go_end0;exact⟨⟨_,rfl⟩,hJ _ _ _ (hbl.mono (by omega)) h0,cS.of_below hbl (Lc _)⟩
theorem Ab(n:Nat):((List.range n).map λ_=>1).sum=n:=by
 induction n with
 |zero=>rfl
 |succ n ih=>rw[List.range_succ,LO,List.sum_append,ih];simp
theorem He:∀n d,n<=3->d<=16000->(cK n d).length<=256032001
 |0,d,_,_=>by simp[cK]
 |1,d,_,_=>by simp[cK]
 |2,d,_,h=>by
  have e:(cK 2 d).length=d+1:=by simp[cK,List.length_flatMap,Ab]
  omega
 |3,d,_,h=>by
  have e:∀k,((List.range k).flatMap λi=>(cK 2 (d-i)).map (b9 2 i)).length<=k*(d+1):=by
   intro k;induction k with
   |zero=>simp
   |succ k ih=>
    rw[List.range_succ,List.flatMap_append,Lx];have e2:(cK 2 (d-k)).length=d-k+1:=by simp[cK,List.length_flatMap,Ab]
    simp only[List.flatMap_cons,List.flatMap_nil,List.append_nil,LD,e2];rw[Nat.succ_mul];omega
  have h1:=e (d+1);have h2:(d+1)*(d+1)<=16001*16001:=Nat.mul_le_mul (by omega) (by omega);show ((List.range (d+1)).flatMap λi=>(cK 2 (d-i)).map (b9 2 i)).length<=_;omega
 |n+4,_,h,_=>by omega
theorem Ac{n:Nat}{d:Int}(hn:n<=3)(hd:d<=16000):(bq n d).length<=256032001:=by
 unfold bq;split
 .simp
 .exact He n _ hn (by omega)
theorem Hf(bn bd n₀:Nat)(nn:Nat)(hnn:nn=1\/nn=2\/nn=3)(d:Int)(hd0:-16000<=d)(hd:d<=16000)(w:World)(hb1:n₀<=bn)(hb2:n₀<=bd)(hbn:bn<w.heap.size)(hbd:bd<w.heap.size)(hn:w.cell? ⟨bn,0,none⟩=some (.int .i64 (nn:Int)))(hc:w.cell? ⟨bd,0,none⟩=some (.int .i64 d)):kT Fence.wide prog 60 #[.pointer (some ⟨bn,0,none⟩),.pointer (some ⟨bd,0,none⟩)] (λe=>#[xV e]) (bq nn d) n₀ w:=by
 by_cases h:d<0
 .have e:bq nn d=[]:=by unfold bq;rw[LI h]
  rw[e];exact Hd bn bd n₀ nn (by omega) d h hd0 w hbn hbd hn hc
 .rcases hnn with rfl|rfl|rfl
  .exact zW bn bd n₀ d (by omega) hd w hb1 hb2 hbn hbd hn hc
  .exact Aa bn bd n₀ d (by omega) hd w hb1 hb2 hbn hbd hn hc
  .exact Hc bn bd n₀ d (by omega) hd w hb1 hb2 hbn hbd hn hc
theorem Ad{P:Program}{f:FuncId}{fn:Func}(hf:P.funcs[f]? =some fn)(hb:(fn.body.isSome&& !(fn.name== "runtime.NumGoroutine"))=true)(args:Array Value)(w:World):(callFunc f args).run P w= .ok (.enter f args) w:=by
 simp only[Bool.and_eq_true,Bool.not_eq_true',beq_eq_false_iff_ne] at hb;obtain⟨c,hc⟩:=Option.isSome_iff_exists.1 hb.1;simp[callFunc,hf,hb.2,hc]
theorem Ae(cf:FuncId)(bs:Array Value)(hcf:∀args W,(callFunc cf args).run prog W=.ok (.enter cf args) W)(nn:Nat)(hnn:nn=1\/nn=2\/nn=3)(d:Int)(hd0:-16000<=d)(hd:d<=16000)(P:Gb.Mo->Bool)(w:World)(hcl:∀W e,Below w.heap.size w W->e∈bq nn d->Calls prog cf (#[xV e]++bs) W λr W'=>r=.returned (.bool (P e))/\Below W.heap.size W W'):Calls prog 15 #[.int .i64 (nn:Int),.int .i64 d,.func (.func cf) #[] bs] w λr w'=>r=.returned (.int .i64 (((bq nn d).filter P).length:Nat))/\Below w.heap.size w w':=by
 have hlen:=Ac (n:=nn) (d:=d) (by omega) hd;have HCL:=ac hcl;clear hcl;obtain⟨nf,-⟩:∃nf:Nat,nf=9:=⟨9,rfl⟩;refine(callsIn_wide (n:=nf)).1 ?_;refine callsIn_of_wp_marks func15 rfl trivial ?_ rfl;simp only[ntmps15,List.size_toArray,LN,List.length_nil,Nat.reduceAdd,Nat.reduceSub,Array.replicate_succ,Array.replicate_zero,List.push_toArray,List.append_toArray,List.nil_append,List.cons_append]
 gi_wp2
 refine⟨trivial,(λh=>by cases h),(callsIn_wide.2 (zU _ _ _)).mono ?_⟩;rintro e w1 ⟨rfl,rfl⟩
 gi_wp2
 obtain⟨w2,hw2⟩:∃w2,w2=((((w.alloc (.cells #[.func (.func cf) #[] bs] 46)).alloc (.cells #[.int .i64 0] 3)).alloc (.cells #[.int .i64 (nn:Int)] 3)).alloc (.cells #[.int .i64 d] 3)):=⟨_,rfl⟩;have hw2z:w2.heap.size=w.heap.size+4:=by rw[hw2];simp
 have hw2b:Below w.heap.size w w2:=by rw[hw2];exact((((Lf _ w).alloc (Lc _) _).alloc (by simp) _).alloc (by simp;omega) _).alloc (by simp;omega) _
 have h2c:w2.heap[w.heap.size+1]?=some (.cells #[.int .i64 0] 3 (0,0)):=by rw[hw2,Below.heap_alloc _ _ _ (by simp<;>omega),Below.heap_alloc _ _ _ (by simp)];have:=World.alloc_heap_new (w.alloc (.cells #[.func (.func cf) #[] bs] 46)) (.cells #[.int .i64 0] 3);rwa [World.size_alloc] at this
 have h2f:w2.cell? ⟨w.heap.size,0,none⟩=some (.func (.func cf) #[] bs):=by rw[hw2];simp[go_sem]
 have hnn2:w2.cell? ⟨w.heap.size+1+1,0,none⟩=some (.int .i64 (nn:Int)):=by rw[hw2];simp[go_sem]
 have hdd2:w2.cell? ⟨w.heap.size+1+1+1,0,none⟩=some (.int .i64 d):=by rw[hw2];simp[go_sem]
 have hseq:=Hf (w.heap.size+1+1) (w.heap.size+1+1+1) (w.heap.size+2) nn hnn d hd0 hd w2 (by omega) (by omega) (by omega) (by omega) hnn2 hdd2;rw[<-hw2];clear hw2;refine zT rfl rfl (gf:=60) (lb:=#[.pointer (some ⟨w.heap.size+1+1,0,none⟩),.pointer (some ⟨w.heap.size+1+1+1,0,none⟩)]) rfl trivial (enters_of func60 (by kernel_rfl) rfl) (n₀:=w.heap.size+2) (by omega) hseq (λ_=>rfl)
  (λpre W4=>W4.heap[w.heap.size+1]?=some (.cells #[.int .i64 ((pre.filter P).length:Nat)] 3 (0,0))/\W4.cell? ⟨w.heap.size,0,none⟩=some (.func (.func cf) #[] bs)/\Below w.heap.size w W4/\w2.heap.size<=W4.heap.size)
  ?hI ?h0 (λz pre x a' W4=>W4.heap[z]?=some (.cells #[.int .u16 (x.1:Int),.int .u16 (x.2.1:Int),.int .u16 (x.2.2:Int),.int .u16 0] 45 (0,0))/\a'={tmps:=#[.int .i64 (nn:Int),.int .i64 d,.func (.func cf) #[] bs,undef,undef,.pointer (some ⟨w.heap.size,0,none⟩),.int .i64 0,.pointer (some ⟨w.heap.size+1,0,none⟩),.pointer (some ⟨z,0,none⟩),.int .i64 (nn:Int),.int .i64 d,.func (.func 60) #[] #[.pointer (some ⟨w.heap.size+1+1,0,none⟩),.pointer (some ⟨w.heap.size+1+1+1,0,none⟩)],xV x,undef,undef,undef,undef,undef,undef],defers:=[]}) ?hassign ?hAx ?hbody ?hdone
 case hI=>exact λs A B hb ⟨h1,h2,h3,h4⟩=>⟨(hb.block _ (by omega)).trans h1,(hb.cell (p:=⟨w.heap.size,0,none⟩) (by simp;omega)).trans h2,h3.trans (hb.mono (by omega)),by have:=hb.size;omega⟩
 case h0=>exact⟨h2c,h2f,hw2b,Lc _⟩
 case hassign=>
  rintro l2 m2 pre x W4 K rfl hlt4 ⟨h4c,h4f,h4b,h4z⟩ hpost hK;dsimp only[xV]
  gi_wp2
  exact hK _ _ ((Lf _ W4).alloc (Lc _) _) ⟨World.alloc_heap_new _ _,rfl⟩
 case hAx=>rintro z pre x a' A B hz hzA ⟨h1,rfl⟩ hb ha;exact⟨(ha.same z (by omega) (LS.1 h1).1 (by omega)).trans h1,rfl⟩
 case hbody=>
  rintro l2 m2 z pre x a' W4 rfl hlz hzW ⟨h4c,h4f,h4b,h4z⟩ ⟨hcz,rfl⟩ hpost;have hzl:z<W4.heap.size:=(LS.1 hcz).1;have c0:W4.cell? ⟨z,0,none⟩=some (.int .u16 (x.1:Int)):=fe hcz 0;have c1:W4.cell? ⟨z,1,none⟩=some (.int .u16 (x.2.1:Int)):=fe hcz 1;have c2:W4.cell? ⟨z,2,none⟩=some (.int .u16 (x.2.2:Int)):=fe hcz 2;have c3:W4.cell? ⟨z,3,none⟩=some (.int .u16 0):=fe hcz 3;have hmem:x∈bq nn d:=by obtain⟨post,e⟩:=hpost;rw[e];simp
  have HC:Calls prog cf (#[.agg #[.int .u16 (x.1:Int),.int .u16 (x.2.1:Int),.int .u16 (x.2.2:Int),.int .u16 0]]++bs) W4 λr W'=>r=.returned (.bool (P x))/\Below W4.heap.size W4 W':=HCL.o W4 x h4b hmem;have hfl:(pre.filter P).length<256032001:=by obtain⟨post,e⟩:=hpost;have h1:=LX P pre;have h2:=congrArg List.length e;simp at h2;omega
  have hfx:((pre++[x]).filter P).length=(pre.filter P).length+if P x=true then 1 else 0:=by rw[List.filter_append,Lx];cases hPx:P x<;>simp[hPx]
  gi_wp2
  refine⟨trivial,(λh=>by cases h),(CallsIn.inRound _ (callsIn_wide.2 HC)).mono ?_⟩;rintro e W5 ⟨rfl,hb5⟩;have h5c:=(hb5.block (w.heap.size+1) (by omega)).trans h4c;have h5f:=(hb5.cell (p:=⟨w.heap.size,0,none⟩) (by simp;omega)).trans h4f;have h5z:=hb5.size;have c5:W5.cell? ⟨w.heap.size+1,0,none⟩=some (.int .i64 ((pre.filter P).length:Nat)):=fe h5c 0;have f5:W5.frozen? ⟨w.heap.size+1,0,none⟩=false:=lW h5c 0;generalize hcn:(pre.filter P).length=cn at*;cases hP:P x with
  |true=>
   rw[hP] at hfx
   gi_wp2
   refine⟨⟨?_,?_,?_,by simp[World.setCell];omega⟩,?_⟩
   .rw[hfx];exact Boxed.set _ h5c
   .exact(World.cell?_of_block (w:=W5) (Below.heap_setCell _ _ _ _ (by simp))).trans h5f
   .exact(h4b.trans (hb5.mono (by omega))).setCell (p:=⟨w.heap.size+1,0,none⟩) (by simp) _
   .exact⟨by simp[World.setCell];omega,λk k1 k2 k3=>(Below.heap_setCell _ _ _ _ (by simp;omega)).trans (hb5.block k (by omega))⟩
  |false=>
   rw[hP] at hfx
   gi_wp2
   refine⟨⟨?_,h5f,h4b.trans (hb5.mono (by omega)),by omega⟩,cS.of_below hb5 (by omega)⟩;rw[hfx];exact h5c
 case hdone=>
  rintro W4 hz5 ⟨h4c,h4f,h4b,h4z⟩ hd4;have c4:W4.cell? ⟨w.heap.size+1,0,none⟩=some (.int .i64 (((bq nn d).filter P).length:Nat)):=fe h4c 0
  gi_wp2
  refine ud (B:=w.heap.size) [w2.heap.size] W4 (by simp) (λD h=>by rw[Lw] at h;subst h;exact⟨by omega,hd4⟩) λw5 h1 h2 h3=>?_;exact⟨_,results_tmp rfl _ _ _,rfl,h4b.trans h1⟩
theorem Hh(nn:Nat)(hnn:nn=1\/nn=2\/nn=3)(d:Int)(hd0:-16000<=d)(hd:d<=16000)(P:Gb.Mo->Bool)(w:World)(hcl:∀W e,Below w.heap.size w W->e∈bq nn d->Calls prog 16 (#[xV e]++#[]) W λr W'=>r=.returned (.bool (P e))/\Below W.heap.size W W'):Calls prog 15 #[.int .i64 (nn:Int),.int .i64 d,.func (.func 16) #[] #[]] w λr w'=>r=.returned (.int .i64 (((bq nn d).filter P).length:Nat))/\Below w.heap.size w w':=Ae _ _ (Ad func16 (by kernel_rfl)) nn hnn d hd0 hd P w hcl
theorem Hi(bl:Nat)(nn:Nat)(hnn:nn=1\/nn=2\/nn=3)(d:Int)(hd0:-16000<=d)(hd:d<=16000)(P:Gb.Mo->Bool)(w:World)(hcl:∀W e,Below w.heap.size w W->e∈bq nn d->Calls prog 31 (#[xV e]++#[.pointer (some ⟨bl,0,none⟩)]) W λr W'=>r=.returned (.bool (P e))/\Below W.heap.size W W'):Calls prog 15 #[.int .i64 (nn:Int),.int .i64 d,.func (.func 31) #[] #[.pointer (some ⟨bl,0,none⟩)]] w λr w'=>r=.returned (.int .i64 (((bq nn d).filter P).length:Nat))/\Below w.heap.size w w':=Ae _ _ (Ad func31 (by kernel_rfl)) nn hnn d hd0 hd P w hcl
end Go.Proofs.YteimdcndjjclnaaGreat
namespace Go.Proofs.YteimdcndjjclnaaGreat
set_option linter.all false
open Go.Proofs.Tryz Go.RowKit
def mX(n d:Int):Int:=if n<1\/3<n\/d< -100\/100<d then 3 else 0
def mW(n d:Int):Int:=if n<1\/3<n\/d< -100\/100<d then 0 else ((bq n.toNat d).length:Nat)
theorem Hj(e:Gb.Mo)(w:World):Calls prog 16 #[xV e] w λr w'=>r=.returned (.bool true)/\Below w.heap.size w w':=by unfold xV;go_enter func16,ntmps16;go_wp2;go_ret;exact⟨rfl,(Lf _ w).alloc (Lc _) _⟩
theorem zO(n d:Int)(w:World)(hn:-9223372036854775808<=n/\n<=9223372036854775807)(hd:-9223372036854775808<=d/\d<=9223372036854775807):Calls prog 6 #[.int .i64 n,.int .i64 d] w λr w'=>r=.returned (.tuple #[.int .i64 (mW n d),.int .i64 (mX n d)])/\Below w.heap.size w w':=by
 by_cases hb:n<1\/3<n\/d< -100\/100<d
 .have e1:mW n d=0:=by unfold mW;rw[LI hb]
  have e2:mX n d=3:=by unfold mX;rw[LI hb]
  rw[e1,e2];by_cases h1:n<1
  .have k1:decide (n<1)=true:=by simpa using h1
   go_enter func6,ntmps6;go_wp2;go_ret2;exact⟨rfl,Lf _ _⟩
  .have k1:decide (n<1)=false:=by simpa using h1
   by_cases h2:3<n
   .have k2:decide (3<n)=true:=by simpa using h2
    go_enter func6,ntmps6;go_wp2;go_ret2;exact⟨rfl,Lf _ _⟩
   .have k2:decide (3<n)=false:=by simpa using h2
    by_cases h3:d< -100
    .have k3:decide (d< -100)=true:=by simpa using h3
     go_enter func6,ntmps6;go_wp2;go_ret2;exact⟨rfl,Lf _ _⟩
    .have k3:decide (d< -100)=false:=by simpa using h3
     have k4:decide (100<d)=true:=by simp;omega
     go_enter func6,ntmps6;go_wp2;go_ret2;exact⟨rfl,Lf _ _⟩
 .have e1:mW n d=((bq n.toNat d).length:Nat):=by unfold mW;rw[LH hb]
  have e2:mX n d=0:=by unfold mX;rw[LH hb]
  rw[e1,e2];have k1:decide (n<1)=false:=by simp;omega
  have k2:decide (3<n)=false:=by simp;omega
  have k3:decide (d< -100)=false:=by simp;omega
  have k4:decide (100<d)=false:=by simp;omega
  obtain⟨m,rfl⟩:=Int.eq_ofNat_of_zero_le (show 0<=n by omega);have HM:=ac (Hh m (by omega) d (by omega) (by omega) (λ_=>true) w (λW e _ _=>Hj e W));have hf:(bq ((m:Int)).toNat d).filter (λ_=>true)=bq ((m:Int)).toNat d:=List.filter_eq_self.2 λ_ _=>rfl;rw[Int.toNat_natCast] at hf⊢;rw[hf] at HM;clear hb e1 e2;go_enter func6,ntmps6;go_wp2_with (go_at_call 15;refine HM.o.mono ?_;rintro e w' ⟨rfl,HB1⟩);go_ret2;exact⟨rfl,HB1⟩
end Go.Proofs.YteimdcndjjclnaaGreat
