/- A range over a function whose rounds may turn what lies ahead of the loop, and nothing that lies behind it: its law, and the marks that it leaves. -/
import Derived.Test.YteimdcndjjclnaaGreatA
import Derived.RangeFuncNested
import Derived.RangeFuncBound
namespace Go.Proofs.YteimdcndjjclnaaGreat
set_option linter.all false
open Go.Proofs.Tryz Go.RowKit
structure cS(n l m:Nat)(W W':World):Prop where
 size:W.heap.size<=W'.heap.size
 same:∀k,n<=k->k<m->k≠l->W'.heap[k]?=W.heap[k]?
theorem cS.refl(n l m:Nat)(W:World):cS n l m W W:=⟨Lc _,λ_ _ _ _=>rfl⟩
theorem cS.trans{n l m:Nat}{A B C:World}(h:cS n l m A B)(k:cS n l m B C):cS n l m A C:=⟨Lk h.size k.size,λi h1 h2 h3=>(k.same i h1 h2 h3).trans (h.same i h1 h2 h3)⟩
theorem cS.mono{n l m n2 m2:Nat}{A B:World}(h:cS n l m A B)(h1:n<=n2)(h2:m2<=m):cS n2 l m2 A B:=⟨h.size,λk a b c=>h.same k (by omega) (by omega) c⟩
theorem cS.of_below{n l m B:Nat}{A C:World}(h:Below B A C)(hm:m<=B):cS n l m A C:=⟨h.size,λk _ b _=>h.block k (by omega)⟩
theorem cS.cell{n l m:Nat}{A B:World}(h:cS n l m A B){p:Addr}(h1:n<=p.block)(h2:p.block<m)(h3:p.block≠l):B.cell? p=A.cell? p:=World.cell?_of_block (w:=A) (h.same p.block h1 h2 h3)
def kT{α:Type}(F:Fence)(P:Program)(g:Nat)(lb:Array Value)(encs:α->Array Value)(xs:List α)(n₀:Nat)(w0:World):Prop:=
 ∀(n l:Nat)(J:List α->World->Prop)(W:World),Below w0.heap.size w0 W->w0.heap.size<=l->l<W.heap.size->(∀s A B,Below (l+1) A B->J s A->J s B)->
  (∀m pre x W1,J pre W1->l<W1.heap.size->(∃post,xs=pre++x::post)->YieldAt F m P l (encs x) W1 λe W'=>e=.returned (.bool true)/\J (pre++[x]) W'/\cS n₀ l W1.heap.size W1 W')->
  J [] W->CallsIn F n P g (#[.func (.yield l) #[] #[]]++lb) W λe W'=>(∃v,e=.returned v)/\J xs W'/\cS n₀ l W.heap.size W W'
def G8{α:Type}(B m:Nat)(I:List α->World->Prop)(xs:List α)(W:World):Exit->Act->World->Prop
 | .normal,_,W'=>I xs W'/\cS B m m W W'
 |_,_,_=>False
theorem G9(W:World)(l:Nat)(o:Obj){n m:Nat}:cS n l m W (W.putObj l o):=⟨by simp[World.putObj],λk h1 h2 h3=>World.putObj_heap_other (by omega)⟩
theorem qI(W:World)(l:Nat)(o:Obj){B:Nat}(h:B<=l):Below B W (W.putObj l o):=⟨rfl,rfl,rfl,by simp[World.putObj],λk hk=>World.putObj_heap_other (by omega)⟩
theorem zT{α:Type}{F:Fence}{n:Nat}{P:Program}(hdep:F.depth=none){g:Operand}{ps:Array Tmp}{assign body:Code}{Q:Exit->Act->World->Prop}{a:Act}{w:World}(hro:F.round=none){gf:Nat}{lb:Array Value}(hg:a.eval g=.func (.func gf) #[] lb)(hFg:F.fn gf)(eg:∀args w,(callFunc gf args).run P w=.ok (.enter gf args) w){encs:α->Array Value}{xs:List α}{n₀:Nat}(hn₀:n₀<=w.heap.size)(hseq:kT F P gf lb encs xs n₀ w)(hps:∀x,(encs x).size=ps.size)(I:List α->World->Prop)(hI:∀s A B,Below w.heap.size A B->I s A->I s B)(h0:I [] w)(Ax:Nat->List α->α->Act->World->Prop)(hassign:∀(l m:Nat)(pre:List α)(x:α)(W:World)(K:Act->World->Prop),l=w.heap.size+1->l<W.heap.size->I pre W->(∃post,xs=pre++x::post)->(∀a' W',Below W.heap.size W W'->Ax W.heap.size pre x a' W'->K a' W')->assign.wpIn (F.inRound l) m P (Exit.then K (λ_ _ _=>False)) {tmps:=(ps.zip (encs x)).foldl (λt (p,v)=>t.setIfInBounds p v) a.tmps,defers:=[]} W)(hAx:∀z pre x a' A B,w.heap.size+1<z->z<=A.heap.size->Ax z pre x a' A->Below (w.heap.size+1) A B->cS 0 (w.heap.size+1) A.heap.size A B->Ax z pre x a' B)(hbody:∀(l m z:Nat)(pre:List α)(x:α)(a':Act)(W:World),l=w.heap.size+1->l<z->z<=W.heap.size->I pre W->Ax z pre x a' W->(∃post,xs=pre++x::post)->body.wpIn (F.inRound l) m P (G8 n₀ z I (pre++[x]) W) a' W)(hdone:∀(W:World),w.heap.size+2<=W.heap.size->I xs W->W.heap[w.heap.size]?=some (.deferred (some []))->Q .normal {a with defers:={target:=.collected w.heap.size,args:=#[]}::a.defers} W):(Code.rangeFunc g ps assign body).wpIn F n P Q a w:=by
 refine wpIn_rangeFunc λfn hfn=>?_;rw[hro];generalize hr1:(λst pe=>({state:=st,pending:=pe,fn,tmps:=a.tmps,params:=ps,assign,body,defers:=w.heap.size}:Loop))=rec;have hrec:∀st pe,rec st pe={state:=st,pending:=pe,fn,tmps:=a.tmps,params:=ps,assign,body,defers:=w.heap.size}:=λst pe=>by rw[<-hr1]
 generalize hW1:(w.alloc (.deferred (some []))).alloc (.loop (rec .ready none))=W1;have hz1:W1.heap.size=w.heap.size+2:=by rw[<-hW1];simp
 have hL1:W1.heap[w.heap.size+1]?=some (.loop (rec .ready none)):=by rw[<-hW1];have:=World.alloc_heap_new (w.alloc (.deferred (some []))) (.loop (rec .ready none));rwa [World.size_alloc] at this
 have hD1:W1.heap[w.heap.size]?=some (.deferred (some [])):=by rw[<-hW1];exact(Below.heap_alloc _ _ _ (by simp)).trans (World.alloc_heap_new w _)
 have hB1:Below w.heap.size w W1:=by rw[<-hW1];exact((Lf _ w).alloc (Lc _) _).alloc (by simp) _
 refine⟨w.heap.size+1,[{target:=.collected w.heap.size,args:=#[]}],W1,{target:=.fn (.func gf) lb,args:=#[.func (.yield (w.heap.size+1)) #[] #[]]},W1,gf,#[.func (.yield (w.heap.size+1)) #[] #[]]++lb,W1,?_,?_,?_,?_,(λh=>by rw[hdep] at h;cases h),?_⟩
 .rw[<-hW1,hrec];exact run_enterLoop_outer _ _ _ _ _
 .simp only[resolve,hg];simp[go_sem]
 .intro f' hf';simp[Target.leads] at hf';subst hf';exact hFg
 .simp[invoke,go_sem,eg]
 .refine(hseq (n-1) (w.heap.size+1) (λpre W=>I pre W/\W.heap[w.heap.size+1]?=some (.loop (rec .ready none))/\W.heap[w.heap.size]?=some (.deferred (some []))) W1 hB1 (by omega) (by omega) (λs A B hb ⟨h1,h2,h3⟩=>⟨hI s A B (hb.mono (by omega)) h1,(hb.block _ (by omega)).trans h2,(hb.block _ (by omega)).trans h3⟩) ?_ ⟨hI _ _ _ hB1 h0,hL1,hD1⟩).mono ?_
  .rintro m pre x W ⟨hi,hl,hd⟩ hlt hpost;have hy:=run_yield (P:=P) (args:=encs x) hl (by rw[hrec];exact hps x);rw[hrec] at hy;refine⟨fn,_,assign,body,hy,roundIn_of_wpIn hfn (hassign _ _ pre x W _ rfl hlt hi hpost λa' Wa hba hax=>?_)⟩;have hla:=(hba.block _ hlt).trans hl;have hda:=(hba.block _ (by omega)).trans hd;have hza:=hba.size;refine⟨_,run_beginRound hla (by rw[hrec]),?_⟩;generalize hWb:Wa.putObj (w.heap.size+1) (.loop {rec .ready none with state:=.busy})=Wb;have hzb:Wb.heap.size=Wa.heap.size:=by rw[<-hWb];simp[World.putObj]
   have hlb:Wb.heap[w.heap.size+1]?=some (.loop {rec .ready none with state:=.busy}):=by rw[<-hWb];exact World.putObj_heap_same (by omega)
   have hbb:Below (w.heap.size+1) Wa Wb:=by rw[<-hWb];exact qI _ _ _ (Lc _)
   have hab:cS 0 (w.heap.size+1) Wa.heap.size Wa Wb:=by rw[<-hWb];exact G9 _ _ _
   have hib:I pre Wb:=hI _ _ _ (hbb.mono (by omega)) (hI _ _ _ (hba.mono (by omega)) hi);refine wpIn_mono (hbody _ _ W.heap.size pre x a' Wb rfl hlt (by omega) hib (hAx _ _ _ _ _ _ hlt hza hax hbb hab) hpost) ?_;rintro e a3 W3 hp;cases e with
   |normal=>
    obtain⟨hi3,ha3⟩:=hp;have hl3:=(ha3.same _ (by omega) hlt (by omega)).trans hlb;have he:=run_endRound (P:=P) none hl3;refine⟨_,_,he,rfl,⟨hI _ _ _ (qI _ _ _ (by omega)) hi3,?_,?_⟩,?_,?_⟩
    .rw[World.putObj_heap_same (LS.1 hl3).1,hrec];rfl
    .rw[World.putObj_heap_other (by omega),ha3.same _ hn₀ (by omega) (by omega),hbb.block _ (by omega)];exact hda
    .have:=ha3.size;simp[World.putObj];omega
    .intro k h1 h2 h3;rw[World.putObj_heap_other (by omega),ha3.same k h1 h2 (by omega),hab.same k (by omega) (by omega) h3];exact hba.block k h2
   |ret=>exact hp.elim
   |exit id=>exact hp.elim
   |goto t=>exact hp.elim
   |panic ch=>exact hp.elim
   |outgrown=>exact hp.elim
  .rintro e W2 ⟨⟨v,rfl⟩,⟨hi,hl,hd⟩,ha⟩;have he:=run_endLoop (P:=P) hl (by rw[hrec];simp);rw[hrec] at he;refine⟨none,_,he,?_⟩;have hz:=ha.size;refine hdone _ (by simp[World.putObj];omega) (hI _ _ _ (qI _ _ _ (by omega)) hi) ?_;rw[World.putObj_heap_other (by omega)];exact hd
def mks(ds:List Nat):List Deferred:=ds.map λD=>{target:=.collected D,args:=#[]}
theorem ud{F:Fence}{n:Nat}{P:Program}{fn:Func}{tmps:Array Value}{R:Ending->World->Prop}{B:Nat}:∀(ds:List Nat)(w:World),ds.Nodup->(∀D∈ds,B<=D/\w.heap[D]?=some (.deferred (some [])))->(∀w',Below B w w'->w'.heap.size=w.heap.size->(∀k,k∉ds->w'.heap[k]?=w.heap[k]?)->LeavesInM F n P fn tmps R [] .returning w')->LeavesInM F n P fn tmps R (mks ds) .returning w
 |[],w,_,_,h=>h w (Lf _ _) rfl λ_ _=>rfl
 |D::ds,w,hn,hd,h=>by
  have hD:=hd D (by simp);have hnd:=List.nodup_cons.1 hn;refine⟨by simp,.inl ⟨D,_,rfl,run_takeDeferred hD.2,ud ds _ hnd.2 (λE hE=>⟨(hd E (by simp[hE])).1,?_⟩) λw' h1 h2 h3=>?_⟩⟩
  .rw[World.putObj_heap_other (λe=>hnd.1 (by first|exact e ▸ hE|exact e.symm ▸ hE))];exact(hd E (by simp[hE])).2
  .refine h w' ((qI w D _ hD.1).trans h1) (h2.trans (by simp[World.putObj])) λk hk=>?_;rw[h3 k (λhk2=>hk (by simp[hk2])),World.putObj_heap_other (λe=>hk (by simp[e]))]
end Go.Proofs.YteimdcndjjclnaaGreat
