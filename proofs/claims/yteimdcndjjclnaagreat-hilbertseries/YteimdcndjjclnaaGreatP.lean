/- The frame of the rows: what comes in, as slices and rings. -/
import Derived.Test.YteimdcndjjclnaaGreatM
import Derived.Lib.SmallJoins
import Derived.Test.YteimdcndjjclnaaGreatPA
import Derived.Test.YteimdcndjjclnaaGreatFR
import Derived.Deep.SlicePairs
set_option maxRecDepth 100000
namespace Go.Proofs.YteimdcndjjclnaaGreat
open Go.Proofs.Tryz
set_option linter.all false
open Go.ChangeShapes Go.WideShapes Go.ChangeAt Go.RowKit Go.Joins
theorem Tryz.own:ownKnob prog.godebug=none:=by kernel_rfl
theorem Tryz.laidOut:laidOutB prog=true:=by kernel_rfl
theorem Tryz.cellsInt:prog.cellsOf 3=1:=by kernel_rfl
theorem Tryz.cellsRing:prog.cellsOf 23=4:=by kernel_rfl
theorem I4{w:World}{a:Addr}{v:Value}(h:w.cell? a=some v):a.block<w.heap.size:=by unfold World.cell? at h;apply LF;intro hn;rw[Array.getElem?_eq_none hn] at h;simp at h
theorem FB{H:Type}{enc:TypeId×Value->H}{W:World}{a:Option Addr}{len cap:Nat}{d:DataW H}{p:List MemPlace}(h:DataW.Trod enc prog W 0 (λ_=>true) true 24 (.slice a len cap) d p):∃xs:List Int,Sl W (.slice a len cap) xs:=by
 obtain⟨fuel,hf⟩:=h;rcases open_ints underlying24 underlying3 Tryz.cellsInt hf with ⟨hcs,_⟩|⟨x,l,c,zs,hcs,_,hl,hm,hz,_,hcell,hwz⟩
 .simp[Value.cells] at hcs;obtain⟨rfl,rfl,rfl⟩:=hcs;exact⟨[],none,0,rfl,λh=>absurd h (by simp)⟩
 .simp[Value.cells] at hcs;obtain⟨rfl,rfl,rfl⟩:=hcs;simp at hz;have hlen:(zs.take len).length=len:=by rw[LU];omega
  refine⟨zs.take len,some x,cap,by rw[hlen],λhp=>?_⟩;rw[hlen] at hp;obtain⟨b,off,spot⟩:=x;have hc:=hcell 0 (by omega);have hspot:spot=none:=by simpa [Addr.add] using World.cell?_spot hc
  subst hspot;refine⟨b,off,rfl,?_,λi hi=>?_⟩
  .exact I4 hc
  .rw[hlen] at hi;have:=hcell i (by omega);have e:(zs.take len).getD i 0=zs.getD i 0:=by simp[Lr,List.getElem?_take,hi]
   rw[e];by_cases h0:i=0
   .subst h0;simpa [Addr.add] using this
   .simpa [Addr.add,h0] using this
theorem FA{H:Type}{enc:TypeId×Value->H}{W:World}{b0:Nat}{v:Value}{d:DataW H}{p:List MemPlace}(hv:Value.okWide prog W .any b0 23 v)(h:DataW.Trod enc prog W 0 (λ_=>true) true 23 v d p):∃a b c e:Int,v=aT a b c e:=by obtain⟨c0,c1,c2,c3,y0,y1,y2,y3,m,rfl,_,_,hy0,hy1,hy2,hy3⟩:=open_agg4 underlying23 (by kernel_rfl) Tryz.cellsRing hv h;obtain⟨a,e0,_,_⟩:=DataW.trod_int underlying3 hy0;obtain⟨b,e1,_,_⟩:=DataW.trod_int underlying3 hy1;obtain⟨c,e2,_,_⟩:=DataW.trod_int underlying3 hy2;obtain⟨e,e3,_,_⟩:=DataW.trod_int underlying3 hy3;simp at e0 e1 e2 e3;subst e0 e1 e2 e3;exact⟨a,b,c,e,rfl⟩
end Go.Proofs.YteimdcndjjclnaaGreat
namespace Go.Proofs.YteimdcndjjclnaaGreat
open Go.Proofs.Tryz
set_option linter.all false
open Go.ChangeShapes Go.WideShapes Go.ChangeAt Go.RowKit Go.Joins Go.Deep
theorem Tryz.cellsTerm:prog.cellsOf 57=2:=by kernel_rfl
theorem Tryz.cellsIntsP:prog.cellsOf 24=1:=by kernel_rfl
theorem I5{H:Type}{enc:TypeId×Value->H}{W:World}{fuel:Nat}{v:Value}{x:DataW H×List MemPlace}(h:DataW.trod enc prog W 0 (λ_=>true) true fuel 24 [v]=some x):∃xs:List Int,Sl W v xs:=by
 rcases open_ints underlying24 underlying3 Tryz.cellsInt h with ⟨hcs,_⟩|⟨x,l,c,zs,hcs,_,hl,hm,hz,_,hcell,hwz⟩
 .simp at hcs;subst hcs;exact⟨[],none,0,rfl,λh=>absurd h (by simp)⟩
 .simp at hcs;subst hcs;simp at hz;have hlen:(zs.take l).length=l:=by rw[LU];omega
  refine⟨zs.take l,some x,c,by rw[hlen],λhp=>?_⟩;rw[hlen] at hp;obtain⟨b,off,rfl⟩:=pN (hcell 0 (by omega));refine⟨b,off,rfl,mt (hcell 0 (by omega)),λi hi=>?_⟩;rw[hlen] at hi;have e:(zs.take l).getD i 0=zs.getD i 0:=by simp[Lr,List.getElem?_take,hi]
  rw[e];exact od (hcell i (by omega))
theorem I6{H:Type}{enc:TypeId×Value->H}{W:World}{fuel:Nat}{v:Value}{x:DataW H×List MemPlace}(h:DataW.trod enc prog W 0 (λ_=>true) true fuel 59 [v]=some x):∃ts:List Tm,Pl W v ts:=by
 rcases open_slice_pairs (P:=prog) underlying59 underlying57 Tryz.cellsTerm rfl rfl Tryz.cellsInt Tryz.cellsIntsP h with ⟨hcs,_⟩|⟨a,len,cap,m,n,V0,V1,D0,D1,P0,P1,hcs,_,hl,hm,hmm,_,hx⟩
 .simp at hcs;subst hcs;exact⟨[],none,0,rfl,Lc _,λh=>absurd h (by simp)⟩
 .simp at hcs;subst hcs;simp at hmm;subst hmm;obtain⟨T,hT⟩:=choose_lt (α:=Tm) (n:=m) (p:=λi t=>V0 i=.int .i64 t.1/\Sl W (V1 i) t.2) (λi hi=>by
   obtain⟨_,_,h0,h1⟩:=hx i hi;obtain⟨xs,hs⟩:=I5 h1;obtain⟨k,hk,_⟩:=DataW.trod_int underlying3 h0;exact⟨(k,xs),by simpa using hk,hs⟩)
  refine⟨(List.range len).map T,some a,m,by simp,by simpa using hl,λhp=>?_⟩;simp at hp;obtain⟨b,off,rfl⟩:=pN (by simpa using (hx 0 (by omega)).1);refine⟨b,off,rfl,mt (hx 0 (by omega)).1,λi hi=>?_⟩;simp at hi;have hg:((List.range len).map T).getD i bT=T i:=by simp[Lr,hi]
  rw[hg];obtain⟨h0,h1,_,_⟩:=hx i (by omega);obtain⟨e0,hs⟩:=hT i (by omega);rw[e0] at h0;exact⟨od h0,V1 i,od h1,hs⟩
end Go.Proofs.YteimdcndjjclnaaGreat
