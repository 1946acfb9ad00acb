/- The frame of the rows. -/
import Derived.Test.YtjkalahhpobefaaGreatM
import Derived.Lib.SmallJoins
import Derived.Test.YtjkalahhpobefaaGreatFR
import Derived.Deep.SlicePairs
set_option maxRecDepth 100000
namespace Go.Proofs.YtjkalahhpobefaaGreat
open Go.Proofs.Tryz
set_option linter.all false
open Go.ChangeShapes Go.WideShapes Go.ChangeAt Go.RowKit Go.Joins
theorem Tryz.own:ownKnob prog.godebug=none:=by kernel_rfl
theorem Tryz.laidOut:laidOutB prog=true:=by kernel_rfl
theorem Tryz.cellsInt:prog.cellsOf 3=1:=by kernel_rfl
theorem Tryz.cellsRing:prog.cellsOf 23=4:=by kernel_rfl
theorem Jo{H:Type}{enc:TypeId×PK->H}{W:PJ}{b0:Nat}{v:PK}{d:DataW H}{p:List MemPlace}(hv:Value.okWide prog W .any b0 23 v)(h:DataW.Trod enc prog W 0 (λ_=>true) true 23 v d p):∃a b c e:Int,v=aI a b c e:=by obtain⟨c0,c1,c2,c3,y0,y1,y2,y3,m,rfl,_,_,hy0,hy1,hy2,hy3⟩:=open_agg4 underlying23 (by kernel_rfl) Tryz.cellsRing hv h;obtain⟨a,e0,_,_⟩:=DataW.trod_int underlying3 hy0;obtain⟨b,e1,_,_⟩:=DataW.trod_int underlying3 hy1;obtain⟨c,e2,_,_⟩:=DataW.trod_int underlying3 hy2;obtain⟨e,e3,_,_⟩:=DataW.trod_int underlying3 hy3;simp at e0 e1 e2 e3;subst e0 e1 e2 e3;exact⟨a,b,c,e,rfl⟩
end Go.Proofs.YtjkalahhpobefaaGreat
namespace Go.Proofs.YtjkalahhpobefaaGreat
open Go.Proofs.Tryz
set_option linter.all false
open Go.ChangeShapes Go.WideShapes Go.ChangeAt Go.RowKit Go.Joins Go.Deep
theorem Tryz.cellsTerm:prog.cellsOf 47=2:=by kernel_rfl
theorem Tryz.cellsIntsP:prog.cellsOf 45=1:=by kernel_rfl
variable{v:PK}{fuel:Nat}{W:PJ}
theorem JM{H:Type}{enc:TypeId×PK->H}{x:DataW H×List MemPlace}(h:DataW.trod enc prog W 0 (λ_=>true) true fuel 45 [v]=some x):∃xs:PI,Sl W v xs:=by
 rcases open_ints underlying45 underlying3 Tryz.cellsInt h with ⟨hcs,_⟩|⟨x,l,c,zs,hcs,_,hl,hm,hz,_,hcell,hwz⟩
 .simp at hcs;subst hcs;exact⟨[],none,0,rfl,λh=>absurd h (by simp)⟩
 .simp at hcs;subst hcs;simp at hz;have hlen:(zs.take l).length=l:=by rw[O7];omega
  refine⟨zs.take l,some x,c,by rw[hlen],λhp=>?_⟩;rw[hlen] at hp;obtain⟨b,off,rfl⟩:=re (hcell 0 (by omega));refine⟨b,off,rfl,nv (hcell 0 (by omega)),λi hi=>?_⟩;rw[hlen] at hi;have e:(zs.take l).getD i 0=zs.getD i 0:=by simp[OH,List.getElem?_take,hi]
  rw[e];exact nw (hcell i (by omega))
theorem JN{H:Type}{enc:TypeId×PK->H}{x:DataW H×List MemPlace}(h:DataW.trod enc prog W 0 (λ_=>true) true fuel 40 [v]=some x):∃ts:LT,Pl W v ts:=by
 rcases open_slice_pairs (P:=prog) underlying40 underlying47 Tryz.cellsTerm rfl rfl Tryz.cellsInt Tryz.cellsIntsP h with ⟨hcs,_⟩|⟨a,len,cap,m,n,V0,V1,D0,D1,P0,P1,hcs,_,hl,hm,hmm,_,hx⟩
 .simp at hcs;subst hcs;exact⟨[],none,0,rfl,Ou _,λh=>absurd h (by simp)⟩
 .simp at hcs;subst hcs;simp at hmm;subst hmm;obtain⟨T,hT⟩:=choose_lt (α:=Tm) (n:=m) (p:=λi t=>V0 i=PO t.1/\Sl W (V1 i) t.2) (λi hi=>by
   obtain⟨_,_,h0,h1⟩:=hx i hi;obtain⟨xs,hs⟩:=JM h1;obtain⟨k,hk,_⟩:=DataW.trod_int underlying3 h0;exact⟨(k,xs),by simpa using hk,hs⟩)
  refine⟨(List.range len).map T,some a,m,by simp,by simpa using hl,λhp=>?_⟩;simp at hp;obtain⟨b,off,rfl⟩:=re (by simpa using (hx 0 (by omega)).1);refine⟨b,off,rfl,nv (hx 0 (by omega)).1,λi hi=>?_⟩;simp at hi;have hg:((List.range len).map T).getD i bV=T i:=by simp[OH,hi]
  rw[hg];obtain⟨h0,h1,_,_⟩:=hx i (by omega);obtain⟨e0,hs⟩:=hT i (by omega);rw[e0] at h0;exact⟨nw h0,V1 i,nw h1,hs⟩
end Go.Proofs.YtjkalahhpobefaaGreat
