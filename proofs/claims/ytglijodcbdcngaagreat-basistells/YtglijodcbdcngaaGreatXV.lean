/- Vectors, and lists of them, that came in. -/
import Derived.Test.YtglijodcbdcngaaGreatP
import Derived.Test.YtglijodcbdcngaaGreatWE
namespace Go.Proofs.YtglijodcbdcngaaGreat
open Go.Proofs.Tryz
set_option linter.unusedSimpArgs false
set_option linter.unusedVariables false
open Go.ChangeShapes Go.WideShapes Go.ChangeAt Go.RowKit Go.Joins Go.Deep
theorem Tryz.cellsPolyX:prog.cellsOf 31=1:=by kernel_rfl
theorem Tryz.cellsVecX:prog.cellsOf 33=1:=by kernel_rfl
theorem Gi{H:Type}{enc:TypeId×Value->H}{W:World}{fuel:Nat}{t:TypeId}{v:Value}{x:DataW H×List MemPlace}(ht:prog.underlying t=some (.slice 31))(h:DataW.trod enc prog W 0 (λ_=>true) true fuel t [v]=some x):∃fs:List (List Tm),Vl W v fs:=by
 rcases open_slice1 ht Tryz.cellsPolyX h with ⟨hcs,_⟩|⟨a,len,cap,m,n,V,D,P,hcs,_,hl,hm,hmm,_,hx⟩
 ·simp at hcs;subst hcs;exact⟨[],none,0,rfl,λh=>absurd h (by simp)⟩
 ·simp at hcs;subst hcs;simp at hmm;subst hmm;obtain⟨T,hT⟩:=choose_lt (α:=List Tm) (n:=m) (p:=λi f=>Pl W (V i) f) (λi hi=>Ew (hx i hi).2);refine⟨(List.range len).map T,some a,m,by simp,λhp=>?_⟩;simp at hp;obtain⟨b,off,rfl⟩:=nR (by simpa using (hx 0 (by omega)).1);refine⟨b,off,rfl,k9 (hx 0 (by omega)).1,λi hi=>?_⟩;simp at hi;have hg:((List.range len).map T).getD i []=T i:=by simp[Hs,hi]
  rw[hg];exact⟨V i,mE (hx i (by omega)).1,hT i (by omega)⟩
theorem Gj{H:Type}{enc:TypeId×Value->H}{W:World}{fuel:Nat}{v:Value}{x:DataW H×List MemPlace}(h:DataW.trod enc prog W 0 (λ_=>true) true fuel 24 [v]=some x):∃vss:List (List (List Tm)),Wl W v vss:=by
 rcases open_slice1 underlying24 Tryz.cellsVecX h with ⟨hcs,_⟩|⟨a,len,cap,m,n,V,D,P,hcs,_,hl,hm,hmm,_,hx⟩
 ·simp at hcs;subst hcs;exact⟨[],none,0,rfl,λh=>absurd h (by simp)⟩
 ·simp at hcs;subst hcs;simp at hmm;subst hmm;obtain⟨T,hT⟩:=choose_lt (α:=List (List Tm)) (n:=m) (p:=λi f=>Vl W (V i) f) (λi hi=>Gi underlying33 (hx i hi).2);refine⟨(List.range len).map T,some a,m,by simp,λhp=>?_⟩;simp at hp;obtain⟨b,off,rfl⟩:=nR (by simpa using (hx 0 (by omega)).1);refine⟨b,off,rfl,k9 (hx 0 (by omega)).1,λi hi=>?_⟩;simp at hi;have hg:((List.range len).map T).getD i []=T i:=by simp[Hs,hi]
  rw[hg];exact⟨V i,mE (hx i (by omega)).1,hT i (by omega)⟩
theorem Ai{H:Type}{enc:TypeId×Value->H}{W:World}{a:Option Addr}{len cap:Nat}{d:DataW H}{p:List MemPlace}(h:DataW.Trod enc prog W 0 (λ_=>true) true 24 (.slice a len cap) d p):∃vss:List (List (List Tm)),Wl W (.slice a len cap) vss:=by obtain⟨fuel,hf⟩:=h;exact Gj (by simpa [Value.cells] using hf)
end Go.Proofs.YtglijodcbdcngaaGreat
