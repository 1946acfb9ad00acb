/- HilbertSeries: of each degree up to 12, Count is the sum of each number of the numerator times how many are free, and no more than what is there; errors are what the document says. For every ring, list of degrees and list of vectors, without a condition. -/
import Derived.Test.YteimdcndjjclnaaGreatRows
import Derived.Test.YteimdcndjjclnaaGreatLF
set_option maxRecDepth 100000
namespace Go.Proofs.YteimdcndjjclnaaGreat
open Go.Proofs.Tryz
set_option linter.all false
open Go.ChangeShapes Go.WideShapes Go.ChangeAt Go.RowKit Go.Joins
theorem Fz(os:Os)(started:os.Started)(H:Type)(enc:TypeId×Value->H):ReturnsInHanded {} Tryz.checked os 4 .any (Rows.hilbertSeriesSpec.pre6 enc prog Tryz.f4 Rows.hilbertSeriesRow.domain false) (Rows.hilbertSeriesSpec.post enc prog Tryz.f4 false true false false):=by
 refine returnsInHanded_of_change (C:=Tryz.checked) Tryz.own started (by kernel_rfl) func4
  (ChangeSpec.witness6 (enc:=enc) (C:=Tryz.checked) false ⟨#[],#[.agg #[.int .i64 0,.int .i64 0,.int .i64 0,.int .i64 0],.slice none 0 0,.slice none 0 0],[]⟩ 8 (by kernel_rfl) (by kernel_rfl) (by kernel_rfl) (by kernel_rfl)) ?_
 intro W base args ds gs before hval0 hW hcnd _;have hval:∀(j:Nat) t v,Tryz.f4.params[j]?=some t->args[j]?=some v->Value.okWide prog W .any base t v:=hval0;have hW':=hW;obtain⟨p,q,hA0,hV,rfl,hfz,hnd⟩:=hW;have hA:DataW.TrodAll enc prog W 0 (λ_=>true) true Tryz.f4.params.toList args.toList ds p:=hA0;rw[Tryz.params4] at hA hval;obtain⟨v0,vs0,d0,ds0,p0,q0,hargs,rfl,rfl,h0,r0⟩:=trodAll_cons hA;obtain⟨v1,vs1,d1,ds1,p1,q1,rfl,rfl,rfl,h1,r1⟩:=trodAll_cons r0;obtain⟨v2,vs2,d2,ds2,p2,q2,rfl,rfl,rfl,h2,r2⟩:=trodAll_cons r1;obtain⟨rfl,rfl,rfl⟩:=trodAll_nil r2;obtain rfl:args=#[v0,v1,v2]:=by cases args;simp_all
 obtain⟨rfl,rfl⟩:=trodVars_none hV;have lt0:∀x∈p0,x.block<W.heap.size:=by obtain⟨m,hm⟩:=h0;exact DataW.trod_lt m _ _ _ hm
 have lt1:∀x∈p1,x.block<W.heap.size:=by obtain⟨m,hm⟩:=h1;exact DataW.trod_lt m _ _ _ hm
 have lt2:∀x∈p2,x.block<W.heap.size:=by obtain⟨m,hm⟩:=h2;exact DataW.trod_lt m _ _ _ hm
 obtain⟨rp,rn,ro,rv,rfl⟩:=FA (hval 0 23 v0 rfl rfl) h0;obtain⟨a1,len1,cap1,rfl⟩:=okWide_slice underlying24 (hval 1 24 v1 rfl rfl);obtain⟨a2,len2,cap2,rfl⟩:=okWide_slice underlying25 (hval 2 25 v2 rfl rfl);obtain⟨zs,s1⟩:=FB h1;obtain⟨vss,s2⟩:=FC h2;clear hA0 hval0;refine(FD rp rn ro rv _ _ zs vss W s1 s2).mono λe W' ⟨he,bel⟩=>?_;subst he;exact⟨_,rfl,_,_,_,[],_,[],hW',trodAll_mk1 (shut_bool underlying4 _),(trodAll_cons_mk (Below.trod Tryz.laidOut (by kernel_rfl) (of_decide_eq_true (by kernel_rfl)) h0 bel lt0) (trodAll_cons_mk (Below.trod Tryz.laidOut (by kernel_rfl) (of_decide_eq_true (by kernel_rfl)) h1 bel lt1) (trodAll_cons_mk (Below.trod Tryz.laidOut (by kernel_rfl) (of_decide_eq_true (by kernel_rfl)) h2 bel lt2) trodAll_mk0))),rfl,bel.frame _,λh=>by cases h⟩
theorem FE:(Rows.hilbertSeriesRow.inPlace==Tryz.pinned.checked.prog.inPlace 4)=true:=by kernel_rfl
theorem FF:(Rows.hilbertSeriesRow.unfollowed==Tryz.pinned.checked.prog.unfollowed 4)=true:=by kernel_rfl
theorem FG:(Rows.hilbertSeriesRow.recurses==Tryz.pinned.checked.prog.recurses 4)=true:=by kernel_rfl
theorem FH:(Rows.hilbertSeriesRow.named==Tryz.pinned.checked.prog.varsNamed 4)=true:=by kernel_rfl
theorem FI:laidOutB Tryz.pinned.checked.prog=true:=by kernel_rfl
theorem FJ:mapsRowed Tryz.pinned.checked.prog=true:=by kernel_rfl
theorem FK:Tryz.pinned.checked.prog.mayEnter=true:=by kernel_rfl
theorem FL:Tryz.pinned.checked.prog.stopsHeard=true:=by kernel_rfl
theorem FM:joinedFacts Tryz.pinned.checked.prog 4 Tryz.f4 Rows.hilbertSeriesSpec Rows.hilbertSeriesRow=true:=by unfold joinedFacts;rw[FE,FF,FG,FH,FI,FJ,FK,FL];kernel_rfl
theorem FN:Tryz.f4.isInstance Tryz.pinned.checked.prog Rows.hilbertSeriesRow.origin Rows.hilbertSeriesRow.targs:=of_decide_eq_true (by kernel_rfl)
theorem FO:Tryz.f4.isWrapper Tryz.pinned.checked.prog Rows.hilbertSeriesRow.wrapper Rows.hilbertSeriesRow.mainSum:=by unfold Func.isWrapper;first|(rw[LI (by decide+kernel)];kernel_rfl)|(rw[LH (by decide+kernel)];exact⟨rfl,rfl⟩)
theorem FP:Tryz.pinned.checked.prog.funcNamed Rows.hilbertSeriesRow.func=some 4:=by kernel_rfl
theorem hilbertSeries_holds:Rows.HilbertSeriesSaid:=
 OpenClaim.holds_of_wide 4 Tryz.f4 rfl rfl rfl rfl rfl rfl rfl ⟨rfl,rfl,rfl,rfl,rfl⟩ rfl rfl rfl rfl rfl FP func4 FM
  FN FO
  (λos started H enc _=>Fz os started H enc)
end Go.Proofs.YteimdcndjjclnaaGreat
