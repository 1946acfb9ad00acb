/- HilbertCounts: Check, Count and Free answer just what the document says, errors too. For every ring, list of degrees, list of vectors and numbers, without a condition. -/
import Derived.Test.YteimdcndjjclnaaGreatRows
import Derived.Test.YteimdcndjjclnaaGreatLC
set_option maxRecDepth 100000
namespace Go.Proofs.YteimdcndjjclnaaGreat
open Go.Proofs.Tryz
set_option linter.all false
open Go.ChangeShapes Go.WideShapes Go.ChangeAt Go.RowKit Go.Joins
theorem Ai{x:Int}(h:(Lit.int .i64 x).wf=true):-9223372036854775808<=x/\x<=9223372036854775807:=by simp[Lit.wf,IntKind.min,IntKind.max,IntKind.signed,IntKind.bits] at h;omega
theorem GF(os:Os)(started:os.Started)(H:Type)(enc:TypeId×Value->H):ReturnsInHanded {} Tryz.checked os 3 .any (Rows.hilbertCountsSpec.pre6 enc prog Tryz.f3 Rows.hilbertCountsRow.domain false) (Rows.hilbertCountsSpec.post enc prog Tryz.f3 false true false false):=by
 refine returnsInHanded_of_change (C:=Tryz.checked) Tryz.own started (by kernel_rfl) func3
  (ChangeSpec.witness6 (enc:=enc) (C:=Tryz.checked) false ⟨#[],#[.agg #[.int .i64 0,.int .i64 0,.int .i64 0,.int .i64 0],.slice none 0 0,.slice none 0 0,.int .i64 0,.int .i64 0],[]⟩ 8 (by kernel_rfl) (by kernel_rfl) (by kernel_rfl) (by kernel_rfl)) ?_
 intro W base args ds gs before hval0 hW hcnd _;have hval:∀(j:Nat) t v,Tryz.f3.params[j]?=some t->args[j]?=some v->Value.okWide prog W .any base t v:=hval0;have hW':=hW;obtain⟨p,q,hA0,hV,rfl,hfz,hnd⟩:=hW;have hA:DataW.TrodAll enc prog W 0 (λ_=>true) true Tryz.f3.params.toList args.toList ds p:=hA0;rw[Tryz.params3] at hA hval;obtain⟨v0,vs0,d0,ds0,p0,q0,hargs,rfl,rfl,h0,r0⟩:=trodAll_cons hA;obtain⟨v1,vs1,d1,ds1,p1,q1,rfl,rfl,rfl,h1,r1⟩:=trodAll_cons r0;obtain⟨v2,vs2,d2,ds2,p2,q2,rfl,rfl,rfl,h2,r2⟩:=trodAll_cons r1;obtain⟨v3,vs3,d3,ds3,p3,q3,rfl,rfl,rfl,h3,r3⟩:=trodAll_cons r2;obtain⟨v4,vs4,d4,ds4,p4,q4,rfl,rfl,rfl,h4,r4⟩:=trodAll_cons r3;obtain⟨rfl,rfl,rfl⟩:=trodAll_nil r4;obtain rfl:args=#[v0,v1,v2,v3,v4]:=by cases args;simp_all
 obtain⟨rfl,rfl⟩:=trodVars_none hV;have lt0:∀x∈p0,x.block<W.heap.size:=by obtain⟨m,hm⟩:=h0;exact DataW.trod_lt m _ _ _ hm
 have lt1:∀x∈p1,x.block<W.heap.size:=by obtain⟨m,hm⟩:=h1;exact DataW.trod_lt m _ _ _ hm
 have lt2:∀x∈p2,x.block<W.heap.size:=by obtain⟨m,hm⟩:=h2;exact DataW.trod_lt m _ _ _ hm
 obtain⟨rp,rn,ro,rv,rfl⟩:=GG (hval 0 23 v0 rfl rfl) h0;obtain⟨a1,len1,cap1,rfl⟩:=okWide_slice underlying24 (hval 1 24 v1 rfl rfl);obtain⟨a2,len2,cap2,rfl⟩:=okWide_slice underlying25 (hval 2 25 v2 rfl rfl);obtain⟨a3,rfl,rfl,rfl,w3⟩:=open_int underlying3 (hval 3 3 v3 rfl rfl) h3;obtain⟨a4,rfl,rfl,rfl,w4⟩:=open_int underlying3 (hval 4 3 v4 rfl rfl) h4;obtain⟨zs,s1⟩:=GH h1;obtain⟨vss,s2⟩:=GI h2;clear hA0 hval0;refine(GJ rp rn ro rv _ _ zs vss a3 a4 W s1 s2 (Ai w3) (Ai w4)).mono λe W' ⟨he,bel⟩=>?_;subst he;exact⟨_,rfl,_,_,_,[],_,[],hW',trodAll_mk1 (shut_bool underlying4 _),(trodAll_cons_mk (Below.trod Tryz.laidOut (by kernel_rfl) (of_decide_eq_true (by kernel_rfl)) h0 bel lt0) (trodAll_cons_mk (Below.trod Tryz.laidOut (by kernel_rfl) (of_decide_eq_true (by kernel_rfl)) h1 bel lt1) (trodAll_cons_mk (Below.trod Tryz.laidOut (by kernel_rfl) (of_decide_eq_true (by kernel_rfl)) h2 bel lt2) (trodAll_cons_mk (shut_int underlying3 w3) (trodAll_cons_mk (shut_int underlying3 w4) trodAll_mk0))))),rfl,bel.frame _,λh=>by cases h⟩
theorem GK:(Rows.hilbertCountsRow.inPlace==Tryz.pinned.checked.prog.inPlace 3)=true:=by kernel_rfl
theorem GL:(Rows.hilbertCountsRow.unfollowed==Tryz.pinned.checked.prog.unfollowed 3)=true:=by kernel_rfl
theorem GM:(Rows.hilbertCountsRow.recurses==Tryz.pinned.checked.prog.recurses 3)=true:=by kernel_rfl
theorem GN:(Rows.hilbertCountsRow.named==Tryz.pinned.checked.prog.varsNamed 3)=true:=by kernel_rfl
theorem GO:laidOutB Tryz.pinned.checked.prog=true:=by kernel_rfl
theorem GP:mapsRowed Tryz.pinned.checked.prog=true:=by kernel_rfl
theorem GQ:Tryz.pinned.checked.prog.mayEnter=true:=by kernel_rfl
theorem GR:Tryz.pinned.checked.prog.stopsHeard=true:=by kernel_rfl
theorem GS:joinedFacts Tryz.pinned.checked.prog 3 Tryz.f3 Rows.hilbertCountsSpec Rows.hilbertCountsRow=true:=by unfold joinedFacts;rw[GK,GL,GM,GN,GO,GP,GQ,GR];kernel_rfl
theorem GU:Tryz.f3.isInstance Tryz.pinned.checked.prog Rows.hilbertCountsRow.origin Rows.hilbertCountsRow.targs:=of_decide_eq_true (by kernel_rfl)
theorem GV:Tryz.f3.isWrapper Tryz.pinned.checked.prog Rows.hilbertCountsRow.wrapper Rows.hilbertCountsRow.mainSum:=by unfold Func.isWrapper;first|(rw[M9 (by decide+kernel)];kernel_rfl)|(rw[M8 (by decide+kernel)];exact⟨rfl,rfl⟩)
theorem GX:Tryz.pinned.checked.prog.funcNamed Rows.hilbertCountsRow.func=some 3:=by kernel_rfl
theorem hilbertCounts_holds:Rows.HilbertCountsSaid:=
 OpenClaim.holds_of_wide 3 Tryz.f3 rfl rfl rfl rfl rfl rfl rfl ⟨rfl,rfl,rfl,rfl,rfl⟩ rfl rfl rfl rfl rfl GX func3 GS
  GU GV
  (λos started H enc _=>GF os started H enc)
end Go.Proofs.YteimdcndjjclnaaGreat
