/- MemberSums: a sum of what is in a module is in it, and whatever Combine makes is. For every ring, rank, list, polynomials and vector, without a condition. -/
import Derived.Test.YtjkalahhpobefaaGreatRows
import Derived.Test.YtjkalahhpobefaaGreatUD
set_option maxRecDepth 100000
namespace Go.Proofs.YtjkalahhpobefaaGreat
open Go.Proofs.Tryz
set_option linter.all false
open Go.ChangeShapes Go.WideShapes Go.ChangeAt Go.RowKit Go.Joins
theorem Jn(os:Os)(started:os.Started)(H:Type)(enc:TypeId×PK->H):ReturnsInHanded {} Tryz.checked os 4 .any (Rows.memberSumsSpec.pre6 enc prog Tryz.f4 Rows.memberSumsRow.domain false) (Rows.memberSumsSpec.post enc prog Tryz.f4 false true false false):=by
 refine returnsInHanded_of_change (C:=Tryz.checked) Tryz.own started (by kernel_rfl) func4
  (ChangeSpec.witness6 (enc:=enc) (C:=Tryz.checked) false ⟨#[],#[.agg #[PO 0,PO 0,PO 0,PO 0],PO 0,.slice none 0 0,.slice none 0 0,.slice none 0 0],[]⟩ 8 (by kernel_rfl) (by kernel_rfl) (by kernel_rfl) (by kernel_rfl)) ?_
 intro W base args ds gs before hval0 hW hcnd _;have hval:∀(j:Nat) t v,Tryz.f4.params[j]?=some t->args[j]?=some v->Value.okWide prog W .any base t v:=hval0;have hW':=hW;obtain⟨p,q,hA0,hV,rfl,hfz,hnd⟩:=hW;have hA:DataW.TrodAll enc prog W 0 (λ_=>true) true Tryz.f4.params.toList args.toList ds p:=hA0;rw[Tryz.params4] at hA hval;obtain⟨v0,vs0,d0,ds0,p0,q0,hargs,rfl,rfl,h0,r0⟩:=trodAll_cons hA;obtain⟨v1,vs1,d1,ds1,p1,q1,rfl,rfl,rfl,h1,r1⟩:=trodAll_cons r0;obtain⟨v2,vs2,d2,ds2,p2,q2,rfl,rfl,rfl,h2,r2⟩:=trodAll_cons r1;obtain⟨v3,vs3,d3,ds3,p3,q3,rfl,rfl,rfl,h3,r3⟩:=trodAll_cons r2;obtain⟨v4,vs4,d4,ds4,p4,q4,rfl,rfl,rfl,h4,r4⟩:=trodAll_cons r3;obtain⟨rfl,rfl,rfl⟩:=trodAll_nil r4;obtain rfl:args=#[v0,v1,v2,v3,v4]:=by cases args;simp_all
 obtain⟨rfl,rfl⟩:=trodVars_none hV;have lt0:∀x∈p0,x.block<W.heap.size:=by obtain⟨m,hm⟩:=h0;exact DataW.trod_lt m _ _ _ hm
 have lt2:∀x∈p2,x.block<W.heap.size:=by obtain⟨m,hm⟩:=h2;exact DataW.trod_lt m _ _ _ hm
 have lt3:∀x∈p3,x.block<W.heap.size:=by obtain⟨m,hm⟩:=h3;exact DataW.trod_lt m _ _ _ hm
 have lt4:∀x∈p4,x.block<W.heap.size:=by obtain⟨m,hm⟩:=h4;exact DataW.trod_lt m _ _ _ hm
 obtain⟨rp,rn,ro,rv,rfl⟩:=Jo (hval 0 23 v0 rfl rfl) h0;obtain⟨a1,rfl,rfl,rfl,w1⟩:=open_int underlying3 (hval 1 3 v1 rfl rfl) h1;obtain⟨a2,len2,cap2,rfl⟩:=okWide_slice underlying24 (hval 2 24 v2 rfl rfl);obtain⟨a3,AG,cap3,rfl⟩:=okWide_slice underlying31 (hval 3 31 v3 rfl rfl);obtain⟨a4,len4,cap4,rfl⟩:=okWide_slice underlying32 (hval 4 32 v4 rfl rfl);obtain⟨lss,s2⟩:=Jp h2;obtain⟨cs,s3⟩:=BN underlying31 h3;obtain⟨gs,s4⟩:=BN underlying32 h4;clear hA0 hval0;refine(Jq Jr rp rn ro rv a1 _ _ _ lss cs gs W s2 s3 s4).mono λe W' ⟨he,bel⟩=>?_;subst he;exact⟨_,rfl,_,_,_,[],_,[],hW',trodAll_mk1 (shut_bool underlying4 _),(trodAll_cons_mk (Below.trod Tryz.laidOut (by kernel_rfl) (of_decide_eq_true (by kernel_rfl)) h0 bel lt0) (trodAll_cons_mk (shut_int underlying3 w1) (trodAll_cons_mk (Below.trod Tryz.laidOut (by kernel_rfl) (of_decide_eq_true (by kernel_rfl)) h2 bel lt2) (trodAll_cons_mk (Below.trod Tryz.laidOut (by kernel_rfl) (of_decide_eq_true (by kernel_rfl)) h3 bel lt3) (trodAll_cons_mk (Below.trod Tryz.laidOut (by kernel_rfl) (of_decide_eq_true (by kernel_rfl)) h4 bel lt4) trodAll_mk0))))),rfl,bel.frame _,λh=>by cases h⟩
theorem Js:(Rows.memberSumsRow.inPlace==Tryz.pinned.checked.prog.inPlace 4)=true:=by kernel_rfl
theorem Jt:(Rows.memberSumsRow.unfollowed==Tryz.pinned.checked.prog.unfollowed 4)=true:=by kernel_rfl
theorem Ju:(Rows.memberSumsRow.recurses==Tryz.pinned.checked.prog.recurses 4)=true:=by kernel_rfl
theorem Jv:(Rows.memberSumsRow.named==Tryz.pinned.checked.prog.varsNamed 4)=true:=by kernel_rfl
theorem Jw:laidOutB Tryz.pinned.checked.prog=true:=by kernel_rfl
theorem Jx:mapsRowed Tryz.pinned.checked.prog=true:=by kernel_rfl
theorem Jy:Tryz.pinned.checked.prog.mayEnter=true:=by kernel_rfl
theorem Jz:Tryz.pinned.checked.prog.stopsHeard=true:=by kernel_rfl
theorem JA:joinedFacts Tryz.pinned.checked.prog 4 Tryz.f4 Rows.memberSumsSpec Rows.memberSumsRow=true:=by unfold joinedFacts;rw[Js,Jt,Ju,Jv,Jw,Jx,Jy,Jz];kernel_rfl
theorem JB:Tryz.f4.isInstance Tryz.pinned.checked.prog Rows.memberSumsRow.origin Rows.memberSumsRow.targs:=of_decide_eq_true (by kernel_rfl)
theorem JC:Tryz.f4.isWrapper Tryz.pinned.checked.prog Rows.memberSumsRow.wrapper Rows.memberSumsRow.mainSum:=by unfold Func.isWrapper;first|(rw[OW (by decide+kernel)];kernel_rfl)|(rw[OV (by decide+kernel)];exact⟨rfl,rfl⟩)
theorem JD:Tryz.pinned.checked.prog.funcNamed Rows.memberSumsRow.func=some 4:=by kernel_rfl
theorem memberSums_holds:Rows.MemberSumsSaid:=
 OpenClaim.holds_of_wide 4 Tryz.f4 rfl rfl rfl rfl rfl rfl rfl ⟨rfl,rfl,rfl,rfl,rfl⟩ rfl rfl rfl rfl rfl JD func4 JA
  JB JC
  (λos started H enc _=>Jn os started H enc)
end Go.Proofs.YtjkalahhpobefaaGreat
