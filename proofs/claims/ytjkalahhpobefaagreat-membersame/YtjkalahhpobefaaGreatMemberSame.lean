/- MemberSame: Same answers just whether each list's vectors are in the other one's module, errors too. For every ring, rank and two lists, without a condition. -/
import Derived.Test.YtjkalahhpobefaaGreatRows
import Derived.Test.YtjkalahhpobefaaGreatUD
set_option maxRecDepth 100000
namespace Go.Proofs.YtjkalahhpobefaaGreat
open Go.Proofs.Tryz
set_option linter.all false
open Go.ChangeShapes Go.WideShapes Go.ChangeAt Go.RowKit Go.Joins
theorem IX(os:Os)(started:os.Started)(H:Type)(enc:TypeId×OR->H):ReturnsInHanded {} Tryz.checked os 3 .any (Rows.memberSameSpec.pre6 enc prog Tryz.f3 Rows.memberSameRow.domain false) (Rows.memberSameSpec.post enc prog Tryz.f3 false true false false):=by
 refine returnsInHanded_of_change (C:=Tryz.checked) Tryz.own started (by kernel_rfl) func3
  (ChangeSpec.witness6 (enc:=enc) (C:=Tryz.checked) false ⟨#[],#[.agg #[OW 0,OW 0,OW 0,OW 0],OW 0,.slice none 0 0,.slice none 0 0],[]⟩ 8 (by kernel_rfl) (by kernel_rfl) (by kernel_rfl) (by kernel_rfl)) ?_
 intro W base args ds gs before hval0 hW hcnd _;have hval:∀(j:Nat) t v,Tryz.f3.params[j]?=some t->args[j]?=some v->Value.okWide prog W .any base t v:=hval0;have hW':=hW;obtain⟨p,q,hA0,hV,rfl,hfz,hnd⟩:=hW;have hA:DataW.TrodAll enc prog W 0 (λ_=>true) true Tryz.f3.params.toList args.toList ds p:=hA0;rw[Tryz.params3] at hA hval;obtain⟨v0,vs0,d0,ds0,p0,q0,hargs,rfl,rfl,h0,r0⟩:=trodAll_cons hA;obtain⟨v1,vs1,d1,ds1,p1,q1,rfl,rfl,rfl,h1,r1⟩:=trodAll_cons r0;obtain⟨v2,vs2,d2,ds2,p2,q2,rfl,rfl,rfl,h2,r2⟩:=trodAll_cons r1;obtain⟨v3,vs3,d3,ds3,p3,q3,rfl,rfl,rfl,h3,r3⟩:=trodAll_cons r2;obtain⟨rfl,rfl,rfl⟩:=trodAll_nil r3;obtain rfl:args=#[v0,v1,v2,v3]:=by cases args;simp_all
 obtain⟨rfl,rfl⟩:=trodVars_none hV;have lt0:∀x∈p0,x.block<W.heap.size:=by obtain⟨m,hm⟩:=h0;exact DataW.trod_lt m _ _ _ hm
 have lt2:∀x∈p2,x.block<W.heap.size:=by obtain⟨m,hm⟩:=h2;exact DataW.trod_lt m _ _ _ hm
 have lt3:∀x∈p3,x.block<W.heap.size:=by obtain⟨m,hm⟩:=h3;exact DataW.trod_lt m _ _ _ hm
 obtain⟨rp,rn,ro,rv,rfl⟩:=IY (hval 0 23 v0 rfl rfl) h0;obtain⟨a1,rfl,rfl,rfl,w1⟩:=open_int underlying3 (hval 1 3 v1 rfl rfl) h1;obtain⟨a2,len2,cap2,rfl⟩:=okWide_slice underlying24 (hval 2 24 v2 rfl rfl);obtain⟨a3,Aw,cap3,rfl⟩:=okWide_slice underlying24 (hval 3 24 v3 rfl rfl);obtain⟨ass,s2⟩:=BF h2;obtain⟨bss,s3⟩:=BF h3;clear hA0 hval0;refine(IZ I0 rp rn ro rv a1 _ _ ass bss W s2 s3).mono λe W' ⟨he,bel⟩=>?_;subst he;exact⟨_,rfl,_,_,_,[],_,[],hW',trodAll_mk1 (shut_bool underlying4 _),(trodAll_cons_mk (Below.trod Tryz.laidOut (by kernel_rfl) (of_decide_eq_true (by kernel_rfl)) h0 bel lt0) (trodAll_cons_mk (shut_int underlying3 w1) (trodAll_cons_mk (Below.trod Tryz.laidOut (by kernel_rfl) (of_decide_eq_true (by kernel_rfl)) h2 bel lt2) (trodAll_cons_mk (Below.trod Tryz.laidOut (by kernel_rfl) (of_decide_eq_true (by kernel_rfl)) h3 bel lt3) trodAll_mk0)))),rfl,bel.frame _,λh=>by cases h⟩
theorem I1:(Rows.memberSameRow.inPlace==Tryz.pinned.checked.prog.inPlace 3)=true:=by kernel_rfl
theorem I2:(Rows.memberSameRow.unfollowed==Tryz.pinned.checked.prog.unfollowed 3)=true:=by kernel_rfl
theorem I3:(Rows.memberSameRow.recurses==Tryz.pinned.checked.prog.recurses 3)=true:=by kernel_rfl
theorem I4:(Rows.memberSameRow.named==Tryz.pinned.checked.prog.varsNamed 3)=true:=by kernel_rfl
theorem I5:laidOutB Tryz.pinned.checked.prog=true:=by kernel_rfl
theorem I6:mapsRowed Tryz.pinned.checked.prog=true:=by kernel_rfl
theorem I7:Tryz.pinned.checked.prog.mayEnter=true:=by kernel_rfl
theorem I8:Tryz.pinned.checked.prog.stopsHeard=true:=by kernel_rfl
theorem I9:joinedFacts Tryz.pinned.checked.prog 3 Tryz.f3 Rows.memberSameSpec Rows.memberSameRow=true:=by unfold joinedFacts;rw[I1,I2,I3,I4,I5,I6,I7,I8];kernel_rfl
theorem Ja:Tryz.f3.isInstance Tryz.pinned.checked.prog Rows.memberSameRow.origin Rows.memberSameRow.targs:=of_decide_eq_true (by kernel_rfl)
theorem Jb:Tryz.f3.isWrapper Tryz.pinned.checked.prog Rows.memberSameRow.wrapper Rows.memberSameRow.mainSum:=by unfold Func.isWrapper;first|(rw[Oe (by decide+kernel)];kernel_rfl)|(rw[Oc (by decide+kernel)];exact⟨rfl,rfl⟩)
theorem Jc:Tryz.pinned.checked.prog.funcNamed Rows.memberSameRow.func=some 3:=by kernel_rfl
theorem memberSame_holds:Rows.MemberSameSaid:=
 OpenClaim.holds_of_wide 3 Tryz.f3 rfl rfl rfl rfl rfl rfl rfl ⟨rfl,rfl,rfl,rfl,rfl⟩ rfl rfl rfl rfl rfl Jc func3 I9
  Ja Jb
  (λos started H enc _=>IX os started H enc)
end Go.Proofs.YtjkalahhpobefaaGreat
