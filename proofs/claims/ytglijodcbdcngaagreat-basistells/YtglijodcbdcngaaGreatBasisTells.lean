/- IsBasis tells just what the document says, errors too. For every ring, number and list of vectors, without a condition. -/
import Derived.Test.YtglijodcbdcngaaGreatRows
import Derived.Test.YtglijodcbdcngaaGreatXV
import Derived.Test.YtglijodcbdcngaaGreatIC
set_option maxRecDepth 100000
namespace Go.Proofs.YtglijodcbdcngaaGreat
open Go.Proofs.Tryz
set_option linter.unusedSimpArgs false
set_option linter.unusedVariables false
open Go.ChangeShapes Go.WideShapes Go.ChangeAt Go.RowKit Go.Joins
theorem Ae(p n o v rank:Int)(lv:Value)(vss:List (List (List Tm)))(w:World)(hs:Wl w lv vss):Calls prog 3 #[az p n o v,.int .i64 rank,lv] w λe w'=>e=.returned (.bool true)/\Below w.heap.size w w':=by
 by_cases he:bQ p n o v rank vss=0
 ·by_cases hm:vss.length<=30
  ·obtain⟨N,R,rfl,rfl,h1,hx,hl,hr,_⟩:=tH he;exact Af p o v N R lv vss w hs he hm hx hl hr h1
  ·exact tI p n o v rank 2 lv vss w hs (Or.inr ⟨he,by omega,rfl⟩)
 ·exact tI p n o v rank _ lv vss w hs (Or.inl ⟨rfl,he⟩)
theorem Ag(os:Os)(started:os.Started)(H:Type)(enc:TypeId×Value->H):ReturnsInHanded {} Tryz.checked os 3 .any (Rows.basisTellsSpec.pre6 enc prog Tryz.f3 Rows.basisTellsRow.domain false) (Rows.basisTellsSpec.post enc prog Tryz.f3 false true false false):=by
 refine returnsInHanded_of_change (C:=Tryz.checked) Tryz.own started (by kernel_rfl) func3
  (ChangeSpec.witness6 (enc:=enc) (C:=Tryz.checked) false ⟨#[],#[.agg #[.int .i64 0,.int .i64 0,.int .i64 0,.int .i64 0],.int .i64 0,.slice none 0 0],[]⟩ 8 (by kernel_rfl) (by kernel_rfl) (by kernel_rfl) (by kernel_rfl)) ?_
 intro W base args ds gs before hval0 hW hcnd _;have hval:∀(j:Nat) t v,Tryz.f3.params[j]?=some t->args[j]?=some v->Value.okWide prog W .any base t v:=hval0;have hW':=hW;obtain⟨p,q,hA0,hV,rfl,hfz,hnd⟩:=hW;have hA:DataW.TrodAll enc prog W 0 (λ_=>true) true Tryz.f3.params.toList args.toList ds p:=hA0;rw[Tryz.params3] at hA hval;obtain⟨v0,vs0,d0,ds0,p0,q0,hargs,rfl,rfl,h0,r0⟩:=trodAll_cons hA;obtain⟨v1,vs1,d1,ds1,p1,q1,rfl,rfl,rfl,h1,r1⟩:=trodAll_cons r0;obtain⟨v2,vs2,d2,ds2,p2,q2,rfl,rfl,rfl,h2,r2⟩:=trodAll_cons r1;obtain⟨rfl,rfl,rfl⟩:=trodAll_nil r2;obtain rfl:args=#[v0,v1,v2]:=by cases args;simp_all
 obtain⟨rfl,rfl⟩:=trodVars_none hV;have lt0:∀x∈p0,x.block<W.heap.size:=by obtain⟨m,hm⟩:=h0;exact DataW.trod_lt m _ _ _ hm
 have lt2:∀x∈p2,x.block<W.heap.size:=by obtain⟨m,hm⟩:=h2;exact DataW.trod_lt m _ _ _ hm
 obtain⟨rp,rn,ro,rv,rfl⟩:=Ah (hval 0 23 v0 rfl rfl) h0;obtain⟨a1,rfl,rfl,rfl,w1⟩:=open_int underlying3 (hval 1 3 v1 rfl rfl) h1;obtain⟨a2,len2,cap2,rfl⟩:=okWide_slice underlying24 (hval 2 24 v2 rfl rfl);obtain⟨vss,s2⟩:=Ai h2;clear hA0 hval0;refine(Ae rp rn ro rv a1 _ vss W s2).mono λe W' ⟨he,bel⟩=>?_;subst he;exact⟨_,rfl,_,_,_,[],_,[],hW',trodAll_mk1 (shut_bool underlying4 _),(trodAll_cons_mk (Below.trod Tryz.laidOut (by kernel_rfl) (of_decide_eq_true (by kernel_rfl)) h0 bel lt0) (trodAll_cons_mk (shut_int underlying3 w1) (trodAll_cons_mk (Below.trod Tryz.laidOut (by kernel_rfl) (of_decide_eq_true (by kernel_rfl)) h2 bel lt2) trodAll_mk0))),rfl,bel.frame _,λh=>by cases h⟩
theorem Aj:(Rows.basisTellsRow.inPlace==Tryz.pinned.checked.prog.inPlace 3)=true:=by kernel_rfl
theorem Ak:(Rows.basisTellsRow.unfollowed==Tryz.pinned.checked.prog.unfollowed 3)=true:=by kernel_rfl
theorem Al:(Rows.basisTellsRow.recurses==Tryz.pinned.checked.prog.recurses 3)=true:=by kernel_rfl
theorem Am:(Rows.basisTellsRow.named==Tryz.pinned.checked.prog.varsNamed 3)=true:=by kernel_rfl
theorem An:laidOutB Tryz.pinned.checked.prog=true:=by kernel_rfl
theorem Ao:mapsRowed Tryz.pinned.checked.prog=true:=by kernel_rfl
theorem Ap:Tryz.pinned.checked.prog.mayEnter=true:=by kernel_rfl
theorem Aq:Tryz.pinned.checked.prog.stopsHeard=true:=by kernel_rfl
theorem Ar:joinedFacts Tryz.pinned.checked.prog 3 Tryz.f3 Rows.basisTellsSpec Rows.basisTellsRow=true:=by unfold joinedFacts;rw[Aj,Ak,Al,Am,An,Ao,Ap,Aq];kernel_rfl
theorem As:Tryz.f3.isInstance Tryz.pinned.checked.prog Rows.basisTellsRow.origin Rows.basisTellsRow.targs:=of_decide_eq_true (by kernel_rfl)
theorem At:Tryz.f3.isWrapper Tryz.pinned.checked.prog Rows.basisTellsRow.wrapper Rows.basisTellsRow.mainSum:=by unfold Func.isWrapper;first|(rw[if_pos (by decide+kernel)];kernel_rfl)|(rw[if_neg (by decide+kernel)];exact⟨rfl,rfl⟩)
theorem Au:Tryz.pinned.checked.prog.funcNamed Rows.basisTellsRow.func=some 3:=by kernel_rfl
theorem basisTells_holds:Rows.BasisTellsSaid:=
 OpenClaim.holds_of_wide 3 Tryz.f3 rfl rfl rfl rfl rfl rfl rfl ⟨rfl,rfl,rfl,rfl,rfl⟩ rfl rfl rfl rfl rfl Au func3 Ar
  As At
  (λos started H enc _=>Ag os started H enc)
end Go.Proofs.YtglijodcbdcngaaGreat
