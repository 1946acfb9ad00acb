/- Sets of monomials in. -/
import Derived.Test.YtjkalahhpobefaaGreatA
namespace Go.Proofs.YtjkalahhpobefaaGreat.C4
open Go.Proofs.Tryz
set_option linter.unusedSimpArgs false
set_option linter.unusedVariables false
abbrev bo:=Nat->Nat
def deg(m:bo):Nat:=m 0+m 1+m 2+m 3
def one:bo:=λ_=>0
def up(x:Nat)(m:bo):bo:=λi=>if i=x then m i+1 else m i
def dn(x:Nat)(m:bo):bo:=λi=>if i=x then m i-1 else m i
def Le(a b:bo):Prop:=∀i,a i<=b i
def bW(m:bo)(U:List Nat):Prop:=∀i,i∉U->m i=0
def jN(B:bo->Prop):Prop:=∀a b,Le a b->B b->B a
variable{x:Nat}
theorem tU(hx:x<4)(m:bo):deg (up x m)=deg m+1:=by rcases (show x=0\/x=1\/x=2\/x=3 by omega) with rfl|rfl|rfl|rfl<;>simp[deg,up]<;>omega
variable{m:bo}
theorem jn(h:0<m x):up x (dn x m)=m:=by funext i;simp only[up,dn];split<;>(try subst_vars)<;>omega
theorem tV(x:Nat)(m:bo):dn x (up x m)=m:=by funext i;simp only[up,dn];split<;>omega
theorem qG(hx:x<4)(h:0<m x):deg m=deg (dn x m)+1:=by rw[<-tU hx,jn h]
variable{a b:bo}
theorem E5(h:up x a=up x b):a=b:=by rw[<-tV x a,h,tV]
theorem mX(x:Nat)(m:bo):Le m (up x m):=λi=>by simp only[up];split<;>omega
theorem l8(x:Nat)(m:bo):Le (dn x m) m:=λi=>by simp only[dn];split<;>omega
theorem yF(x:Nat)(m:bo):0<up x m x:=by simp[up]
variable{U:List Nat}
theorem E6(hx:x∈U)(h:bW m U):bW (up x m) U:=λi hi=>by have:i≠x:=λe=>hi (e ▸ hx);simp[up,this,h i hi]
theorem jo(h:Le a b)(hb:bW b U):bW a U:=λi hi=>by have:=h i;have:=hb i hi;omega
def HF(B:bo->Prop)(t k:Nat):Prop:=∃l:List bo,l.Nodup/\(∀m,m∈l↔B m/\deg m=t)/\l.length=k
variable{t:Nat}{B:bo->Prop}
theorem HF.congr{C:bo->Prop}{k:Nat}(h:HF B t k)(e:∀m,B m↔C m):HF C t k:=by obtain⟨l,h1,h2,h3⟩:=h;exact⟨l,h1,λm=>by rw[h2,e],h3⟩
theorem HF.split{a b:Nat}(hx:x<4)(h0:HF (λm=>B m/\m x=0) (t+1) a)(h1:HF (λm=>B (up x m)) t b):HF B (t+1) (a+b):=by
 obtain⟨l,p1,p2,p3⟩:=h0;obtain⟨k,q1,q2,q3⟩:=h1;refine⟨l++k.map (up x),?_,λm=>?_,by simp[p3,q3]⟩
 .rw[List.nodup_append];refine⟨p1,?_,λu hu v hv e=>?_⟩
  .exact List.Pairwise.map _ (λu v h e=>h (E5 e)) q1
  .obtain⟨w,_,rfl⟩:=OR.1 hv;have h:=(p2 u).1 hu;have:=yF x w;have h2:=h.1.2;rw[e] at h2;omega
 .rw[OK,p2,OR];constructor
  .rintro (⟨⟨h1,_⟩,h2⟩|⟨w,hw,rfl⟩)
   .exact⟨h1,h2⟩
   .have h:=(q2 w).1 hw;exact⟨h.1,by rw[tU hx,h.2]⟩
  .rintro ⟨h1,h2⟩;by_cases hz:m x=0
   .exact Pf ⟨⟨h1,hz⟩,h2⟩
   .refine Pg ⟨dn x m,(q2 _).2 ⟨?_,?_⟩,jn (by omega)⟩
    .show B (up x (dn x m));rw[jn (by omega)];exact h1
    .have:=qG hx (m:=m) (by omega);omega
theorem HF.zero(h:B one)(hs:∀m,B m->bW m [0,1,2,3]):HF B 0 1:=by
 refine⟨[one],by simp,λm=>?_,rfl⟩;rw[OL];constructor
 .rintro rfl;exact⟨h,rfl⟩
 .rintro ⟨h1,h2⟩;funext i;have h3:=hs m h1 i;unfold deg at h2;by_cases hi:i=0\/i=1\/i=2\/i=3
  .rcases hi with rfl|rfl|rfl|rfl<;>(show _=0)<;>omega
  .exact h3 (by simp;omega)
theorem HF.none(h:∀m,¬B m):HF B t 0:=⟨[],by simp,λm=>by simp[h m],rfl⟩
theorem HF.uniq{a b:Nat}(h:HF B t a)(k:HF B t b):a=b:=by
 obtain⟨l,p1,p2,p3⟩:=h;obtain⟨m,q1,q2,q3⟩:=k;have:l.Perm m:=(List.perm_ext_iff_of_nodup p1 q1).2 λx=>by rw[p2,q2]
 rw[<-p3,<-q3,this.length_eq]
def eu(f:Nat->Nat):Nat->Nat
 |0=>f 0
 |s+1=>eu f s+f (s+1)
def nm:Nat->Nat->Nat
 |0=>λs=>if s=0 then 1 else 0
 |j+1=>eu (nm j)
def fT(q:Nat×Nat)(t:Nat):Nat:=if q.1<=t then nm q.2 (t-q.1) else 0
def cd(Q:List (Nat×Nat))(t:Nat):Nat:=(Q.map λq=>fT q t).sum
theorem oW:∀j,nm j 0=1
 |0=>rfl
 |j+1=>oW j
theorem iD(j s:Nat):nm (j+1) (s+1)=nm (j+1) s+nm j (s+1):=rfl
def sh(q:Nat×Nat):Nat×Nat:=(q.1+1,q.2)
theorem E7(q:Nat×Nat)(t:Nat):fT (sh q) (t+1)=fT q t:=by
 show (if q.1+1<=t+1 then nm q.2 (t+1-(q.1+1)) else 0)=if q.1<=t then nm q.2 (t-q.1) else 0
 by_cases h:q.1<=t
 .rw[OW h,OW (Nat.succ_le_succ h),Nat.add_sub_add_right]
 .rw[OV h,OV (by omega)]
theorem E8(Q:List (Nat×Nat))(t:Nat):cd (Q.map sh) (t+1)=cd Q t:=by unfold cd;rw[List.map_map];congr 1;exact List.map_congr_left λq _=>E7 q t
theorem E9(Q:List (Nat×Nat)):cd (Q.map sh) 0=0:=by
 unfold cd;induction Q with
 |nil=>rfl
 |cons q Q ih=>simp only[List.map_cons,List.sum_cons];rw[ih];simp[fT,sh]
theorem qH(P Q:List (Nat×Nat))(t:Nat):cd (P++Q) t=cd P t+cd Q t:=by unfold cd;rw[O0,List.sum_append]
theorem HF.all:∀(U:List Nat),U.Nodup->(∀x∈U,x<4)->∀t,HF (λm=>bW m U) t (nm U.length t)
 |[],_,_,t=>by
  cases t with
  |zero=>exact HF.zero (B:=λm=>bW m []) (λ_ _=>rfl) (λm h i _=>h i (by simp))
  |succ t=>refine⟨[],by simp,λm=>?_,rfl⟩;simp only[List.not_mem_nil,false_iff];rintro ⟨h1,h2⟩;have:=h1 0 (by simp);have:=h1 1 (by simp);have:=h1 2 (by simp);have:=h1 3 (by simp);unfold deg at h2;omega
 |x::U,hn,hx,t=>by
  induction t with
  |zero=>rw[oW];refine HF.zero (B:=λm=>bW m (x::U)) (λ_ _=>rfl) (λm h i hi=>h i ?_);intro hc;have:=hx i hc;simp at hi;omega
  |succ t ih=>
   have hx3:=hx x (by simp);have hnd:=List.nodup_cons.1 hn;have h0:=HF.all U hnd.2 (λy hy=>hx y (by simp[hy])) (t+1);rw[OZ,iD,Nat.add_comm (nm (U.length+1) t)];refine HF.split hx3 (h0.congr λm=>?_) (ih.congr λm=>?_)
   .constructor
    .intro h;exact⟨λi hi=>h i (by simp at hi;exact hi.2),h x hnd.1⟩
    .rintro ⟨h,hz⟩ i hi;by_cases e:i=x
     .rw[e];exact hz
     .exact h i (by simp[e,hi])
   .constructor
    .exact λh=>E6 (by simp) h
    .exact λh=>jo (mX x m) h
theorem qI(f:Nat->Nat):∃g:Nat->Nat,(∀i,g i<g (i+1))/\∀i,f (g i)<=f (g (i+1)):=by
 have least:∀n,∃k,n<=k/\∀j,n<=j->f k<=f j:=λn=>by
  have:∀b,∀k,n<=k->f k<=b->∃k,n<=k/\∀j,n<=j->f k<=f j:=by
   intro b;induction b with
   |zero=>exact λk hk hb=>⟨k,hk,λj _=>by omega⟩
   |succ b ih=>
    intro k hk hb;by_cases h:∃j,n<=j/\f j<=b
    .obtain⟨j,h1,h2⟩:=h;exact ih j h1 h2
    .exact⟨k,hk,λj hj=>Nat.le_of_not_lt λhlt=>h ⟨j,hj,by omega⟩⟩
  exact this (f n) n (Ou _) (Ou _)
 let c:Nat->Nat:=λn=>(least n).choose;have c1:∀n,n<=c n:=λn=>(least n).choose_spec.1;have c2:∀n j,n<=j->f (c n)<=f j:=λn=>(least n).choose_spec.2;let g:Nat->Nat:=λi=>Nat.rec (c 0) (λ_ r=>c (r+1)) i;have gs:∀i,g (i+1)=c (g i+1):=λ_=>rfl;have g0:g 0=c 0:=rfl;refine⟨g,λi=>by rw[gs];exact c1 _,λi=>?_⟩;have hle:∀i,g i<=g (i+1):=λi=>by rw[gs];exact OA (Nat.le_succ _) (c1 _)
 have hge:∀i,g i+1<=g (i+1):=λi=>by rw[gs];exact c1 _
 cases i with
 |zero=>rw[g0];exact c2 0 _ (OB _)
 |succ i=>have h:=c2 (g i+1) (g (i+1+1)) (OA (hge i) (hle (i+1)));rw[<-gs i] at h;exact h
theorem Fa(u:Nat->bo)(hu:∀k,bW (u k) [0,1,2,3]):∃i j,i<j/\Le (u i) (u j):=by
 have lt_of:∀{g:Nat->Nat},(∀i,g i<g (i+1))->∀i j,i<j->g i<g j:=fun {g} hg i j hij=>by
  induction j with
  |zero=>omega
  |succ j ih=>
   by_cases h:i=j
   .rw[h];exact hg j
   .exact Nat.lt_trans (ih (by omega)) (hg j)
 have le_of:∀{f g:Nat->Nat},(∀i,f (g i)<=f (g (i+1)))->∀i j,i<=j->f (g i)<=f (g j):=fun {f g} hg i j hij=>by
  induction j with
  |zero=>
   have:i=0:=by omega
   rw[this];exact Ou _
  |succ j ih=>
   by_cases h:i=j+1
   .rw[h];exact Ou _
   .exact OA (ih (by omega)) (hg j)
 obtain⟨g,g1,g2⟩:=qI λk=>u k 0;obtain⟨h,h1,h2⟩:=qI λk=>u (g k) 1;obtain⟨e,e1,e2⟩:=qI λk=>u (g (h k)) 2;obtain⟨f,f1,f2⟩:=qI λk=>u (g (h (e k))) 3;have f01:=f1 0;have e01:=lt_of e1 _ _ f01;have a1:=lt_of h1 _ _ e01;refine⟨g (h (e (f 0))),g (h (e (f 1))),lt_of g1 _ _ a1,λi=>?_⟩;by_cases hi:i=0\/i=1\/i=2\/i=3
 .rcases hi with rfl|rfl|rfl|rfl
  .exact le_of (f:=λk=>u k 0) g2 _ _ (Nat.le_of_lt a1)
  .exact le_of (f:=λk=>u (g k) 1) h2 _ _ (Nat.le_of_lt e01)
  .exact le_of (f:=λk=>u (g (h k)) 2) e2 _ _ (Nat.le_of_lt f01)
  .exact f2 0
 .rw[hu _ i (by simp;omega)];exact OB _
theorem Fb:WellFounded fun(A B:{B:bo->Prop//jN B/\∀m,B m->bW m [0,1,2,3]})=>(∀m,A.1 m->B.1 m)/\∃m,B.1 m/\¬A.1 m:=by
 apply O3;intro hn;have hex:∃B,¬Acc (fun(A B:{B:bo->Prop//jN B/\∀m,B m->bW m [0,1,2,3]})=>(∀m,A.1 m->B.1 m)/\∃m,B.1 m/\¬A.1 m) B:=
  O3 λh=>hn ⟨λB=>O3 λhb=>h ⟨B,hb⟩⟩
 obtain⟨B0,hB0⟩:=hex;have next:∀B,¬Acc (fun(A B:{B:bo->Prop//jN B/\∀m,B m->bW m [0,1,2,3]})=>(∀m,A.1 m->B.1 m)/\∃m,B.1 m/\¬A.1 m) B->∃A,((∀m,A.1 m->B.1 m)/\∃m,B.1 m/\¬A.1 m)/\¬Acc (fun(A B:{B:bo->Prop//jN B/\∀m,B m->bW m [0,1,2,3]})=>(∀m,A.1 m->B.1 m)/\∃m,B.1 m/\¬A.1 m) A:=λB hB=>O3 λh=>hB ⟨_,λA hA=>O3 λhc=>h ⟨A,hA,hc⟩⟩
 let S:Nat->{B//¬Acc (fun(A B:{B:bo->Prop//jN B/\∀m,B m->bW m [0,1,2,3]})=>(∀m,A.1 m->B.1 m)/\∃m,B.1 m/\¬A.1 m) B}:=λi=>Nat.rec ⟨B0,hB0⟩ (λ_ r=>⟨(next r.1 r.2).choose,(next r.1 r.2).choose_spec.2⟩) i
 have hS:∀i,(∀m,(S (i+1)).1.1 m->(S i).1.1 m)/\∃m,(S i).1.1 m/\¬(S (i+1)).1.1 m:=λi=>(next (S i).1 (S i).2).choose_spec.1;have anti:∀i j,i<=j->∀m,(S j).1.1 m->(S i).1.1 m:=λi j hij=>by
  induction j with
  |zero=>
   have:i=0:=by omega
   rw[this];exact λm h=>h
  |succ j ih=>
   by_cases h:i=j+1
   .rw[h];exact λm h=>h
   .exact λm hm=>ih (by omega) m ((hS j).1 m hm)
 let u:Nat->bo:=λi=>(hS i).2.choose;have u1:∀i,(S i).1.1 (u i):=λi=>(hS i).2.choose_spec.1;have u2:∀i,¬(S (i+1)).1.1 (u i):=λi=>(hS i).2.choose_spec.2;obtain⟨i,j,hij,hle⟩:=Fa u λk=>(S k).1.2.2 _ (u1 k);exact u2 i ((S (i+1)).1.2.1 _ _ hle (anti (i+1) j hij _ (u1 j)))
theorem mY:∀(U Z:List Nat),U.Nodup->(∀x∈U,x∈Z)->U.length<=Z.length
 |[],_,_,_=>OB _
 |x::U,Z,hn,hs=>by have hx:=hs x (by simp);have hnd:=List.nodup_cons.1 hn;have h:=mY U (Z.erase x) hnd.2 λy hy=>(List.mem_erase_of_ne (λe:y=x=>hnd.1 (e ▸ hy))).2 (hs y (by simp[hy]));have hl:=List.length_erase_of_mem hx;have hp:=List.length_pos_of_mem hx;simp only[OZ];omega
def Dm(B:bo->Prop)(U:List Nat)(d:Nat):Prop:=∃Z:List Nat,Z.Nodup/\(∀x∈Z,x∈U)/\Z.length=d/\∀m,bW m Z->B m
structure tW(U:List Nat)(B:bo->Prop)(Q:List (Nat×Nat))(d:Nat):Prop where
 hf:∀t,HF B t (cd Q t)
 le:∀q∈Q,q.2<=d
 top:(0,d)∈Q
 dm:Dm B U d
 mx:∀d',Dm B U d'->d'<=d
 std:∀q∈Q,∀e,e<=q.1->∃q'∈Q,q'.1=e/\q.2<=q'.2
 gen:∀g,bW g U->¬B g->(∀i,0<g i->B (dn i g))->∃q∈Q,deg g<=q.1+1
theorem yG(m:bo):Le one m:=λ_=>OB _
theorem Fc(h:B one):∃d,Dm B U d/\∀d',Dm B U d'->d'<=d:=by
 have h0:Dm B U 0:=⟨[],List.Pairwise.nil,λx hx=>by simp at hx,rfl,λm hm=>by
  have:m=one:=by funext i;exact hm i (by simp)
  rw[this];exact h⟩
 have hb:∀d,Dm B U d->d<=U.length:=λd ⟨Z,h1,h2,h3,_⟩=>by rw[<-h3];exact mY Z U h1 h2
 have:∀k d,Dm B U d->U.length<=d+k->∃d,Dm B U d/\∀d',Dm B U d'->d'<=d:=by
  intro k;induction k with
  |zero=>exact λd hd hk=>⟨d,hd,λd' h'=>OA (hb d' h') (by omega)⟩
  |succ k ih=>
   intro d hd hk;by_cases hm:∃d',Dm B U d'/\d<d'
   .obtain⟨d',h1,h2⟩:=hm;exact ih d' h1 (by omega)
   .exact⟨d,hd,λd' h'=>Nat.le_of_not_lt λhlt=>hm ⟨d',h',hlt⟩⟩
 exact this U.length 0 h0 (by omega)
theorem yH(hn:U.Nodup)(hU:∀x∈U,x<4)(hs:∀m,B m->bW m U)(hf:∀m,bW m U->B m):tW U B [(0,U.length)] U.length:=by
 refine⟨λt=>?_,λq hq=>?_,by simp,⟨U,hn,λx hx=>hx,rfl,hf⟩,λd ⟨Z,h1,h2,h3,_⟩=>by rw[<-h3];exact mY Z U h1 h2,λq hq e he=>?_,λg h1 h2 _=>absurd (hf g h1) h2⟩
 .have h:=(HF.all U hn hU t).congr (C:=B) λm=>⟨hf m,hs m⟩;have e:cd [(0,U.length)] t=nm U.length t:=by simp[cd,fT]
  rw[e];exact h
 .rw[OL] at hq;rw[hq];exact Ou _
 .rw[OL] at hq;subst hq;exact⟨_,by simp,by simp at he⊢;omega,Ou _⟩
theorem Fd:∀(n:Nat)(U:List Nat),U.length=n->U.Nodup->(∀x∈U,x<4)->∀B:{B:bo->Prop//jN B/\∀m,B m->bW m [0,1,2,3]},(∀m,B.1 m->bW m U)->B.1 one->∃Q d,tW U B.1 Q d:=by
 intro n;induction n with
 |zero=>
  intro U hl hn hU B hs h1;have e:U=[]:=O8.1 hl;subst e;exact⟨_,_,yH hn hU hs λm hm=>by
   have:m=one:=by funext i;exact hm i (by simp)
   rw[this];exact h1⟩
 |succ n ihn=>
  intro U hl hn hU B;refine Fb.induction (C:=λB=>(∀m,B.1 m->bW m U)->B.1 one->∃Q d,tW U B.1 Q d) B ?_;intro B ih hs h1;by_cases hfull:∀m,bW m U->B.1 m
  .exact⟨_,_,yH hn hU hs hfull⟩
  obtain⟨d,⟨Z,z1,z2,z3,z4⟩,hmx⟩:=Fc (U:=U) h1;have hx:∃x,x∈U/\x∉Z:=O3 λhc=>hfull λm hm=>z4 m λi hi=>hm i λhiU=>hc ⟨i,hiU,hi⟩;obtain⟨x,hxU,hxZ⟩:=hx;have hx3:=hU x hxU;have hE:∀y,y∈U.erase x↔y≠x/\y∈U:=λy=>hn.mem_erase_iff;have hs0:∀m,(B.1 m/\m x=0)->bW m (U.erase x):=λm hm i hi=>by
   by_cases e:i=x
   .rw[e];exact hm.2
   .exact hs m hm.1 i λhc=>hi ((hE i).2 ⟨e,hc⟩)
  obtain⟨Q0,d0,D0⟩:=ihn (U.erase x) (by rw[List.length_erase_of_mem hxU];omega) (hn.erase x) (λy hy=>hU y ((hE y).1 hy).2) ⟨λm=>B.1 m/\m x=0,λa b hab hb=>⟨B.2.1 a b hab hb.1,by have:=hab x;have:=hb.2;omega⟩,λm hm=>B.2.2 m hm.1⟩ hs0 ⟨h1,rfl⟩;have hd0:d0=d:=by refine Nat.le_antisymm ?_ (D0.mx d ⟨Z,z1,λy hy=>(hE y).2 ⟨λe=>hxZ (e ▸ hy),z2 y hy⟩,z3,λm hm=>⟨z4 m hm,hm x hxZ⟩⟩);obtain⟨Y,y1,y2,y3,y4⟩:=D0.dm;exact hmx d0 ⟨Y,y1,λy hy=>((hE y).1 (y2 y hy)).2,y3,λm hm=>(y4 m hm).1⟩
  subst hd0;have hdn1:jN λm=>B.1 (up x m):=λa b hab hb=>B.2.1 _ _ (λi=>by have:=hab i;simp only[up];split<;>omega) hb;have hsub:∀m,B.1 (up x m)->B.1 m:=λm h=>B.2.1 _ _ (mX x m) h;have hstrict:∃m,B.1 m/\¬B.1 (up x m):=by
   apply O3;intro hc;have hst:∀m,B.1 m->B.1 (up x m):=λm hm=>O3 λh=>hc ⟨m,hm,h⟩;have hall:∀k m,m x=k->bW m (x::Z)->B.1 m:=by
    intro k;induction k with
    |zero=>
     intro m hk hm;refine z4 m λi hi=>?_;by_cases e:i=x
     .rw[e];exact hk
     .exact hm i (by simp[e,hi])
    |succ k ihk=>intro m hk hm;have h:=hst _ (ihk (dn x m) (by simp[dn,hk]) (jo (l8 x m) hm));rw[jn (by omega)] at h;exact h
   have hsubZ:∀y∈x::Z,y∈U:=λy hy=>by
    rcases OY.1 hy with rfl|hy
    .exact hxU
    .exact z2 y hy
   have:=hmx (d0+1) ⟨x::Z,List.nodup_cons.2 ⟨hxZ,z1⟩,hsubZ,by simp[z3],λm hm=>hall _ m rfl hm⟩;omega
  have h00:HF B.1 0 1:=HF.zero h1 B.2.2;have h000:=D0.hf 0;have c00:cd Q0 0=1:=h000.uniq (HF.zero (B:=λm=>B.1 m/\m x=0) ⟨h1,rfl⟩ λm hm=>B.2.2 m hm.1);have gen0:∀g,bW g U->¬B.1 g->(∀i,0<g i->B.1 (dn i g))->g x=0->∃q∈Q0,deg g<=q.1+1:=λg g1 g2 g3 gx=>
   D0.gen g (λi hi=>by
    by_cases e:i=x
    .rw[e];exact gx
    .exact g1 i λhc=>hi ((hE i).2 ⟨e,hc⟩)) (λh=>g2 h.1) λi hi=>⟨g3 i hi,by simp only[dn];split<;>omega⟩
  by_cases hB1:B.1 (up x one)
  .obtain⟨Q1,d1,D1⟩:=ih ⟨λm=>B.1 (up x m),hdn1,λm hm=>B.2.2 m (hsub m hm)⟩ ⟨hsub,hstrict⟩ (λm hm=>hs m (hsub m hm)) hB1;have hd1:d1<=d0:=by obtain⟨Y,y1,y2,y3,y4⟩:=D1.dm;exact hmx d1 ⟨Y,y1,y2,y3,λm hm=>hsub m (y4 m hm)⟩
   refine⟨Q0++Q1.map sh,d0,⟨λt=>?_,λq hq=>?_,by simp[D0.top],⟨Z,z1,z2,z3,z4⟩,hmx,λq hq e he=>?_,λg g1 g2 g3=>?_⟩⟩
   .rw[qH];cases t with
    |zero=>rw[E9,c00];exact h00
    |succ t=>rw[E8];exact HF.split hx3 (D0.hf (t+1)) (D1.hf t)
   .rcases OK.1 hq with hq|hq
    .exact D0.le q hq
    .obtain⟨q1,h,rfl⟩:=OR.1 hq;exact OA (D1.le q1 h) hd1
   .rcases OK.1 hq with hq|hq
    .obtain⟨q',a1,a2,a3⟩:=D0.std q hq e he;exact⟨q',OK.2 (Pf a1),a2,a3⟩
    .obtain⟨q1,h,rfl⟩:=OR.1 hq;cases e with
     |zero=>exact⟨(0,d0),OK.2 (Pf D0.top),rfl,OA (D1.le q1 h) hd1⟩
     |succ e=>obtain⟨q',a1,a2,a3⟩:=D1.std q1 h e (by simp only[sh] at he;omega);exact⟨sh q',OK.2 (Pg (OR.2 ⟨q',a1,rfl⟩)),by simp[sh,a2],a3⟩
   .by_cases gx:g x=0
    .obtain⟨q,a1,a2⟩:=gen0 g g1 g2 g3 gx;exact⟨q,OK.2 (Pf a1),a2⟩
    .obtain⟨q,a1,a2⟩:=D1.gen (dn x g) (jo (l8 x g) g1) (by show¬B.1 (up x (dn x g));rw[jn (by omega)];exact g2) λi hi=>by
      have hgi:0<g i:=by simp only[dn] at hi;split at hi<;>omega
      have e:up x (dn i (dn x g))=dn i g:=by funext k;simp only[up,dn] at hi⊢;by_cases hk:k=x<;>by_cases hk2:k=i<;>simp[hk,hk2]<;>(try subst hk)<;>(try subst hk2)<;>simp_all<;>omega
      show B.1 (up x (dn i (dn x g)));rw[e];exact g3 i hgi
     have hdg:=qG hx3 (m:=g) (by omega);exact⟨sh q,OK.2 (Pg (OR.2 ⟨q,a1,rfl⟩)),by simp only[sh];omega⟩
  .have hnone:∀m,¬B.1 (up x m):=λm hm=>hB1 (hdn1 one m (yG m) hm);refine⟨Q0,d0,⟨λt=>?_,D0.le,D0.top,⟨Z,z1,z2,z3,z4⟩,hmx,D0.std,λg g1 g2 g3=>?_⟩⟩
   .cases t with
    |zero=>rw[c00];exact h00
    |succ t=>exact HF.split hx3 (D0.hf (t+1)) (HF.none hnone)
   .by_cases gx:g x=0
    .exact gen0 g g1 g2 g3 gx
    .have h:=g3;have hg1:g=up x one:=by
      apply O3;intro hne;have hex:∃i,0<dn x g i:=O3 λhc=>hne (by
       rw[<-jn (m:=g) (x:=x) (by omega)];congr 1;funext i;have:¬0<dn x g i:=λh=>hc ⟨i,h⟩;show _=0;omega)
      obtain⟨i,hi⟩:=hex;have hgi:0<g i:=by simp only[dn] at hi;split at hi<;>omega
      have h2:=g3 i hgi;refine hnone (dn x (dn i g)) ?_;rw[jn (by simp only[dn] at hi⊢;split<;>simp_all<;>omega)];exact h2
     exact⟨(0,d0),D0.top,by rw[hg1,tU hx3];simp[deg,one]⟩
end Go.Proofs.YtjkalahhpobefaaGreat.C4
namespace Go.Proofs.YtjkalahhpobefaaGreat.C4
open Go.Proofs.Tryz
set_option linter.unusedSimpArgs false
set_option linter.unusedVariables false
theorem t7:∀s,nm 1 s=1
 |0=>rfl
 |s+1=>by rw[iD,t7 s];rfl
theorem qL:∀s,nm 2 s=s+1
 |0=>rfl
 |s+1=>by rw[iD,qL s,t7]
theorem l9:∀s,2*nm 3 s=(s+1)*(s+2)
 |0=>rfl
 |s+1=>by rw[iD,qL,Nat.mul_add,l9 s];grind
theorem ko:∀s,6*nm 4 s=(s+1)*(s+2)*(s+3)
 |0=>rfl
 |s+1=>by have h:=l9 (s+1);rw[iD,Nat.mul_add,ko s,show 6*nm 3 (s+1)=3*(2*nm 3 (s+1)) by omega,h];grind
def eX(s:Nat)(Q:List (Nat×Nat)):Prop:=∀q∈Q,1<=q.2->s<=q.1/\∀e,s<=e->e<=q.1->∃q'∈Q,q'.1=e/\q.2<=q'.2
variable{Q:List (Nat×Nat)}{s:Nat}
theorem eX.app{P:List (Nat×Nat)}(h:eX s P)(k:eX s Q):eX s (P++Q):=λq hq h1=>by
 rcases OK.1 hq with hq|hq
 .exact⟨(h q hq h1).1,λe a b=>by obtain⟨q',c,d⟩:=(h q hq h1).2 e a b;exact⟨q',OK.2 (Pf c),d⟩⟩
 .exact⟨(k q hq h1).1,λe a b=>by obtain⟨q',c,d⟩:=(k q hq h1).2 e a b;exact⟨q',OK.2 (Pg c),d⟩⟩
def rz(c:Nat):Nat->List (Nat×Nat)
 |0=>[(c,0)]
 |j+1=>(c+1,j+1)::rz c j
theorem yO(c t:Nat):∀j,cd (rz c j) t=fT (c,j) t
 |0=>by simp[rz,cd]
 |j+1=>by
  have ih:=yO c t j;unfold cd at ih⊢;simp only[rz,List.map_cons,List.sum_cons];rw[ih];show (if c+1<=t then nm (j+1) (t-(c+1)) else 0)+(if c<=t then nm j (t-c) else 0)=if c<=t then nm (j+1) (t-c) else 0
  by_cases h:c+1<=t
  .rw[OW h,OW (show c<=t by omega),OW (show c<=t by omega)];obtain⟨k,rfl⟩:∃k,t=c+1+k:=⟨t-(c+1),by omega⟩;rw[show c+1+k-(c+1)=k by omega,show c+1+k-c=k+1 by omega,iD]
  .rw[OV h];by_cases h2:c<=t
   .rw[OW h2,OW h2,show t-c=0 by omega,oW,oW]
   .rw[OV h2,OV h2]
theorem qM{c:Nat}{q:Nat×Nat}:∀{j},q∈rz c j->(q=(c,0))\/(q.1=c+1/\1<=q.2/\q.2<=j)
 |0,h=>Pf (by simpa [rz] using h)
 |j+1,h=>by
  rcases OY.1 h with rfl|h
  .exact Pg ⟨rfl,by simp,Ou _⟩
  .rcases qM h with h|⟨h1,h2,h3⟩
   .exact Pf h
   .exact Pg ⟨h1,h2,by omega⟩
theorem yP(c:Nat):∀j,(c,0)∈rz c j
 |0=>by simp[rz]
 |j+1=>List.mem_cons_of_mem _ (yP c j)
def kq(s:Nat):List (Nat×Nat)->List (Nat×Nat)
 |[]=>[]
 |q::Q=>(if q.1=s then rz s q.2 else [q])++kq s Q
theorem qN{s:Nat}{p:Nat×Nat}:∀{Q},p∈kq s Q->(p∈Q/\p.1≠s)\/∃q∈Q,q.1=s/\p∈rz s q.2
 |[],h=>by simp[kq] at h
 |q::Q,h=>by
  rcases OK.1 h with h|h
  .by_cases hq:q.1=s
   .rw[OW hq] at h;exact Pg ⟨q,by simp,hq,h⟩
   .rw[OV hq,OL] at h;rw[h];exact Pf ⟨by simp,hq⟩
  .rcases qN h with ⟨a,b⟩|⟨q',a,b⟩
   .exact Pf ⟨by simp[a],b⟩
   .exact Pg ⟨q',by simp[a],b⟩
theorem t8{s:Nat}{p:Nat×Nat}:∀{Q},p∈Q->p.1≠s->p∈kq s Q
 |q::Q,h,hp=>by
  rcases OY.1 h with rfl|h
  .exact OK.2 (Pf (by rw[OV hp];simp))
  .exact OK.2 (Pg (t8 h hp))
theorem yQ{s:Nat}{p q:Nat×Nat}:∀{Q},q∈Q->q.1=s->p∈rz s q.2->p∈kq s Q
 |r::Q,h,hq,hp=>by
  rcases OY.1 h with rfl|h
  .exact OK.2 (Pf (by rw[OW hq];exact hp))
  .exact OK.2 (Pg (yQ h hq hp))
theorem yR(s t:Nat):∀Q,cd (kq s Q) t=cd Q t
 |[]=>rfl
 |q::Q=>by
  show cd ((if q.1=s then rz s q.2 else [q])++kq s Q) t=cd ([q]++Q) t;rw[qH,qH,yR s t Q];congr 1;by_cases hq:q.1=s
  .rw[OW hq,yO,<-hq];simp[cd]
  .rw[OV hq]
theorem eX.raise(h:eX s Q):eX (s+1) (kq s Q):=λp hp h1=>by
 rcases qN hp with ⟨a,b⟩|⟨q,a,b,c⟩
 .have hs:=h p a h1;refine⟨by have:=hs.1;omega,λe he1 he2=>?_⟩;obtain⟨q',c1,c2,c3⟩:=hs.2 e (by omega) he2;exact⟨q',t8 c1 (by omega),c2,c3⟩
 .rcases qM c with rfl|⟨d1,d2,d3⟩
  .simp at h1
  .exact⟨by omega,λe he1 he2=>⟨p,hp,by omega,Ou _⟩⟩
theorem eX.later{s:Nat}{Q:List (Nat×Nat)}(h:eX s Q)(hd:∀q∈Q,q.2<=4)(hf:∀q∈Q,q.2=4->q.1=s):∀k,∃P,eX (s+k) P/\(∀t,cd P t=cd Q t)/\(∀q∈Q,∃p∈P,q.1<=p.1)/\(∀p∈P,p.2<=4)/\∀p∈P,p.2=4->p.1=s+k
 |0=>⟨Q,h,λ_=>rfl,λq hq=>⟨q,hq,Ou _⟩,hd,hf⟩
 |k+1=>by
  obtain⟨P,h1,h2,h3,h4,h5⟩:=eX.later h hd hf k;refine⟨kq (s+k) P,h1.raise,λt=>by rw[yR,h2],λq hq=>?_,λp hp=>?_,λp hp hp4=>?_⟩
  .obtain⟨p,a,b⟩:=h3 q hq;by_cases e:p.1=s+k
   .exact⟨(s+k,0),yQ a e (yP _ _),by simp;omega⟩
   .exact⟨p,t8 a e,b⟩
  .rcases qN hp with ⟨a,_⟩|⟨q,a,b,c⟩
   .exact h4 p a
   .rcases qM c with rfl|⟨_,_,d3⟩
    .simp
    .exact OA d3 (h4 q a)
  .rcases qN hp with ⟨a,b⟩|⟨q,a,b,c⟩
   .exact absurd (h5 p a hp4) b
   .rcases qM c with rfl|⟨d1,_,_⟩
    .simp at hp4
    .omega
variable{j:Nat}
theorem eX.tip(h:eX s Q){q:Nat×Nat}(hq:q∈Q)(hj:1<=j)(hjq:j<=q.2):q.1+1<=s+(Q.filter λp=>decide (j<=p.2)).length:=by
 have hs:=h q hq (by omega);have:=mY ((List.range (q.1+1-s)).map λi=>s+i) ((Q.filter λp=>decide (j<=p.2)).map Prod.fst)
  (List.Pairwise.map _ (λa b hne e=>hne (by omega)) List.nodup_range) λx hx=>by obtain⟨i,hi,rfl⟩:=OR.1 hx;rw[List.mem_range] at hi;obtain⟨q',a,b,c⟩:=hs.2 (s+i) (by omega) (by omega);exact OR.2 ⟨q',O5.2 ⟨a,by simp;omega⟩,b⟩
 simp at this;have:=hs.1;omega
def nD(j:Nat):List (Nat×Nat)->Int
 |[]=>0
 |q::Q=>(if q.2=j then 1 else 0)+nD j Q
def tD(j:Nat):List (Nat×Nat)->Int
 |[]=>0
 |q::Q=>(if q.2=j then (q.1:Int) else 0)+tD j Q
def sD(j:Nat):List (Nat×Nat)->Int
 |[]=>0
 |q::Q=>(if q.2=j then (q.1:Int)*q.1 else 0)+sD j Q
def zD(t:Nat):List (Nat×Nat)->Int
 |[]=>0
 |q::Q=>(if q.2=0/\q.1=t then 1 else 0)+zD t Q
theorem t9(q:Nat×Nat)(Q:List (Nat×Nat))(t:Nat):cd (q::Q) t=fT q t+cd Q t:=by simp[cd]
theorem yS(t:Nat):∀(Q:List (Nat×Nat)),(∀q∈Q,q.2<=4)->(∀q∈Q,q.2=4->q.1=3)->(∀q∈Q,1<=q.2->q.1<=t)->(6*cd Q t:Int)=nD 4 Q*((t:Int)*t*t)+(3*nD 3 Q-3*nD 4 Q)*((t:Int)*t)+(2*nD 4 Q+9*nD 3 Q-6*tD 3 Q+6*nD 2 Q)*t+(3*sD 3 Q-9*tD 3 Q+6*nD 3 Q-6*tD 2 Q+6*nD 2 Q+6*nD 1 Q)+6*zD t Q
 |[],_,_,_=>by simp[cd,nD,tD,sD,zD]
 |(c,j)::Q,h1,h4,h2=>by
  have ih:=yS t Q (λq hq=>h1 q (by simp[hq])) (λq hq=>h4 q (by simp[hq])) (λq hq=>h2 q (by simp[hq]));have hj:=h1 (c,j) (by simp);have hf:=h4 (c,j) (by simp);have hc:=h2 (c,j) (by simp);simp only at hj hc hf;rw[t9];simp only[nD,tD,sD,zD];rcases (show j=0\/j=1\/j=2\/j=3\/j=4 by omega) with rfl|rfl|rfl|rfl|rfl
  .by_cases h:c=t
   .subst h;have e:fT (c,0) c=1:=by simp[fT,nm]
    rw[e];simp;grind
   .have e:fT (c,0) t=0:=by
     simp only[fT,nm];by_cases h3:c<=t
     .rw[OW h3,OV (by omega)]
     .rw[OV h3]
    rw[e];simp[h];grind
  .have e:fT (c,1) t=1:=by show (if c<=t then nm 1 (t-c) else 0)=1;rw[OW (hc (by omega)),t7]
   rw[e];simp;grind
  .have e:(fT (c,2) t:Int)=t-c+1:=by show (((if c<=t then nm 2 (t-c) else 0):Nat):Int)=_;have:=hc (by omega);rw[OW this,qL];omega
   simp only[Int.natCast_add];rw[e];simp;grind
  .have hct:=hc (by omega);have e:(2*fT (c,3) t:Int)=((t:Int)-c+1)*(t-c+2):=by
    show (2*(((if c<=t then nm 3 (t-c) else 0):Nat):Int))=_;rw[OW hct];have h:=l9 (t-c);have h':((2*nm 3 (t-c):Nat):Int)=(((t-c+1)*(t-c+2):Nat):Int):=by rw[h]
    simp only[Int.natCast_mul,Int.natCast_add] at h';rw[Int.ofNat_sub hct] at h';exact h'
   have e6:(6*fT (c,3) t:Int)=3*(((t:Int)-c+1)*(t-c+2)):=by omega
   simp only[Int.natCast_add];rw[Int.mul_add,e6];simp;grind
  .have hct:=hc (by omega);have hc3:=hf rfl;subst hc3;have e:(6*fT (3,4) t:Int)=((t:Int)-2)*(t-1)*t:=by
    show (6*(((if 3<=t then nm 4 (t-3) else 0):Nat):Int))=_;rw[OW hct];have h:=ko (t-3);have h':((6*nm 4 (t-3):Nat):Int)=(((t-3+1)*(t-3+2)*(t-3+3):Nat):Int):=by rw[h]
    simp only[Int.natCast_mul,Int.natCast_add] at h';rw[Int.ofNat_sub hct] at h';have h'':(6:Int)*(nm 4 (t-3):Nat)=((t:Int)-(3:Nat)+(1:Nat))*((t:Int)-(3:Nat)+(2:Nat))*((t:Int)-(3:Nat)+(3:Nat)):=by simpa using h'
    rw[h''];grind
   simp only[Int.natCast_add];rw[Int.mul_add,e];simp;grind
theorem qO(j:Nat):∀Q,0<=nD j Q
 |[]=>by simp[nD]
 |q::Q=>by have:=qO j Q;simp only[nD];split<;>omega
theorem yT:∀Q:List (Nat×Nat),(∀q∈Q,q.2<=4)->((Q.filter λp=>decide (3<=p.2)).length:Int)=nD 4 Q+nD 3 Q/\((Q.filter λp=>decide (2<=p.2)).length:Int)=nD 4 Q+nD 3 Q+nD 2 Q/\((Q.filter λp=>decide (1<=p.2)).length:Int)=nD 4 Q+nD 3 Q+nD 2 Q+nD 1 Q
 |[],_=>by simp[nD]
 |(c,j)::Q,h=>by obtain⟨h1,h2,h3⟩:=yT Q λq hq=>h q (by simp[hq]);have hj:=h (c,j) (by simp);simp only at hj;simp only[nD,List.filter_cons];rcases (show j=0\/j=1\/j=2\/j=3\/j=4 by omega) with rfl|rfl|rfl|rfl|rfl<;>simp<;>omega
theorem yU{t:Nat}{q:Nat×Nat}:∀{Q},q∈Q->q.2=0->q.1=t->0<zD t Q
 |p::Q,h,h1,h2=>by
  have nn:∀Q,0<=zD t Q:=λQ=>by
   induction Q with
   |nil=>simp[zD]
   |cons q Q ih=>simp only[zD];split<;>omega
  rcases OY.1 h with rfl|h
  .have:=nn Q;simp only[zD];rw[OW ⟨h1,h2⟩];omega
  .have:=yU h h1 h2;simp only[zD];split<;>omega
theorem yV{t:Nat}:∀{Q},(∀q∈Q,q.1<t)->zD t Q=0
 |[],_=>rfl
 |q::Q,h=>by have:=h q (by simp);simp only[zD];rw[OV (by omega),yV λp hp=>h p (by simp[hp])];rfl
theorem yW:∀Q:List (Nat×Nat),∃T,∀q∈Q,q.1<T
 |[]=>⟨0,by simp⟩
 |q::Q=>by
  obtain⟨T,h⟩:=yW Q;refine⟨q.1+1+T,λp hp=>?_⟩;rcases OY.1 hp with rfl|hp
  .omega
  .have:=h p hp;omega
theorem yX:∀(n:Nat)(l:List Nat)(s:Nat),l.length=n->(∀a∈l,s<=a/\∀e,s<=e->e<=a->e∈l)->2*l.sum+n<=2*(n*s)+n*n
 |0,l,s,hl,_=>by have:l=[]:=O8.1 hl;subst this;simp
 |n+1,l,s,hl,h=>by
  have hmax:∀k:List Nat,k≠[]->∃m∈k,∀a∈k,a<=m:=by
   intro k;induction k with
   |nil=>exact λh=>absurd rfl h
   |cons a k ih=>
    intro _;by_cases hk:k=[]
    .subst hk;exact⟨a,by simp,λb hb=>by simp at hb;omega⟩
    .obtain⟨m,h1,h2⟩:=ih hk;by_cases ham:m<=a
     .refine⟨a,by simp,λb hb=>?_⟩;rcases OY.1 hb with rfl|hb
      .exact Ou _
      .exact OA (h2 b hb) ham
     .refine⟨m,List.mem_cons_of_mem _ h1,λb hb=>?_⟩;rcases OY.1 hb with rfl|hb
      .omega
      .exact h2 b hb
  obtain⟨m,m1,m2⟩:=hmax l (λe=>by rw[e] at hl;simp at hl);have hm:=h m m1;have hlen:m+1<=s+l.length:=by
   have:=mY ((List.range (m+1-s)).map λi=>s+i) l (List.Pairwise.map _ (λa b hne e=>hne (by omega)) List.nodup_range) λx hx=>by obtain⟨i,hi,rfl⟩:=OR.1 hx;rw[List.mem_range] at hi;exact hm.2 _ (by omega) (by omega)
   simp at this;have:=hm.1;omega
  have hs:l.sum=m+(l.erase m).sum:=by have hp:=List.perm_cons_erase m1;rw[hp.sum_nat,List.sum_cons]
  have ih:=yX n (l.erase m) s (by rw[List.length_erase_of_mem m1];omega) λa ha=>by
   have ha':=List.mem_of_mem_erase ha;refine⟨(h a ha').1,λe h1 h2=>?_⟩;have he:=(h a ha').2 e h1 h2;by_cases hem:e=m
   .have:a=m:=Nat.le_antisymm (m2 a ha') (by omega);rw[hem];rw[this] at ha;exact ha
   .exact(List.mem_erase_of_ne hem).2 he
  have e1:(n+1)*s=n*s+s:=Nat.succ_mul n s;have e2:(n+1)*(n+1)=n*n+2*n+1:=by grind
  omega
theorem yY(hs:eX 3 Q)(hj:1<=j):2*((Q.filter λp=>decide (j<=p.2)).map Prod.fst).sum+(Q.filter λp=>decide (j<=p.2)).length<=2*((Q.filter λp=>decide (j<=p.2)).length*3)+(Q.filter λp=>decide (j<=p.2)).length*(Q.filter λp=>decide (j<=p.2)).length:=by
 refine yX (Q.filter λp=>decide (j<=p.2)).length ((Q.filter λp=>decide (j<=p.2)).map Prod.fst) 3 (by simp) λa ha=>?_;obtain⟨q,hq,rfl⟩:=OR.1 ha;obtain⟨h1,h2⟩:=O5.1 hq;have h2:j<=q.2:=by simpa using h2
 have h:=hs q h1 (by omega);refine⟨h.1,λe e1 e2=>?_⟩;obtain⟨q',a1,a2,a3⟩:=h.2 e e1 e2;exact OR.2 ⟨q',O5.2 ⟨a1,by simp;omega⟩,a2⟩
theorem yZ:∀Q:List (Nat×Nat),(∀q∈Q,q.2<=4)->(((Q.filter λp=>decide (3<=p.2)).map Prod.fst).sum:Int)=tD 4 Q+tD 3 Q/\(((Q.filter λp=>decide (2<=p.2)).map Prod.fst).sum:Int)=tD 4 Q+tD 3 Q+tD 2 Q
 |[],_=>by simp[tD]
 |(c,j)::Q,h=>by obtain⟨h1,h2⟩:=yZ Q λq hq=>h q (by simp[hq]);have hj:=h (c,j) (by simp);simp only at hj;simp only[tD,List.filter_cons];rcases (show j=0\/j=1\/j=2\/j=3\/j=4 by omega) with rfl|rfl|rfl|rfl|rfl<;>simp<;>omega
theorem zd:∀Q:List (Nat×Nat),(∀q∈Q,q.2=4->q.1=3)->tD 4 Q=3*nD 4 Q
 |[],_=>by simp[tD,nD]
 |q::Q,h=>by
  have ih:=zd Q λp hp=>h p (by simp[hp]);have hq:=h q (by simp);simp only[tD,nD];split
  .rename_i hj;have:=hq hj;omega
  .omega
theorem ze(b:Int):∀Q:List (Nat×Nat),(∀q∈Q,q.2=3->b<=(q.1:Int))->b*tD 3 Q<=sD 3 Q
 |[],_=>by simp[tD,sD]
 |q::Q,h=>by
  have ih:=ze b Q λp hp=>h p (by simp[hp]);have hq:=h q (by simp);simp only[tD,sD];split
  .rename_i hj;have:=Int.mul_le_mul_of_nonneg_right (hq hj) (show (0:Int)<=(q.1:Int) by omega);rw[Int.mul_add];omega
  .rw[Int.zero_add,Int.zero_add];exact ih
theorem Fl{a b c e m:Int}(h0:a*(m*m*m)+b*(m*m)+c*m+e=0)(h1:a*((m+1)*(m+1)*(m+1))+b*((m+1)*(m+1))+c*(m+1)+e=0)(h2:a*((m+2)*(m+2)*(m+2))+b*((m+2)*(m+2))+c*(m+2)+e=0)(h3:a*((m+3)*(m+3)*(m+3))+b*((m+3)*(m+3))+c*(m+3)+e=0):a=0/\b=0/\c=0/\e=0:=by
 have e1:a*((m+1)*(m+1)*(m+1))=a*(m*m*m)+3*(a*(m*m))+3*(a*m)+a:=by grind
 have e2:a*((m+2)*(m+2)*(m+2))=a*(m*m*m)+6*(a*(m*m))+12*(a*m)+8*a:=by grind
 have e3:a*((m+3)*(m+3)*(m+3))=a*(m*m*m)+9*(a*(m*m))+27*(a*m)+27*a:=by grind
 have f1:b*((m+1)*(m+1))=b*(m*m)+2*(b*m)+b:=by grind
 have f2:b*((m+2)*(m+2))=b*(m*m)+4*(b*m)+4*b:=by grind
 have f3:b*((m+3)*(m+3))=b*(m*m)+6*(b*m)+9*b:=by grind
 have g1:c*(m+1)=c*m+c:=by grind
 have g2:c*(m+2)=c*m+2*c:=by grind
 have g3:c*(m+3)=c*m+3*c:=by grind
 have ha:a=0:=by omega
 subst ha;have hb:b=0:=by omega
 subst hb;have hc:c=0:=by omega
 subst hc;exact⟨rfl,rfl,rfl,by omega⟩
theorem Fm(hs:eX 3 Q)(hd:∀q∈Q,q.2<=4)(hf:∀q∈Q,q.2=4->q.1=3){w:Nat}(hw:w<=3)(he:∀t,cd Q t=w*nm 4 t):∀q∈Q,q.1<=4800:=by
 obtain⟨T,hT⟩:=yW Q;have eqP:∀t:Nat,(6*cd Q t:Int)=w*((t:Int)*t*t)+6*w*((t:Int)*t)+11*w*t+6*w:=λt=>by
  rw[he t];have h:=ko t;have h':((6*nm 4 t:Nat):Int)=(((t+1)*(t+2)*(t+3):Nat):Int):=by rw[h]
  simp only[Int.natCast_mul,Int.natCast_add] at h'⊢;have h'':(6:Int)*(w*(nm 4 t:Nat))=w*(6*(nm 4 t:Nat)):=by grind
  rw[h''];have h3:(6:Int)*(nm 4 t:Nat)=((t:Int)+1)*(t+2)*(t+3):=by simpa using h'
  rw[h3];grind
 have eqQ:∀t:Nat,(∀q∈Q,1<=q.2->q.1<=t)->_:=λt=>yS t Q hd hf;have far:∀t:Nat,T<=t->(nD 4 Q-w)*((t:Int)*t*t)+((3*nD 3 Q-3*nD 4 Q)-6*w)*((t:Int)*t)+((2*nD 4 Q+9*nD 3 Q-6*tD 3 Q+6*nD 2 Q)-11*w)*t+((3*sD 3 Q-9*tD 3 Q+6*nD 3 Q-6*tD 2 Q+6*nD 2 Q+6*nD 1 Q)-6*w)=0:=λt ht=>by
  have h1:=eqQ t λq hq _=>by have:=hT q hq;omega
  have h2:=eqP t;rw[yV λq hq=>by have:=hT q hq;omega] at h1;rw[h1] at h2;generalize (t:Int)=x at h2⊢;grind
 have q1:=far T (by omega);have q2:=far (T+1) (by omega);have q3:=far (T+2) (by omega);have q4:=far (T+3) (by omega);obtain⟨ca,cb,cc,ce⟩:=Fl (m:=(T:Int)) q1 (by simpa using q2) (by simpa using q3) (by simpa using q4);obtain⟨f3,f2,f1⟩:=yT Q hd;obtain⟨g3,g2⟩:=yZ Q hd;have g4:=zd Q hf;have n3:=qO 3 Q;have n2:=qO 2 Q;have n1:=qO 1 Q;have s3:=ze 3 Q λq hq hj=>by have:=(hs q hq (by omega)).1;omega
 have u3:=yY hs (j:=3) (by omega);have u2:=yY hs (j:=2) (by omega);generalize (Q.filter λp=>decide (3<=p.2)).length=k3 at f3 u3;generalize ((Q.filter λp=>decide (3<=p.2)).map Prod.fst).sum=w3 at g3 u3;generalize (Q.filter λp=>decide (2<=p.2)).length=k2 at f2 u2;generalize ((Q.filter λp=>decide (2<=p.2)).map Prod.fst).sum=w2 at g2 u2;have hk3:k3<=12:=by omega
 have hq3:k3*k3<=12*k3:=Ph _ hk3;have hk2:k2<=96:=by omega
 have hq2:k2*k2<=96*k2:=Ph _ hk2;have low:∀q∈Q,1<=q.2->q.1<=4800:=λq hq hj=>by have:=hs.tip hq (j:=1) (by omega) hj;omega
 intro q hq;by_cases hj:1<=q.2
 .exact low q hq hj
 .apply Nat.le_of_not_lt;intro hlt;have h1:=eqQ q.1 λp hp h=>by have:=low p hp h;omega
  have h2:=eqP q.1;have h3:=yU hq (by omega) rfl;rw[h1] at h2;have e1:nD 4 Q=w:=by omega
  have e2:3*nD 3 Q-3*nD 4 Q=6*w:=by omega
  have e3:2*nD 4 Q+9*nD 3 Q-6*tD 3 Q+6*nD 2 Q=11*w:=by omega
  rw[e2,e3,e1] at h2;omega
end Go.Proofs.YtjkalahhpobefaaGreat.C4
