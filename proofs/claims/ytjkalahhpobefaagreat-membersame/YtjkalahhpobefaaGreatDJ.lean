/- How many monomials are least outside a set that is closed under divisors: of each degree, by counting each with its divisors (plain mathematics). -/
import Derived.Test.YtjkalahhpobefaaGreatEC
namespace Go.Proofs.YtjkalahhpobefaaGreat.C4
open Go.Proofs.Tryz
set_option linter.unusedSimpArgs false
set_option linter.unusedVariables false
theorem qy{α:Type}(f:α->Nat):∀(k l:List α),k.Nodup->(∀x∈k,x∈l)->(k.map f).sum<=(l.map f).sum
 |[],_,_,_=>NS _
 |a::k,l,hn,hs=>by
  obtain⟨l1,l2,rfl⟩:=List.append_of_mem (hs a (by simp));have hnd:=List.nodup_cons.1 hn;have:=qy f k (l1++l2) hnd.2 λx hx=>by
   have hne:x≠a:=λe=>hnd.1 (e ▸ hx);rcases N1.1 (hs x (by simp[hx])) with h|h
   .exact N1.2 (Ox h)
   .rcases Og.1 h with h|h
    .exact absurd h hne
    .exact N1.2 (Oy h)
  simp only[List.map_cons,List.sum_cons,Oi,List.sum_append] at this⊢;omega
theorem ze(x:Nat):∀l:List bp,(l.map λm=>m x).sum=((l.filter λm=>decide (0<m x)).map λm=>m x).sum
 |[]=>rfl
 |m::l=>by
  have ih:=ze x l;by_cases h:0<m x
  .rw[List.filter_cons_of_pos (by simpa using h)];simp only[List.map_cons,List.sum_cons,ih]
  .rw[List.filter_cons_of_neg (by simpa using h)];simp only[List.map_cons,List.sum_cons,ih];omega
variable{m:bp}{x:Nat}
theorem E7(h:0<m x):dn x m x+1=m x:=by simp only[dn,if_true];omega
def Br(B:bp->Prop)(U:List Nat)(m:bp):Prop:=bX m U/\∀i,0<m i->B (dn i m)
variable{t:Nat}{B:bp->Prop}
theorem tY{U:List Nat}(hx:x<4){l k:List bp}(hl:∀m,m∈l↔B m/\deg m=t)(hkn:k.Nodup)(hk:∀m,m∈k↔Br B U m/\deg m=t+1):(k.map λm=>m x).sum<=(l.map λm=>m x+1).sum:=by
 rw[ze];have e:((k.filter λm=>decide (0<m x)).map λm=>m x).sum=(((k.filter λm=>decide (0<m x)).map (dn x)).map λm=>m x+1).sum:=by rw[List.map_map];congr 1;refine List.map_congr_left λm hm=>?_;have:=(Om.1 hm).2;exact(E7 (by simpa using this)).symm
 rw[e];refine qy _ _ _ ?_ λm hm=>?_
 .refine List.pairwise_map.2 ((hkn.filter _).imp_of_mem fun {a b} ha hb hne e=>hne ?_);have h1:=(Om.1 ha).2;have h2:=(Om.1 hb).2;rw[<-jh (x:=x) (m:=a) (by simpa using h1),e,jh (by simpa using h2)]
 .obtain⟨u,hu,rfl⟩:=N9.1 hm;obtain⟨h1,h2⟩:=Om.1 hu;have h2:0<u x:=by simpa using h2
  obtain⟨h3,h4⟩:=(hk u).1 h1;exact(hl _).2 ⟨h3.2 x h2,by have:=qj hx h2;omega⟩
theorem kP{α:Type}(f g:α->Nat):∀l:List α,(l.map λm=>f m+g m).sum=(l.map f).sum+(l.map g).sum
 |[]=>rfl
 |a::l=>by simp only[List.map_cons,List.sum_cons,kP f g l];omega
theorem iE{α:Type}{f:α->Nat}{c:Nat}:∀{l:List α},(∀m∈l,f m=c)->(l.map f).sum=c*l.length
 |[],_=>by simp
 |a::l,h=>by simp only[List.map_cons,List.sum_cons,Oh];rw[iE λm hm=>h m (by simp[hm]),h a (by simp),Nat.mul_add];omega
variable{a b:Nat}
theorem qF{y z:Nat}(hx:x<4)(hy:y<4)(hz:z<4)(hd:∀m,bX m [x,y,z]->deg m=m x+m y+m z)(hs:∀m,B m->bX m [x,y,z])(ha:HF B t a)(hb:HF (Br B [x,y,z]) (t+1) b):(t+1)*b<=(t+3)*a:=by
 obtain⟨l,l1,l2,l3⟩:=ha;obtain⟨k,k1,k2,k3⟩:=hb;have e1:=tY hx l2 k1 k2;have e2:=tY hy l2 k1 k2;have e3:=tY hz l2 k1 k2;have s1:(k.map λm=>m x).sum+(k.map λm=>m y).sum+(k.map λm=>m z).sum=(t+1)*b:=by
  rw[<-kP,<-kP,<-k3];exact iE λm hm=>by have h:=(k2 m).1 hm;rw[<-hd m h.1.1,h.2]
 have s2:(l.map λm=>m x+1).sum+(l.map λm=>m y+1).sum+(l.map λm=>m z+1).sum=(t+3)*a:=by
  rw[<-kP,<-kP,<-l3];exact iE λm hm=>by have h:=(l2 m).1 hm;have:=hd m (hs m h.1);omega
 omega
def wo(x:Nat):List Nat:=[0,1,2,3].filter λi=>decide (i≠x)
theorem E8(hx:x<4)(hs:∀m,B m->bX m (wo x))(ha:HF B t a)(hb:HF (Br B (wo x)) (t+1) b):(t+1)*b<=(t+3)*a:=by
 rcases (show x=0\/x=1\/x=2\/x=3 by omega) with rfl|rfl|rfl|rfl
 .exact qF (x:=1) (y:=2) (z:=3) (by omega) (by omega) (by omega) (λm h=>by have:=h 0 (by simp);unfold deg;omega) hs ha hb
 .exact qF (x:=0) (y:=2) (z:=3) (by omega) (by omega) (by omega) (λm h=>by have:=h 1 (by simp);unfold deg;omega) hs ha hb
 .exact qF (x:=0) (y:=1) (z:=3) (by omega) (by omega) (by omega) (λm h=>by have:=h 2 (by simp);unfold deg;omega) hs ha hb
 .exact qF (x:=0) (y:=1) (z:=2) (by omega) (by omega) (by omega) (λm h=>by have:=h 3 (by simp);unfold deg;omega) hs ha hb
theorem tZ(hx:x<4):bX m (wo x)↔bX m [0,1,2,3]/\m x=0:=by
 constructor
 .intro h;exact⟨λi hi=>h i λhc=>hi (Om.1 hc).1,h x λhc=>by have:=(Om.1 hc).2;simp at this⟩
 .rintro ⟨h1,h2⟩ i hi;by_cases e:i=x
  .rw[e];exact h2
  .exact h1 i λhc=>hi (Om.2 ⟨hc,by simpa using e⟩)
theorem jK(B:bp->Prop)(hs:∀m,B m->bX m [0,1,2,3])(t:Nat):∃k,HF B t k:=by
 obtain⟨l,l1,l2,l3⟩:=HF.all [0,1,2,3] (by decide) (by decide) t;exact⟨_,l.filter λm=>@decide (B m) (Classical.propDecidable _),l1.filter _,λm=>by
  rw[Om,l2];simp only[decide_eq_true_eq];exact⟨λh=>⟨h.2,h.1.2⟩,λh=>⟨⟨hs m h.1,h.2⟩,h.1⟩⟩,rfl⟩
theorem HF.le{C:bp->Prop}(h:HF B t a)(k:HF C t b)(e:∀m,B m->deg m=t->C m):a<=b:=by
 obtain⟨l,p1,p2,p3⟩:=h;obtain⟨m,q1,q2,q3⟩:=k;have:=qy (λ_=>1) l m p1 λx hx=>by have h:=(p2 x).1 hx;exact(q2 x).2 ⟨e x h.1 h.2,h.2⟩
 rw[iE (c:=1) λ_ _=>rfl,iE (c:=1) λ_ _=>rfl] at this;omega
theorem E9{i:Nat}(h:i≠x)(m:bp):dn i (up x m)=up x (dn i m):=by
 funext j;simp only[dn,up];by_cases h1:j=i
 .subst h1;rw[Oe rfl,Oc h,Oc h,Oe rfl]
 .by_cases h2:j=x
  .subst h2;rw[Oc h1,Oe rfl,Oe rfl,Oc h1]
  .rw[Oc h1,Oc h2,Oc h2,Oc h1]
theorem yu{c s:Nat}(h:(s+c)*b<=(s+c+2)*a):c*b<=(c+2)*a:=by
 by_cases hab:b<=a
 .have h1:c*b<=c*a:=Nat.mul_le_mul_left c hab;have h2:c*a<=(c+2)*a:=Oz a (by omega);omega
 .obtain⟨e,rfl⟩:∃e,b=a+e:=⟨b-a,by omega⟩;have e1:(s+c)*(a+e)=s*a+s*e+c*a+c*e:=by grind
  have e2:(s+c+2)*a=s*a+c*a+2*a:=by grind
  have e3:c*(a+e)=c*a+c*e:=by grind
  have e4:(c+2)*a=c*a+2*a:=by grind
  omega
theorem OF:∀(k:Nat)(g:bp)(B:bp->Prop),deg g=k->bX g [0,1,2,3]->¬B g->jI B->(∀m,B m->bX m [0,1,2,3])->∀t a b,k<=t->HF B t a->HF (Br B [0,1,2,3]) (t+1) b->(t+2-k)*b<=(t+4-k)*a
 |0,g,B,hg,hsg,hng,hd,hs,t,a,b,hk,ha,hb=>by
  have hg1:g=one:=by
   funext i;by_cases hi:i=0\/i=1\/i=2\/i=3
   .unfold deg at hg;rcases hi with rfl|rfl|rfl|rfl<;>(show _=0)<;>omega
   .exact hsg i (by simp;omega)
  have hno:∀m,¬B m:=λm hm=>hng (hd g m (by rw[hg1];exact ye m) hm);have hb0:b=0:=by
   refine hb.uniq ⟨[],by simp,λm=>?_,rfl⟩;simp only[List.not_mem_nil,false_iff];rintro ⟨⟨_,h⟩,hm⟩;have:∃i,0<m i:=Oj λhc=>by have h0:∀i,m i=0:=λi=>Oj λhi=>hc ⟨i,by omega⟩;have:=h0 0;have:=h0 1;have:=h0 2;have:=h0 3;unfold deg at hm;omega
   obtain⟨i,hi⟩:=this;exact hno _ (h i hi)
  rw[hb0];simp
 |k+1,g,B,hg,hsg,hng,hd,hs,t,a,b,hk,ha,hb=>by
  have hex:∃x,x<4/\0<g x:=Oj λhc=>by have h0:∀i,i<4->g i=0:=λi h4=>Oj λhi=>hc ⟨i,h4,by omega⟩;have:=h0 0 (by omega);have:=h0 1 (by omega);have:=h0 2 (by omega);have:=h0 3 (by omega);unfold deg at hg;omega
  obtain⟨x,hx,hgx⟩:=hex;obtain⟨s,rfl⟩:∃s,t=s+1:=⟨t-1,by omega⟩;have hsl:∀m,(B m/\m x=0)->bX m (wo x):=λm h=>(tZ hx).2 ⟨hs m h.1,h.2⟩;have hsu:∀m,B (up x m)->bX m [0,1,2,3]:=λm h=>ji (mL x m) (hs _ h);obtain⟨a0,ha0⟩:=jK (λm=>B m/\m x=0) (λm h=>hs m h.1) (s+1);obtain⟨a1,ha1⟩:=jK (λm=>B (up x m)) hsu s;obtain⟨b0,hb0⟩:=jK (Br (λm=>B m/\m x=0) (wo x)) (λm h=>((tZ hx).1 h.1).1) (s+2);obtain⟨b1,hb1⟩:=jK (Br (λm=>B (up x m)) [0,1,2,3]) (λm h=>h.1) (s+1);have ea:a=a0+a1:=ha.uniq (HF.split hx ha0 ha1);obtain⟨c0,hc0⟩:=jK (λm=>Br B [0,1,2,3] m/\m x=0) (λm h=>h.1.1) (s+2);obtain⟨c1,hc1⟩:=jK (λm=>Br B [0,1,2,3] (up x m)) (λm h=>ji (mL x m) h.1) (s+1);have eb:b=c0+c1:=hb.uniq (HF.split hx hc0 hc1);have l0:c0<=b0:=hc0.le hb0 λm h _=>⟨(tZ hx).2 ⟨h.1.1,h.2⟩,λi hi=>⟨h.1.2 i hi,by
   have h2:=h.2;have:=lR i m x;omega⟩⟩
  have l1:c1<=b1:=hc1.le hb1 λm h _=>⟨ji (mL x m) h.1,λi hi=>by
   show B (up x (dn i m));by_cases e:i=x
   .subst e;rw[jh hi];have:=h.2 i (xZ i m);rwa [tC] at this
   .have:=h.2 i (by have:=mL x m i;omega);rwa [E9 e] at this⟩
  have g0:=E8 hx hsl ha0 hb0;have g1:=OF k (dn x g) (λm=>B (up x m)) (by have:=qj hx hgx;omega) (ji (lR x g) hsg) (by
   show¬B (up x (dn x g));rw[jh hgx];exact hng) (λu v huv hv=>hd _ _ (λi=>by simp only[up];have:=huv i;split<;>omega) hv) hsu s a1 b1 (by omega) ha1 hb1
  obtain⟨c,hc⟩:∃c,c=s+2-k:=⟨_,rfl⟩;rw[<-hc,show s+4-k=c+2 by omega] at g1;rw[show s+1+2-(k+1)=c by omega,show s+1+4-(k+1)=c+2 by omega,ea,eb];have g2:c*b0<=(c+2)*a0:=yu (s:=k) (by
   rw[show k+c=s+2 by omega];exact g0)
  have m0:c*c0<=c*b0:=Nat.mul_le_mul_left c l0;have m1:c*c1<=c*b1:=Nat.mul_le_mul_left c l1;rw[Nat.mul_add,Nat.mul_add];omega
end Go.Proofs.YtjkalahhpobefaaGreat.C4
namespace Go.Proofs.YtjkalahhpobefaaGreat.C4
open Go.Proofs.Tryz
set_option linter.unusedSimpArgs false
set_option linter.unusedVariables false
open Cn (Od jl iV bC Pr)
def Bq(L:Mt->Prop)(m:bp):Prop:=bX m [0,1,2,3]/\¬L (gI m)
def Gq(L:Mt->Prop)(m:bp):Prop:=bX m [0,1,2,3]/\L (gI m)/\∀x,0<m x->¬L (gI (dn x m))
def Ml(L:Mt->Prop)(g:Mt):Prop:=L g/\∀x,aC x=1->cl x g->¬L (dJ x g)
theorem EG{L:Mt->Prop}{y:Mt}:Gq L (gj y)↔Ml L y:=by
 constructor
 .rintro ⟨_,h2,h3⟩;rw[lV] at h2;refine⟨h2,λx hx hl=>?_⟩;obtain⟨a,b,c,e⟩:=x;obtain⟨l1,l2,l3,l4⟩:=hl;simp only[aC] at hx;simp only at l1 l2 l3 l4;rcases (show (a=1/\b=0/\c=0/\e=0)\/(a=0/\b=1/\c=0/\e=0)\/(a=0/\b=0/\c=1/\e=0)\/(a=0/\b=0/\c=0/\e=1) by omega) with ⟨rfl,rfl,rfl,rfl⟩|⟨rfl,rfl,rfl,rfl⟩|⟨rfl,rfl,rfl,rfl⟩|⟨rfl,rfl,rfl,rfl⟩
  .exact h3 0 l1
  .exact h3 1 l2
  .exact h3 2 l3
  .exact h3 3 l4
 .rintro ⟨h2,hm⟩;refine⟨jJ y,h2,λi hi=>?_⟩;by_cases hi3:i=0\/i=1\/i=2\/i=3
  .rcases hi3 with rfl|rfl|rfl|rfl
   .exact hm (1,0,0,0) rfl ⟨hi,NS _,NS _,NS _⟩
   .exact hm (0,1,0,0) rfl ⟨NS _,hi,NS _,NS _⟩
   .exact hm (0,0,1,0) rfl ⟨NS _,NS _,hi,NS _⟩
   .exact hm (0,0,0,1) rfl ⟨NS _,NS _,NS _,hi⟩
  .exact absurd (jJ y i (by simp;omega)) (by omega)
theorem yp{L:Mt->Prop}(hup:∀x {y},L y->L (bK x y)):jI (Bq L):=λa b hab hb=>⟨ji hab hb.1,λhl=>hb.2 (by
 have h:=hup (dJ (gI a) (gI b)) hl;rw[lU,oM ⟨hab 0,hab 1,hab 2,hab 3⟩] at h;exact h)⟩
variable{t:Nat}
theorem HF.or{B C:bp->Prop}{a b:Nat}(h:HF B t a)(k:HF C t b)(hd:∀m,B m->¬C m):HF (λm=>B m\/C m) t (a+b):=by have h1:bC (λm=>B m/\deg m=t) a:=h;have h2:bC (λm=>C m/\deg m=t) b:=k;exact(h1.or h2 λm p q=>hd m p.1 q.1).congr λm=>⟨λh=>h.elim (λh=>⟨Ox h.1,h.2⟩) λh=>⟨Oy h.1,h.2⟩,fun⟨h,e⟩=>h.elim (λh=>Ox ⟨h,e⟩) λh=>Oy ⟨h,e⟩⟩
theorem EH{L:Mt->Prop}(hup:∀x {y},L y->L (bK x y)){g:Mt}(hg:L g){α γ:Nat->Nat}(hα:∀s,HF (Bq L) s (α s))(hγ:∀s,HF (Gq L) s (γ s))(s:Nat)(hs:aC g<=s):(s+2-aC g)*(α (s+1)+γ (s+1))<=(s+4-aC g)*α s:=by
 refine OF (aC g) (gj g) (Bq L) (yq g) (jJ g) (λh=>h.2 (by rw[lV];exact hg)) (yp hup) (λm h=>h.1) s _ _ hs (hα s) (((hα (s+1)).or (hγ (s+1)) λm h1 h2=>h1.2 h2.2.1).congr λm=>?_);constructor
 .rintro (h|h)
  .exact⟨h.1,λi _=>yp hup _ _ (lR i m) h⟩
  .exact⟨h.1,λi hi=>⟨ji (lR i m) h.1,h.2.2 i hi⟩⟩
 .rintro ⟨h1,h2⟩;by_cases h:L (gI m)
  .exact Oy ⟨h1,h,λx hx=>(h2 x hx).2⟩
  .exact Ox ⟨h1,h⟩
def cS(d:Nat->Nat)(v:Nat->Nat->Nat)(t i:Nat):Nat:=if d i<=t then v i (t-d i) else 0
theorem qu{R:Nat}{d:Nat->Nat}{P:Tt->Prop}{v:Nat->Nat->Nat}(t:Nat)(h:∀i,i<R->d i<=t->bC (λy=>aC y=t-d i/\P (i,y)) (v i (t-d i))):∀r,r<=R->bC (λu:Tt=>u.1<r/\u∈Ts R d t/\P u) (((List.range r).map (cS d v t)).sum)
 |0,_=>bC.none λu h=>by omega
 |r+1,hr=>by
  have ih:=qu t h r (by omega);rw[List.range_succ,Oi,List.sum_append,List.map_cons,List.map_nil,List.sum_cons,List.sum_nil,Nat.add_zero];have hk:bC (λu:Tt=>u.1=r/\u∈Ts R d t/\P u) (cS d v t r):=by
   unfold cS;by_cases ht:d r<=t
   .rw[Oe ht];refine(tJ (i:=r) (h r (by omega) ht)).congr λu=>?_;obtain⟨i,y⟩:=u;rw[dk];constructor
    .rintro ⟨h0,h1,h2⟩;have h0:i=r:=h0;have h1:aC y=t-d r:=h1;subst h0;exact⟨rfl,⟨show i<R by omega,show d i+aC y=t by omega⟩,h2⟩
    .rintro ⟨h0,⟨_,h1⟩,h2⟩;have h0:i=r:=h0;have h1:d i+aC y=t:=h1;subst h0;exact⟨rfl,show aC y=t-d i by omega,h2⟩
   .rw[Oc ht];refine bC.none λu ⟨h1,h2,_⟩=>?_;have:=(dk.1 h2).2;rw[h1] at this;omega
  refine(ih.or hk λu h1 h2=>by omega).congr λu=>?_;constructor
  .rintro (⟨h1,h2⟩|⟨h1,h2⟩)
   .exact⟨by omega,h2⟩
   .exact⟨by omega,h2⟩
  .rintro ⟨h1,h2⟩;by_cases h:u.1<r
   .exact Ox ⟨h,h2⟩
   .exact Oy ⟨by omega,h2⟩
theorem tK{α:Type}(p:α->Bool)(f:α->Nat):∀l:List α,(l.map f).sum=((l.filter p).map f).sum+((l.filter λa=>!p a).map f).sum
 |[]=>rfl
 |a::l=>by have ih:=tK p f l;simp only[List.map_cons,List.sum_cons,List.filter_cons];cases h:p a<;>simp[ih]<;>omega
theorem yr{α:Type}(p:α->Bool):∀l:List α,l.length=(l.filter p).length+(l.filter λa=>!p a).length
 |[]=>rfl
 |a::l=>by have ih:=yr p l;simp only[Oh,List.filter_cons];cases h:p a<;>simp[ih]<;>omega
def Dd(c t:Nat):Nat:=(if 1<=c then nm 3 t else 0)+(if 2<=c then nm 3 (t-1) else 0)+(if 3<=c then nm 3 (t-2) else 0)
variable{c:Nat}
theorem EI(hc:c<=3)(ht:3<=t):iD c t+Dd c t=nm 4 t:=by
 unfold iD Dd;rw[Oe (by omega)];obtain⟨s,rfl⟩:∃s,t=s+3:=⟨t-3,by omega⟩;have e1:nm 4 (s+3)=nm 4 (s+2)+nm 3 (s+3):=iA 3 (s+2);have e2:nm 4 (s+2)=nm 4 (s+1)+nm 3 (s+2):=iA 3 (s+1);have e3:nm 4 (s+1)=nm 4 s+nm 3 (s+1):=iA 3 s;rw[show s+3-1=s+2 by omega,show s+3-2=s+1 by omega];rcases (show c=0\/c=1\/c=2\/c=3 by omega) with rfl|rfl|rfl|rfl
 .rw[Oc (by omega),Oc (by omega),Oc (by omega)];show nm 4 (s+3)+_=_;omega
 .rw[Oe (by omega),Oc (by omega),Oc (by omega)];show nm 4 (s+2)+_=_;omega
 .rw[Oe (by omega),Oe (by omega),Oc (by omega)];show nm 4 (s+1)+_=_;omega
 .rw[Oe (by omega),Oe (by omega),Oe (by omega)];show nm 4 s+_=_;omega
theorem tL(t:Nat):nm 3 (t+1)=nm 3 t+(t+2):=by rw[iA,qv]
variable{s:Nat}
theorem lW(h:s<=t):nm 3 s<=nm 3 t:=by
 obtain⟨e,rfl⟩:=Nat.le.dest h;clear h;induction e with
 |zero=>exact NL _
 |succ e ih=>rw[show s+(e+1)=s+e+1 by omega,tL];omega
theorem EJ(t:Nat):0<nm 3 t:=by have:=lW (NS t);rw[oK] at this;omega
theorem EK(c t:Nat):Dd c t<=3*nm 3 t:=by unfold Dd;have h1:=lW (show t-1<=t by omega);have h2:=lW (show t-2<=t by omega);split<;>split<;>split<;>omega
theorem EL(c t:Nat):Dd c t<=Dd c (t+1):=by unfold Dd;have h0:=lW (show t<=t+1 by omega);have h1:=lW (show t-1<=t+1-1 by omega);have h2:=lW (show t-2<=t+1-2 by omega);split<;>split<;>split<;>omega
theorem tM{e:Nat}(ht:t=c+31)(he:e<=2)(hc:2<=c):(c+2)*nm 3 (t-e)<=c*nm 3 (t+1-e)+32*(c+33):=by obtain⟨s,hs⟩:∃s,s=t-e:=⟨_,rfl⟩;rw[show t+1-e=s+1 by omega,<-hs,tL,Nat.mul_add,Nat.add_mul];have h:=lX s;have h1:(s+1)*(s+2)<=(c+32)*(s+2):=Oz _ (by omega);have h2:(c+32)*(s+2)=c*(s+2)+32*(s+2):=Nat.add_mul ..;omega
theorem EM(ht:t=c+31)(hc:2<=c)(k:Nat):(c+2)*Dd k t<=c*Dd k (t+1)+96*(c+33):=by
 have part:∀(q:Prop) [Decidable q] (a b:Nat),(c+2)*a<=c*b+32*(c+33)->(c+2)*(if q then a else 0)<=c*(if q then b else 0)+32*(c+33):=λq _ a b h=>by
  split
  .exact h
  .rw[Nat.mul_zero];exact NS _
 have h0:=part (1<=k) _ _ (tM ht (e:=0) (by omega) hc);have h1:=part (2<=k) _ _ (tM ht (e:=1) (by omega) hc);have h2:=part (3<=k) _ _ (tM ht (e:=2) (by omega) hc);rw[Nat.sub_zero,Nat.sub_zero] at h0;unfold Dd;rw[Nat.mul_add,Nat.mul_add,Nat.mul_add,Nat.mul_add];generalize (c+2)*(if 1<=k then nm 3 t else 0)=x0 at*;generalize (c+2)*(if 2<=k then nm 3 (t-1) else 0)=x1 at*;generalize (c+2)*(if 3<=k then nm 3 (t-2) else 0)=x2 at*;generalize c*(if 1<=k then nm 3 (t+1) else 0)=y0 at*;generalize c*(if 2<=k then nm 3 (t+1-1) else 0)=y1 at*;generalize c*(if 3<=k then nm 3 (t+1-2) else 0)=y2 at*;clear part ht hc;omega
theorem mR{α:Type}{f g:α->Nat}:∀{l:List α},(∀a∈l,f a<=g a)->(l.map f).sum<=(l.map g).sum
 |[],_=>NL _
 |a::l,h=>by have:=mR (l:=l) λb hb=>h b (by simp[hb]);have:=h a (by simp);simp only[List.map_cons,List.sum_cons];omega
theorem oN{α:Type}(c:Nat)(f:α->Nat):∀l:List α,(l.map λa=>c*f a).sum=c*(l.map f).sum
 |[]=>by simp
 |a::l=>by simp only[List.map_cons,List.sum_cons,oN c f l,Nat.mul_add]
theorem yt{α:Type}{P:α->Nat->Prop}(hm:∀a k k',k<=k'->P a k->P a k'):∀{l:List α},(∀a∈l,∃k,P a k)->∃K,∀a∈l,P a K
 |[],_=>⟨0,by simp⟩
 |a::l,h=>by
  obtain⟨k,hk⟩:=h a (by simp);obtain⟨K,hK⟩:=yt hm (l:=l) λb hb=>h b (by simp[hb]);refine⟨k+K,λb hb=>?_⟩;rcases Og.1 hb with rfl|hb
  .exact hm _ _ _ (by omega) hk
  .exact hm _ _ _ (by omega) (hK b hb)
structure gJ(d:Nat->Nat)(L:Nat->Mt->Prop)(w:Nat)(F N:List Nat)(α γ:Nat->Nat->Nat):Prop where
 up:∀i x {y},L i y->L i (bK x y)
 dF:∀i∈F,d i<=3
 dN:∀i∈N,d i<=3
 full:∀i∈F,∀y,¬L i y
 some:∀i∈N,∃y,L i y
 ha:∀i s,HF (Bq (L i)) s (α i s)
 hg:∀i s,HF (Gq (L i)) s (γ i s)
 sum:∀t,(F.map (cS d α t)).sum+(N.map (cS d α t)).sum=w*nm 4 t
variable{α γ:Nat->Nat->Nat}{F N:List Nat}{w:Nat}{L:Nat->Mt->Prop}{d:Nat->Nat}
theorem gJ.ofF(h:gJ d L w F N α γ)(ht:3<=t):(F.map (cS d α t)).sum+(F.map λi=>Dd (d i) t).sum=F.length*nm 4 t:=by rw[<-kP];rw[iE (c:=nm 4 t) λi hi=>?_,Nat.mul_comm];have hd:=h.dF i hi;rw[<-EI hd ht];congr 1;unfold cS iD;rw[Oe (by omega),Oe (by omega)];refine(h.ha i (t-d i)).uniq ((HF.all [0,1,2,3] (by decide) (by decide) (t-d i)).congr λm=>?_);exact⟨λhm=>⟨hm,h.full i hi _⟩,λhm=>hm.1⟩
theorem gJ.growJ(h:gJ d L w F N α γ){K:Nat}(hK:∀i∈N,∃y,L i y/\aC y+d i<=K)(ht:K<=t):(t+2-K)*((N.map (cS d α (t+1))).sum+(N.map (cS d γ (t+1))).sum)<=(t+4-K)*(N.map (cS d α t)).sum:=by rw[<-kP,<-oN,<-oN];refine mR λi hi=>?_;obtain⟨g,hg,hk⟩:=hK i hi;unfold cS;rw[Oe (by omega),Oe (by omega),Oe (by omega)];have hgr:=EH (λx {y}=>h.up i x) hg (h.ha i) (h.hg i) (t-d i) (by omega);rw[show t+1-d i=t-d i+1 by omega];rw[show t+4-K=t+2-K+2 by omega];refine yu (s:=K-d i-aC g) ?_;rw[show K-d i-aC g+(t+2-K)=t-d i+2-aC g by omega];rw[show t-d i+2-aC g+2=t-d i+4-aC g by omega];exact hgr
theorem gJ.eq(h:gJ d L w F N α γ)(ht:3<=t):(N.map (cS d α t)).sum+F.length*nm 4 t=w*nm 4 t+(F.map λi=>Dd (d i) t).sum:=by have h1:=h.sum t;have h2:=h.ofF ht;omega
theorem tN(d:Nat->Nat)(t:Nat)(l:List Nat):(l.map λi=>Dd (d i) t).sum<=l.length*(3*nm 3 t):=by have:=mR (l:=l) (f:=λi=>Dd (d i) t) (g:=λ_=>3*nm 3 t) λi _=>EK _ _;rw[iE (f:=λ_=>3*nm 3 t) (c:=3*nm 3 t) λ_ _=>rfl,Nat.mul_comm] at this;exact this
theorem gJ.len(h:gJ d L w F N α γ)(hw:w<=3):F.length=w:=by
 have le:F.length<=w:=by
  have h1:=h.eq (t:=100) (by omega);have h2:=tN d 100 F;have e3:nm 3 100=5151:=by have:=lX 100;omega
  have e4:nm 4 100=176851:=by have:=kh 100;omega
  rw[e4] at h1;rw[e3] at h2;omega
 refine Nat.le_antisymm le (Nat.le_of_not_lt λhlt=>?_);obtain⟨K,hK⟩:=yt (P:=λi k=>∃y,L i y/\aC y+d i<=k) (λa k k' hk ⟨y,h1,h2⟩=>⟨y,h1,by omega⟩) (l:=N) λi hi=>by obtain⟨y,hy⟩:=h.some i hi;exact⟨_,y,hy,NL _⟩
 obtain⟨t,ht⟩:∃t,t=3*K+100:=⟨_,rfl⟩;have hg:=h.growJ hK (t:=t) (by omega);have h0:=h.eq (t:=t) (by omega);have h1:=h.eq (t:=t+1) (by omega);have hs:=tN d t F;have hm:(F.map λi=>Dd (d i) t).sum<=(F.map λi=>Dd (d i) (t+1)).sum:=mR λi _=>EL _ _;rw[show t+2-K=2*K+102 by omega,show t+4-K=2*K+104 by omega] at hg;generalize (N.map (cS d α t)).sum=A0 at*;generalize (N.map (cS d α (t+1))).sum=A1 at*;generalize (N.map (cS d γ (t+1))).sum=G1 at*;generalize (F.map λi=>Dd (d i) t).sum=S0 at*;generalize (F.map λi=>Dd (d i) (t+1)).sum=S1 at*;generalize F.length=f at*;obtain⟨e,rfl⟩:∃e,w=f+e:=⟨w-f,by omega⟩;have he:1<=e:=by omega
 have n4:nm 4 (t+1)=nm 4 t+nm 3 (t+1):=iA 3 t;have n3:=tL t;have np:=EJ t;have q:3*nm 4 t=(t+3)*nm 3 t:=by
  have h4:=kh t;have h3:=lX t;have:6*nm 4 t=(t+3)*(2*nm 3 t):=by rw[h4,h3];grind
  have e2:(t+3)*(2*nm 3 t)=2*((t+3)*nm 3 t):=by grind
  omega
 rw[Nat.add_mul] at h0 h1;rw[n4,Nat.mul_add,Nat.mul_add] at h1;have a0:A0=e*nm 4 t+S0:=by omega
 have a1:e*nm 4 t+e*nm 3 (t+1)+S1=A1:=by omega
 have hf:f<=2:=by omega
 have hfs:f*(3*nm 3 t)<=2*(3*nm 3 t):=Oz _ hf;have b1:(2*K+102)*(A0+e*nm 3 t)<=(2*K+102)*(A1+G1):=Nat.mul_le_mul_left _ (by
  have:e*nm 3 t<=e*nm 3 (t+1):=Nat.mul_le_mul_left e (by omega);omega)
 have b2:(2*K+102)*(A0+e*nm 3 t)=(2*K+102)*A0+(2*K+102)*(e*nm 3 t):=Nat.mul_add ..;have b3:(2*K+104)*A0=(2*K+102)*A0+2*A0:=by rw[<-Nat.add_mul]
 have b4:(2*K+102)*(e*nm 3 t)<=2*A0:=by omega
 have b5:3*(e*nm 4 t)=(t+3)*(e*nm 3 t):=by
  have:3*(e*nm 4 t)=e*(3*nm 4 t):=by grind
  rw[this,q];grind
 generalize hx:e*nm 3 t=x at b4 b5;have hxp:nm 3 t<=x:=by rw[<-hx];have:=Oz (nm 3 t) he;omega
 have b6:(t+3)*x=3*(K*x)+103*x:=by rw[ht];grind
 have b7:(2*K+102)*x=2*(K*x)+102*x:=by grind
 omega
theorem gJ.low(h:gJ d L w F N α γ)(hw:w<=3):∀i∈N,∃y,L i y/\aC y+d i<=33:=λi hi=>Oj λhc=>by
 have hd:=h.dN i hi;have hno:∀y,aC y=30->¬L i y:=λy hy hl=>hc ⟨y,hl,by omega⟩;have e1:α i 30=nm 4 30:=(h.ha i 30).uniq (by
  have:=HF.all [0,1,2,3] (by decide) (by decide) 30;obtain⟨l,l1,l2,l3⟩:=this;exact⟨l,l1,λm=>by
   rw[l2];exact⟨λhm=>⟨⟨hm.1,hno _ (by rw[<-hm.2,<-yq,qw hm.1])⟩,hm.2⟩,λhm=>⟨hm.1.1,hm.2⟩⟩,l3⟩)
 have h1:=h.eq (t:=30+d i) (by omega);rw[h.len hw] at h1;have h2:=tN d (30+d i) F;rw[h.len hw] at h2;have h3:cS d α (30+d i) i<=(N.map (cS d α (30+d i))).sum:=by obtain⟨l1,l2,e⟩:=List.append_of_mem hi;rw[e];simp only[Oi,List.sum_append,List.map_cons,List.sum_cons];omega
 have h4:cS d α (30+d i) i=nm 4 30:=by unfold cS;rw[Oe (by omega),show 30+d i-d i=30 by omega,e1]
 have h5:=lW (show 30+d i<=33 by omega);have e3:nm 3 33=595:=by have:=lX 33;omega
 have e4:nm 4 30=5456:=by have:=kh 30;omega
 have h6:w*(3*nm 3 (30+d i))<=3*(3*nm 3 (30+d i)):=Oz _ hw;omega
theorem gJ.of(h:gJ d L w F N α γ)(hw:w<=3)(hc:2<=c):c*(N.map (cS d γ (c+32))).sum<=288*(c+33):=by
 have hg:=h.growJ (h.low hw) (t:=c+31) (by omega);rw[show c+31+2-33=c by omega,show c+31+4-33=c+2 by omega,show c+31+1=c+32 by omega] at hg;have h0:=h.eq (t:=c+31) (by omega);have h1:=h.eq (t:=c+32) (by omega);rw[h.len hw] at h0 h1;have e0:(N.map (cS d α (c+31))).sum=(F.map λi=>Dd (d i) (c+31)).sum:=by omega
 have e1:(N.map (cS d α (c+32))).sum=(F.map λi=>Dd (d i) (c+32)).sum:=by omega
 rw[e0,e1] at hg;have hd:((c+2)*(F.map λi=>Dd (d i) (c+31)).sum)<=c*(F.map λi=>Dd (d i) (c+32)).sum+F.length*(96*(c+33)):=by rw[<-oN,<-oN];have:=mR (l:=F) (f:=λi=>(c+2)*Dd (d i) (c+31)) (g:=λi=>c*Dd (d i) (c+32)+96*(c+33)) λi _=>EM rfl hc (d i);rw[kP,iE (f:=λ_=>96*(c+33)) (c:=96*(c+33)) λ_ _=>rfl,Nat.mul_comm (96*(c+33))] at this;exact this
 rw[h.len hw] at hd;rw[Nat.mul_add] at hg;have:w*(96*(c+33))<=3*(96*(c+33)):=Oz _ hw;omega
theorem qx{f:Nat->Nat}{b:Nat}{s:Nat}:∀n,(∀t,s<t->t<=s+n->f t<=b)->er f (s+n)<=er f s+n*b
 |0,_=>by simp
 |n+1,h=>by have ih:=qx n λt h1 h2=>h t h1 (by omega);have:=h (s+(n+1)) (by omega) (by omega);rw[show s+(n+1)=s+n+1 by omega] at this⊢;show er f (s+n)+f (s+n+1)<=_;rw[Nat.succ_mul];omega
theorem yv{f g:Nat->Nat}(h:∀t,f t<=g t):∀n,er f n<=er g n
 |0=>h 0
 |n+1=>Nat.add_le_add (yv h n) (h (n+1))
theorem yw(c:Nat)(f:Nat->Nat):∀n,er (λt=>c*f t) n=c*er f n
 |0=>rfl
 |n+1=>by show er _ n+c*f (n+1)=c*(er f n+f (n+1));rw[yw c f n,Nat.mul_add]
theorem EN(h:s<=t):nm 4 s<=nm 4 t:=by
 obtain⟨e,rfl⟩:=Nat.le.dest h;clear h;induction e with
 |zero=>exact NL _
 |succ e ih=>rw[show s+(e+1)=s+e+1 by omega,show nm 4 (s+e+1)=nm 4 (s+e)+nm 3 (s+e+1) from iA 3 (s+e)];omega
theorem gJ.all(h:gJ d L w F N α γ)(hw:w<=3)(hN:N.length<=4):er (λt=>(N.map (cS d γ t)).sum) 4801<=2000001:=by
 have low:∀t,(N.map (cS d γ t)).sum<=4*nm 4 t:=λt=>by
  have h1:=mR (l:=N) (f:=cS d γ t) (g:=λ_=>nm 4 t) λi _=>by
   unfold cS;split
   .have:γ i (t-d i)<=nm 4 (t-d i):=(h.hg i (t-d i)).le (HF.all [0,1,2,3] (by decide) (by decide) (t-d i)) λm hm _=>hm.1;have:=EN (show t-d i<=t by omega);omega
   .exact NS _
  rw[iE (f:=λ_=>nm 4 t) (c:=nm 4 t) λ_ _=>rfl] at h1;have:=Nat.mul_le_mul_left (nm 4 t) hN;omega
 have s0:er (λt=>(N.map (cS d γ t)).sum) 33<=264180:=by
  have h1:=yv low 33;have h2:=yw 4 (nm 4) 33;have h3:er (nm 4) 33=66045:=by
   have:∀s,24*er (nm 4) s=(s+1)*(s+2)*(s+3)*(s+4):=λs=>by
    induction s with
    |zero=>rfl
    |succ s ih=>show 24*(er (nm 4) s+nm 4 (s+1))=_;rw[Nat.mul_add,ih,show 24*nm 4 (s+1)=4*(6*nm 4 (s+1)) by omega,kh];grind
   have:=this 33;omega
  rw[h3] at h2;omega
 have up:∀t c0 b,2<=c0->288*33<=(b+1)*c0-1->c0+32<=t->(N.map (cS d γ t)).sum<=288+b:=λt c0 b h2 hb ht=>by
  obtain⟨c,rfl⟩:∃c,t=c+32:=⟨t-32,by omega⟩;have ho:=h.of hw (c:=c) (by omega);apply Nat.le_of_not_lt;intro hlt;have h1:c*(289+b)<=c*(N.map (cS d γ (c+32))).sum:=Nat.mul_le_mul_left c (by omega);have h3:c*(289+b)=288*c+(b+1)*c:=by grind
  have h4:(b+1)*c0<=(b+1)*c:=Nat.mul_le_mul_left _ (by omega);omega
 have s1:er (λt=>(N.map (cS d γ t)).sum) 63<=er (λt=>(N.map (cS d γ t)).sum) 33+30*(288+4752):=qx (f:=λt=>(N.map (cS d γ t)).sum) (b:=288+4752) (s:=33) 30 λt h1 _=>up t 2 4752 (by omega) (by omega) (by omega);have s2:er (λt=>(N.map (cS d γ t)).sum) 363<=er (λt=>(N.map (cS d γ t)).sum) 63+300*(288+297):=qx (f:=λt=>(N.map (cS d γ t)).sum) (b:=288+297) (s:=63) 300 λt h1 _=>up t 32 297 (by omega) (by omega) (by omega);have s3:er (λt=>(N.map (cS d γ t)).sum) 4801<=er (λt=>(N.map (cS d γ t)).sum) 363+4438*(288+28):=qx (f:=λt=>(N.map (cS d γ t)).sum) (b:=288+28) (s:=363) 4438 λt h1 _=>up t 332 28 (by omega) (by omega) (by omega);omega
end Go.Proofs.YtjkalahhpobefaaGreat.C4
