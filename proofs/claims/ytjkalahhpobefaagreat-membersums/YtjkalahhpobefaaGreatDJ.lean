/- How many monomials are. -/
import Derived.Test.YtjkalahhpobefaaGreatEC
namespace Go.Proofs.YtjkalahhpobefaaGreat.C4
open Go.Proofs.Tryz
set_option linter.unusedSimpArgs false
set_option linter.unusedVariables false
theorem qB{α:Type}(f:α->Nat):∀(k l:List α),k.Nodup->(∀x∈k,x∈l)->(k.map f).sum<=(l.map f).sum
 |[],_,_,_=>OB _
 |a::k,l,hn,hs=>by
  obtain⟨l1,l2,rfl⟩:=List.append_of_mem (hs a (by simp));have hnd:=List.nodup_cons.1 hn;have:=qB f k (l1++l2) hnd.2 λx hx=>by
   have hne:x≠a:=λe=>hnd.1 (e ▸ hx);rcases OK.1 (hs x (by simp[hx])) with h|h
   .exact OK.2 (Pf h)
   .rcases OY.1 h with h|h
    .exact absurd h hne
    .exact OK.2 (Pg h)
  simp only[List.map_cons,List.sum_cons,O0,List.sum_append] at this⊢;omega
theorem zj(x:Nat):∀l:List bo,(l.map λm=>m x).sum=((l.filter λm=>decide (0<m x)).map λm=>m x).sum
 |[]=>rfl
 |m::l=>by
  have ih:=zj x l;by_cases h:0<m x
  .rw[List.filter_cons_of_pos (by simpa using h)];simp only[List.map_cons,List.sum_cons,ih]
  .rw[List.filter_cons_of_neg (by simpa using h)];simp only[List.map_cons,List.sum_cons,ih];omega
variable{m:bo}{x:Nat}
theorem Fu(h:0<m x):dn x m x+1=m x:=by simp only[dn,if_true];omega
def Br(B:bo->Prop)(U:List Nat)(m:bo):Prop:=bW m U/\∀i,0<m i->B (dn i m)
variable{t:Nat}{B:bo->Prop}
theorem ui{U:List Nat}(hx:x<4){l k:List bo}(hl:∀m,m∈l↔B m/\deg m=t)(hkn:k.Nodup)(hk:∀m,m∈k↔Br B U m/\deg m=t+1):(k.map λm=>m x).sum<=(l.map λm=>m x+1).sum:=by
 rw[zj];have e:((k.filter λm=>decide (0<m x)).map λm=>m x).sum=(((k.filter λm=>decide (0<m x)).map (dn x)).map λm=>m x+1).sum:=by rw[List.map_map];congr 1;refine List.map_congr_left λm hm=>?_;have:=(O5.1 hm).2;exact(Fu (by simpa using this)).symm
 rw[e];refine qB _ _ _ ?_ λm hm=>?_
 .refine List.pairwise_map.2 ((hkn.filter _).imp_of_mem fun {a b} ha hb hne e=>hne ?_);have h1:=(O5.1 ha).2;have h2:=(O5.1 hb).2;rw[<-jn (x:=x) (m:=a) (by simpa using h1),e,jn (by simpa using h2)]
 .obtain⟨u,hu,rfl⟩:=OR.1 hm;obtain⟨h1,h2⟩:=O5.1 hu;have h2:0<u x:=by simpa using h2
  obtain⟨h3,h4⟩:=(hk u).1 h1;exact(hl _).2 ⟨h3.2 x h2,by have:=qG hx h2;omega⟩
theorem kT{α:Type}(f g:α->Nat):∀l:List α,(l.map λm=>f m+g m).sum=(l.map f).sum+(l.map g).sum
 |[]=>rfl
 |a::l=>by simp only[List.map_cons,List.sum_cons,kT f g l];omega
theorem iB{α:Type}{f:α->Nat}{c:Nat}:∀{l:List α},(∀m∈l,f m=c)->(l.map f).sum=c*l.length
 |[],_=>by simp
 |a::l,h=>by simp only[List.map_cons,List.sum_cons,OZ];rw[iB λm hm=>h m (by simp[hm]),h a (by simp),Nat.mul_add];omega
variable{a b:Nat}
theorem qQ{y z:Nat}(hx:x<4)(hy:y<4)(hz:z<4)(hd:∀m,bW m [x,y,z]->deg m=m x+m y+m z)(hs:∀m,B m->bW m [x,y,z])(ha:HF B t a)(hb:HF (Br B [x,y,z]) (t+1) b):(t+1)*b<=(t+3)*a:=by
 obtain⟨l,l1,l2,l3⟩:=ha;obtain⟨k,k1,k2,k3⟩:=hb;have e1:=ui hx l2 k1 k2;have e2:=ui hy l2 k1 k2;have e3:=ui hz l2 k1 k2;have s1:(k.map λm=>m x).sum+(k.map λm=>m y).sum+(k.map λm=>m z).sum=(t+1)*b:=by
  rw[<-kT,<-kT,<-k3];exact iB λm hm=>by have h:=(k2 m).1 hm;rw[<-hd m h.1.1,h.2]
 have s2:(l.map λm=>m x+1).sum+(l.map λm=>m y+1).sum+(l.map λm=>m z+1).sum=(t+3)*a:=by
  rw[<-kT,<-kT,<-l3];exact iB λm hm=>by have h:=(l2 m).1 hm;have:=hd m (hs m h.1);omega
 omega
def wo(x:Nat):List Nat:=[0,1,2,3].filter λi=>decide (i≠x)
theorem Fw(hx:x<4)(hs:∀m,B m->bW m (wo x))(ha:HF B t a)(hb:HF (Br B (wo x)) (t+1) b):(t+1)*b<=(t+3)*a:=by
 rcases (show x=0\/x=1\/x=2\/x=3 by omega) with rfl|rfl|rfl|rfl
 .exact qQ (x:=1) (y:=2) (z:=3) (by omega) (by omega) (by omega) (λm h=>by have:=h 0 (by simp);unfold deg;omega) hs ha hb
 .exact qQ (x:=0) (y:=2) (z:=3) (by omega) (by omega) (by omega) (λm h=>by have:=h 1 (by simp);unfold deg;omega) hs ha hb
 .exact qQ (x:=0) (y:=1) (z:=3) (by omega) (by omega) (by omega) (λm h=>by have:=h 2 (by simp);unfold deg;omega) hs ha hb
 .exact qQ (x:=0) (y:=1) (z:=2) (by omega) (by omega) (by omega) (λm h=>by have:=h 3 (by simp);unfold deg;omega) hs ha hb
theorem uj(hx:x<4):bW m (wo x)↔bW m [0,1,2,3]/\m x=0:=by
 constructor
 .intro h;exact⟨λi hi=>h i λhc=>hi (O5.1 hc).1,h x λhc=>by have:=(O5.1 hc).2;simp at this⟩
 .rintro ⟨h1,h2⟩ i hi;by_cases e:i=x
  .rw[e];exact h2
  .exact h1 i λhc=>hi (O5.2 ⟨hc,by simpa using e⟩)
theorem jL(B:bo->Prop)(hs:∀m,B m->bW m [0,1,2,3])(t:Nat):∃k,HF B t k:=by
 obtain⟨l,l1,l2,l3⟩:=HF.all [0,1,2,3] (by decide) (by decide) t;exact⟨_,l.filter λm=>@decide (B m) (Classical.propDecidable _),l1.filter _,λm=>by
  rw[O5,l2];simp only[decide_eq_true_eq];exact⟨λh=>⟨h.2,h.1.2⟩,λh=>⟨⟨hs m h.1,h.2⟩,h.1⟩⟩,rfl⟩
theorem HF.le{C:bo->Prop}(h:HF B t a)(k:HF C t b)(e:∀m,B m->deg m=t->C m):a<=b:=by
 obtain⟨l,p1,p2,p3⟩:=h;obtain⟨m,q1,q2,q3⟩:=k;have:=qB (λ_=>1) l m p1 λx hx=>by have h:=(p2 x).1 hx;exact(q2 x).2 ⟨e x h.1 h.2,h.2⟩
 rw[iB (c:=1) λ_ _=>rfl,iB (c:=1) λ_ _=>rfl] at this;omega
theorem Fx{i:Nat}(h:i≠x)(m:bo):dn i (up x m)=up x (dn i m):=by
 funext j;simp only[dn,up];by_cases h1:j=i
 .subst h1;rw[OW rfl,OV h,OV h,OW rfl]
 .by_cases h2:j=x
  .subst h2;rw[OV h1,OW rfl,OW rfl,OV h1]
  .rw[OV h1,OV h2,OV h2,OV h1]
theorem zk{c s:Nat}(h:(s+c)*b<=(s+c+2)*a):c*b<=(c+2)*a:=by
 by_cases hab:b<=a
 .have h1:c*b<=c*a:=Nat.mul_le_mul_left c hab;have h2:c*a<=(c+2)*a:=Ph a (by omega);omega
 .obtain⟨e,rfl⟩:∃e,b=a+e:=⟨b-a,by omega⟩;have e1:(s+c)*(a+e)=s*a+s*e+c*a+c*e:=by grind
  have e2:(s+c+2)*a=s*a+c*a+2*a:=by grind
  have e3:c*(a+e)=c*a+c*e:=by grind
  have e4:(c+2)*a=c*a+2*a:=by grind
  omega
theorem zl:∀(k:Nat)(g:bo)(B:bo->Prop),deg g=k->bW g [0,1,2,3]->¬B g->jN B->(∀m,B m->bW m [0,1,2,3])->∀t a b,k<=t->HF B t a->HF (Br B [0,1,2,3]) (t+1) b->(t+2-k)*b<=(t+4-k)*a
 |0,g,B,hg,hsg,hng,hd,hs,t,a,b,hk,ha,hb=>by
  have hg1:g=one:=by
   funext i;by_cases hi:i=0\/i=1\/i=2\/i=3
   .unfold deg at hg;rcases hi with rfl|rfl|rfl|rfl<;>(show _=0)<;>omega
   .exact hsg i (by simp;omega)
  have hno:∀m,¬B m:=λm hm=>hng (hd g m (by rw[hg1];exact yG m) hm);have hb0:b=0:=by
   refine hb.uniq ⟨[],by simp,λm=>?_,rfl⟩;simp only[List.not_mem_nil,false_iff];rintro ⟨⟨_,h⟩,hm⟩;have:∃i,0<m i:=O3 λhc=>by have h0:∀i,m i=0:=λi=>O3 λhi=>hc ⟨i,by omega⟩;have:=h0 0;have:=h0 1;have:=h0 2;have:=h0 3;unfold deg at hm;omega
   obtain⟨i,hi⟩:=this;exact hno _ (h i hi)
  rw[hb0];simp
 |k+1,g,B,hg,hsg,hng,hd,hs,t,a,b,hk,ha,hb=>by
  have hex:∃x,x<4/\0<g x:=O3 λhc=>by have h0:∀i,i<4->g i=0:=λi h4=>O3 λhi=>hc ⟨i,h4,by omega⟩;have:=h0 0 (by omega);have:=h0 1 (by omega);have:=h0 2 (by omega);have:=h0 3 (by omega);unfold deg at hg;omega
  obtain⟨x,hx,hgx⟩:=hex;obtain⟨s,rfl⟩:∃s,t=s+1:=⟨t-1,by omega⟩;have hsl:∀m,(B m/\m x=0)->bW m (wo x):=λm h=>(uj hx).2 ⟨hs m h.1,h.2⟩;have hsu:∀m,B (up x m)->bW m [0,1,2,3]:=λm h=>jo (mX x m) (hs _ h);obtain⟨a0,ha0⟩:=jL (λm=>B m/\m x=0) (λm h=>hs m h.1) (s+1);obtain⟨a1,ha1⟩:=jL (λm=>B (up x m)) hsu s;obtain⟨b0,hb0⟩:=jL (Br (λm=>B m/\m x=0) (wo x)) (λm h=>((uj hx).1 h.1).1) (s+2);obtain⟨b1,hb1⟩:=jL (Br (λm=>B (up x m)) [0,1,2,3]) (λm h=>h.1) (s+1);have ea:a=a0+a1:=ha.uniq (HF.split hx ha0 ha1);obtain⟨c0,hc0⟩:=jL (λm=>Br B [0,1,2,3] m/\m x=0) (λm h=>h.1.1) (s+2);obtain⟨c1,hc1⟩:=jL (λm=>Br B [0,1,2,3] (up x m)) (λm h=>jo (mX x m) h.1) (s+1);have eb:b=c0+c1:=hb.uniq (HF.split hx hc0 hc1);have l0:c0<=b0:=hc0.le hb0 λm h _=>⟨(uj hx).2 ⟨h.1.1,h.2⟩,λi hi=>⟨h.1.2 i hi,by
   have h2:=h.2;have:=l8 i m x;omega⟩⟩
  have l1:c1<=b1:=hc1.le hb1 λm h _=>⟨jo (mX x m) h.1,λi hi=>by
   show B (up x (dn i m));by_cases e:i=x
   .subst e;rw[jn hi];have:=h.2 i (yF i m);rwa [tV] at this
   .have:=h.2 i (by have:=mX x m i;omega);rwa [Fx e] at this⟩
  have g0:=Fw hx hsl ha0 hb0;have g1:=zl k (dn x g) (λm=>B (up x m)) (by have:=qG hx hgx;omega) (jo (l8 x g) hsg) (by
   show¬B (up x (dn x g));rw[jn hgx];exact hng) (λu v huv hv=>hd _ _ (λi=>by simp only[up];have:=huv i;split<;>omega) hv) hsu s a1 b1 (by omega) ha1 hb1
  obtain⟨c,hc⟩:∃c,c=s+2-k:=⟨_,rfl⟩;rw[<-hc,show s+4-k=c+2 by omega] at g1;rw[show s+1+2-(k+1)=c by omega,show s+1+4-(k+1)=c+2 by omega,ea,eb];have g2:c*b0<=(c+2)*a0:=zk (s:=k) (by
   rw[show k+c=s+2 by omega];exact g0)
  have m0:c*c0<=c*b0:=Nat.mul_le_mul_left c l0;have m1:c*c1<=c*b1:=Nat.mul_le_mul_left c l1;rw[Nat.mul_add,Nat.mul_add];omega
end Go.Proofs.YtjkalahhpobefaaGreat.C4
namespace Go.Proofs.YtjkalahhpobefaaGreat.C4
open Go.Proofs.Tryz
set_option linter.unusedSimpArgs false
set_option linter.unusedVariables false
open Cn (Od jq iW bw Pr)
def Bq(L:Mt->Prop)(m:bo):Prop:=bW m [0,1,2,3]/\¬L (gI m)
def Gq(L:Mt->Prop)(m:bo):Prop:=bW m [0,1,2,3]/\L (gI m)/\∀x,0<m x->¬L (gI (dn x m))
def Ml(L:Mt->Prop)(g:Mt):Prop:=L g/\∀x,aC x=1->cj x g->¬L (dH x g)
theorem EZ{L:Mt->Prop}{y:Mt}:Gq L (gj y)↔Ml L y:=by
 constructor
 .rintro ⟨_,h2,h3⟩;rw[l5] at h2;refine⟨h2,λx hx hl=>?_⟩;obtain⟨a,b,c,e⟩:=x;obtain⟨l1,l2,l3,l4⟩:=hl;simp only[aC] at hx;simp only at l1 l2 l3 l4;rcases (show (a=1/\b=0/\c=0/\e=0)\/(a=0/\b=1/\c=0/\e=0)\/(a=0/\b=0/\c=1/\e=0)\/(a=0/\b=0/\c=0/\e=1) by omega) with ⟨rfl,rfl,rfl,rfl⟩|⟨rfl,rfl,rfl,rfl⟩|⟨rfl,rfl,rfl,rfl⟩|⟨rfl,rfl,rfl,rfl⟩
  .exact h3 0 l1
  .exact h3 1 l2
  .exact h3 2 l3
  .exact h3 3 l4
 .rintro ⟨h2,hm⟩;refine⟨jM y,h2,λi hi=>?_⟩;by_cases hi3:i=0\/i=1\/i=2\/i=3
  .rcases hi3 with rfl|rfl|rfl|rfl
   .exact hm (1,0,0,0) rfl ⟨hi,OB _,OB _,OB _⟩
   .exact hm (0,1,0,0) rfl ⟨OB _,hi,OB _,OB _⟩
   .exact hm (0,0,1,0) rfl ⟨OB _,OB _,hi,OB _⟩
   .exact hm (0,0,0,1) rfl ⟨OB _,OB _,OB _,hi⟩
  .exact absurd (jM y i (by simp;omega)) (by omega)
theorem zn{L:Mt->Prop}(hup:∀x {y},L y->L (bH x y)):jN (Bq L):=λa b hab hb=>⟨jo hab hb.1,λhl=>hb.2 (by
 have h:=hup (dH (gI a) (gI b)) hl;rw[lZ,oU ⟨hab 0,hab 1,hab 2,hab 3⟩] at h;exact h)⟩
variable{t:Nat}
theorem HF.or{B C:bo->Prop}{a b:Nat}(h:HF B t a)(k:HF C t b)(hd:∀m,B m->¬C m):HF (λm=>B m\/C m) t (a+b):=by have h1:bw (λm=>B m/\deg m=t) a:=h;have h2:bw (λm=>C m/\deg m=t) b:=k;exact(h1.or h2 λm p q=>hd m p.1 q.1).congr λm=>⟨λh=>h.elim (λh=>⟨Pf h.1,h.2⟩) λh=>⟨Pg h.1,h.2⟩,fun⟨h,e⟩=>h.elim (λh=>Pf ⟨h,e⟩) λh=>Pg ⟨h,e⟩⟩
theorem Fy{L:Mt->Prop}(hup:∀x {y},L y->L (bH x y)){g:Mt}(hg:L g){α γ:Nat->Nat}(hα:∀s,HF (Bq L) s (α s))(hγ:∀s,HF (Gq L) s (γ s))(s:Nat)(hs:aC g<=s):(s+2-aC g)*(α (s+1)+γ (s+1))<=(s+4-aC g)*α s:=by
 refine zl (aC g) (gj g) (Bq L) (zf g) (jM g) (λh=>h.2 (by rw[l5];exact hg)) (zn hup) (λm h=>h.1) s _ _ hs (hα s) (((hα (s+1)).or (hγ (s+1)) λm h1 h2=>h1.2 h2.2.1).congr λm=>?_);constructor
 .rintro (h|h)
  .exact⟨h.1,λi _=>zn hup _ _ (l8 i m) h⟩
  .exact⟨h.1,λi hi=>⟨jo (l8 i m) h.1,h.2.2 i hi⟩⟩
 .rintro ⟨h1,h2⟩;by_cases h:L (gI m)
  .exact Pg ⟨h1,h,λx hx=>(h2 x hx).2⟩
  .exact Pf ⟨h1,h⟩
def cS(d:Nat->Nat)(v:Nat->Nat->Nat)(t i:Nat):Nat:=if d i<=t then v i (t-d i) else 0
theorem qC{R:Nat}{d:Nat->Nat}{P:Tt->Prop}{v:Nat->Nat->Nat}(t:Nat)(h:∀i,i<R->d i<=t->bw (λy=>aC y=t-d i/\P (i,y)) (v i (t-d i))):∀r,r<=R->bw (λu:Tt=>u.1<r/\u∈Ts R d t/\P u) (((List.range r).map (cS d v t)).sum)
 |0,_=>bw.none λu h=>by omega
 |r+1,hr=>by
  have ih:=qC t h r (by omega);rw[List.range_succ,O0,List.sum_append,List.map_cons,List.map_nil,List.sum_cons,List.sum_nil,Nat.add_zero];have hk:bw (λu:Tt=>u.1=r/\u∈Ts R d t/\P u) (cS d v t r):=by
   unfold cS;by_cases ht:d r<=t
   .rw[OW ht];refine(uh (i:=r) (h r (by omega) ht)).congr λu=>?_;obtain⟨i,y⟩:=u;rw[de];constructor
    .rintro ⟨h0,h1,h2⟩;have h0:i=r:=h0;have h1:aC y=t-d r:=h1;subst h0;exact⟨rfl,⟨show i<R by omega,show d i+aC y=t by omega⟩,h2⟩
    .rintro ⟨h0,⟨_,h1⟩,h2⟩;have h0:i=r:=h0;have h1:d i+aC y=t:=h1;subst h0;exact⟨rfl,show aC y=t-d i by omega,h2⟩
   .rw[OV ht];refine bw.none λu ⟨h1,h2,_⟩=>?_;have:=(de.1 h2).2;rw[h1] at this;omega
  refine(ih.or hk λu h1 h2=>by omega).congr λu=>?_;constructor
  .rintro (⟨h1,h2⟩|⟨h1,h2⟩)
   .exact⟨by omega,h2⟩
   .exact⟨by omega,h2⟩
  .rintro ⟨h1,h2⟩;by_cases h:u.1<r
   .exact Pf ⟨h,h2⟩
   .exact Pg ⟨by omega,h2⟩
theorem tR{α:Type}(p:α->Bool)(f:α->Nat):∀l:List α,(l.map f).sum=((l.filter p).map f).sum+((l.filter λa=>!p a).map f).sum
 |[]=>rfl
 |a::l=>by have ih:=tR p f l;simp only[List.map_cons,List.sum_cons,List.filter_cons];cases h:p a<;>simp[ih]<;>omega
theorem yw{α:Type}(p:α->Bool):∀l:List α,l.length=(l.filter p).length+(l.filter λa=>!p a).length
 |[]=>rfl
 |a::l=>by have ih:=yw p l;simp only[OZ,List.filter_cons];cases h:p a<;>simp[ih]<;>omega
def Dd(c t:Nat):Nat:=(if 1<=c then nm 3 t else 0)+(if 2<=c then nm 3 (t-1) else 0)+(if 3<=c then nm 3 (t-2) else 0)
variable{c:Nat}
theorem Fz(hc:c<=3)(ht:3<=t):iC c t+Dd c t=nm 4 t:=by
 unfold iC Dd;rw[OW (by omega)];obtain⟨s,rfl⟩:∃s,t=s+3:=⟨t-3,by omega⟩;have e1:nm 4 (s+3)=nm 4 (s+2)+nm 3 (s+3):=iD 3 (s+2);have e2:nm 4 (s+2)=nm 4 (s+1)+nm 3 (s+2):=iD 3 (s+1);have e3:nm 4 (s+1)=nm 4 s+nm 3 (s+1):=iD 3 s;rw[show s+3-1=s+2 by omega,show s+3-2=s+1 by omega];rcases (show c=0\/c=1\/c=2\/c=3 by omega) with rfl|rfl|rfl|rfl
 .rw[OV (by omega),OV (by omega),OV (by omega)];show nm 4 (s+3)+_=_;omega
 .rw[OW (by omega),OV (by omega),OV (by omega)];show nm 4 (s+2)+_=_;omega
 .rw[OW (by omega),OW (by omega),OV (by omega)];show nm 4 (s+1)+_=_;omega
 .rw[OW (by omega),OW (by omega),OW (by omega)];show nm 4 s+_=_;omega
theorem uk(t:Nat):nm 3 (t+1)=nm 3 t+(t+2):=by rw[iD,qL]
variable{s:Nat}
theorem ma(h:s<=t):nm 3 s<=nm 3 t:=by
 obtain⟨e,rfl⟩:=Nat.le.dest h;clear h;induction e with
 |zero=>exact Ou _
 |succ e ih=>rw[show s+(e+1)=s+e+1 by omega,uk];omega
theorem FA(t:Nat):0<nm 3 t:=by have:=ma (OB t);rw[oW] at this;omega
theorem FB(c t:Nat):Dd c t<=3*nm 3 t:=by unfold Dd;have h1:=ma (show t-1<=t by omega);have h2:=ma (show t-2<=t by omega);split<;>split<;>split<;>omega
theorem FC(c t:Nat):Dd c t<=Dd c (t+1):=by unfold Dd;have h0:=ma (show t<=t+1 by omega);have h1:=ma (show t-1<=t+1-1 by omega);have h2:=ma (show t-2<=t+1-2 by omega);split<;>split<;>split<;>omega
theorem um{e:Nat}(ht:t=c+31)(he:e<=2)(hc:2<=c):(c+2)*nm 3 (t-e)<=c*nm 3 (t+1-e)+32*(c+33):=by obtain⟨s,hs⟩:∃s,s=t-e:=⟨_,rfl⟩;rw[show t+1-e=s+1 by omega,<-hs,uk,Nat.mul_add,Nat.add_mul];have h:=l9 s;have h1:(s+1)*(s+2)<=(c+32)*(s+2):=Ph _ (by omega);have h2:(c+32)*(s+2)=c*(s+2)+32*(s+2):=Nat.add_mul ..;omega
theorem FD(ht:t=c+31)(hc:2<=c)(k:Nat):(c+2)*Dd k t<=c*Dd k (t+1)+96*(c+33):=by
 have part:∀(q:Prop) [Decidable q] (a b:Nat),(c+2)*a<=c*b+32*(c+33)->(c+2)*(if q then a else 0)<=c*(if q then b else 0)+32*(c+33):=λq _ a b h=>by
  split
  .exact h
  .rw[Nat.mul_zero];exact OB _
 have h0:=part (1<=k) _ _ (um ht (e:=0) (by omega) hc);have h1:=part (2<=k) _ _ (um ht (e:=1) (by omega) hc);have h2:=part (3<=k) _ _ (um ht (e:=2) (by omega) hc);rw[Nat.sub_zero,Nat.sub_zero] at h0;unfold Dd;rw[Nat.mul_add,Nat.mul_add,Nat.mul_add,Nat.mul_add];generalize (c+2)*(if 1<=k then nm 3 t else 0)=x0 at*;generalize (c+2)*(if 2<=k then nm 3 (t-1) else 0)=x1 at*;generalize (c+2)*(if 3<=k then nm 3 (t-2) else 0)=x2 at*;generalize c*(if 1<=k then nm 3 (t+1) else 0)=y0 at*;generalize c*(if 2<=k then nm 3 (t+1-1) else 0)=y1 at*;generalize c*(if 3<=k then nm 3 (t+1-2) else 0)=y2 at*;clear part ht hc;omega
theorem m7{α:Type}{f g:α->Nat}:∀{l:List α},(∀a∈l,f a<=g a)->(l.map f).sum<=(l.map g).sum
 |[],_=>Ou _
 |a::l,h=>by have:=m7 (l:=l) λb hb=>h b (by simp[hb]);have:=h a (by simp);simp only[List.map_cons,List.sum_cons];omega
theorem oY{α:Type}(c:Nat)(f:α->Nat):∀l:List α,(l.map λa=>c*f a).sum=c*(l.map f).sum
 |[]=>by simp
 |a::l=>by simp only[List.map_cons,List.sum_cons,oY c f l,Nat.mul_add]
theorem zo{α:Type}{P:α->Nat->Prop}(hm:∀a k k',k<=k'->P a k->P a k'):∀{l:List α},(∀a∈l,∃k,P a k)->∃K,∀a∈l,P a K
 |[],_=>⟨0,by simp⟩
 |a::l,h=>by
  obtain⟨k,hk⟩:=h a (by simp);obtain⟨K,hK⟩:=zo hm (l:=l) λb hb=>h b (by simp[hb]);refine⟨k+K,λb hb=>?_⟩;rcases OY.1 hb with rfl|hb
  .exact hm _ _ _ (by omega) hk
  .exact hm _ _ _ (by omega) (hK b hb)
structure gJ(d:Nat->Nat)(L:Nat->Mt->Prop)(w:Nat)(F N:List Nat)(α γ:Nat->Nat->Nat):Prop where
 up:∀i x {y},L i y->L i (bH x y)
 dF:∀i∈F,d i<=3
 dN:∀i∈N,d i<=3
 full:∀i∈F,∀y,¬L i y
 some:∀i∈N,∃y,L i y
 ha:∀i s,HF (Bq (L i)) s (α i s)
 hg:∀i s,HF (Gq (L i)) s (γ i s)
 sum:∀t,(F.map (cS d α t)).sum+(N.map (cS d α t)).sum=w*nm 4 t
variable{α γ:Nat->Nat->Nat}{F N:List Nat}{w:Nat}{L:Nat->Mt->Prop}{d:Nat->Nat}
theorem gJ.ofF(h:gJ d L w F N α γ)(ht:3<=t):(F.map (cS d α t)).sum+(F.map λi=>Dd (d i) t).sum=F.length*nm 4 t:=by rw[<-kT];rw[iB (c:=nm 4 t) λi hi=>?_,Nat.mul_comm];have hd:=h.dF i hi;rw[<-Fz hd ht];congr 1;unfold cS iC;rw[OW (by omega),OW (by omega)];refine(h.ha i (t-d i)).uniq ((HF.all [0,1,2,3] (by decide) (by decide) (t-d i)).congr λm=>?_);exact⟨λhm=>⟨hm,h.full i hi _⟩,λhm=>hm.1⟩
theorem gJ.growJ(h:gJ d L w F N α γ){K:Nat}(hK:∀i∈N,∃y,L i y/\aC y+d i<=K)(ht:K<=t):(t+2-K)*((N.map (cS d α (t+1))).sum+(N.map (cS d γ (t+1))).sum)<=(t+4-K)*(N.map (cS d α t)).sum:=by rw[<-kT,<-oY,<-oY];refine m7 λi hi=>?_;obtain⟨g,hg,hk⟩:=hK i hi;unfold cS;rw[OW (by omega),OW (by omega),OW (by omega)];have hgr:=Fy (λx {y}=>h.up i x) hg (h.ha i) (h.hg i) (t-d i) (by omega);rw[show t+1-d i=t-d i+1 by omega];rw[show t+4-K=t+2-K+2 by omega];refine zk (s:=K-d i-aC g) ?_;rw[show K-d i-aC g+(t+2-K)=t-d i+2-aC g by omega];rw[show t-d i+2-aC g+2=t-d i+4-aC g by omega];exact hgr
theorem gJ.eq(h:gJ d L w F N α γ)(ht:3<=t):(N.map (cS d α t)).sum+F.length*nm 4 t=w*nm 4 t+(F.map λi=>Dd (d i) t).sum:=by have h1:=h.sum t;have h2:=h.ofF ht;omega
theorem uq(d:Nat->Nat)(t:Nat)(l:List Nat):(l.map λi=>Dd (d i) t).sum<=l.length*(3*nm 3 t):=by have:=m7 (l:=l) (f:=λi=>Dd (d i) t) (g:=λ_=>3*nm 3 t) λi _=>FB _ _;rw[iB (f:=λ_=>3*nm 3 t) (c:=3*nm 3 t) λ_ _=>rfl,Nat.mul_comm] at this;exact this
theorem gJ.len(h:gJ d L w F N α γ)(hw:w<=3):F.length=w:=by
 have le:F.length<=w:=by
  have h1:=h.eq (t:=100) (by omega);have h2:=uq d 100 F;have e3:nm 3 100=5151:=by have:=l9 100;omega
  have e4:nm 4 100=176851:=by have:=ko 100;omega
  rw[e4] at h1;rw[e3] at h2;omega
 refine Nat.le_antisymm le (Nat.le_of_not_lt λhlt=>?_);obtain⟨K,hK⟩:=zo (P:=λi k=>∃y,L i y/\aC y+d i<=k) (λa k k' hk ⟨y,h1,h2⟩=>⟨y,h1,by omega⟩) (l:=N) λi hi=>by obtain⟨y,hy⟩:=h.some i hi;exact⟨_,y,hy,Ou _⟩
 obtain⟨t,ht⟩:∃t,t=3*K+100:=⟨_,rfl⟩;have hg:=h.growJ hK (t:=t) (by omega);have h0:=h.eq (t:=t) (by omega);have h1:=h.eq (t:=t+1) (by omega);have hs:=uq d t F;have hm:(F.map λi=>Dd (d i) t).sum<=(F.map λi=>Dd (d i) (t+1)).sum:=m7 λi _=>FC _ _;rw[show t+2-K=2*K+102 by omega,show t+4-K=2*K+104 by omega] at hg;generalize (N.map (cS d α t)).sum=A0 at*;generalize (N.map (cS d α (t+1))).sum=A1 at*;generalize (N.map (cS d γ (t+1))).sum=G1 at*;generalize (F.map λi=>Dd (d i) t).sum=S0 at*;generalize (F.map λi=>Dd (d i) (t+1)).sum=S1 at*;generalize F.length=f at*;obtain⟨e,rfl⟩:∃e,w=f+e:=⟨w-f,by omega⟩;have he:1<=e:=by omega
 have n4:nm 4 (t+1)=nm 4 t+nm 3 (t+1):=iD 3 t;have n3:=uk t;have np:=FA t;have q:3*nm 4 t=(t+3)*nm 3 t:=by
  have h4:=ko t;have h3:=l9 t;have:6*nm 4 t=(t+3)*(2*nm 3 t):=by rw[h4,h3];grind
  have e2:(t+3)*(2*nm 3 t)=2*((t+3)*nm 3 t):=by grind
  omega
 rw[Nat.add_mul] at h0 h1;rw[n4,Nat.mul_add,Nat.mul_add] at h1;have a0:A0=e*nm 4 t+S0:=by omega
 have a1:e*nm 4 t+e*nm 3 (t+1)+S1=A1:=by omega
 have hf:f<=2:=by omega
 have hfs:f*(3*nm 3 t)<=2*(3*nm 3 t):=Ph _ hf;have b1:(2*K+102)*(A0+e*nm 3 t)<=(2*K+102)*(A1+G1):=Nat.mul_le_mul_left _ (by
  have:e*nm 3 t<=e*nm 3 (t+1):=Nat.mul_le_mul_left e (by omega);omega)
 have b2:(2*K+102)*(A0+e*nm 3 t)=(2*K+102)*A0+(2*K+102)*(e*nm 3 t):=Nat.mul_add ..;have b3:(2*K+104)*A0=(2*K+102)*A0+2*A0:=by rw[<-Nat.add_mul]
 have b4:(2*K+102)*(e*nm 3 t)<=2*A0:=by omega
 have b5:3*(e*nm 4 t)=(t+3)*(e*nm 3 t):=by
  have:3*(e*nm 4 t)=e*(3*nm 4 t):=by grind
  rw[this,q];grind
 generalize hx:e*nm 3 t=x at b4 b5;have hxp:nm 3 t<=x:=by rw[<-hx];have:=Ph (nm 3 t) he;omega
 have b6:(t+3)*x=3*(K*x)+103*x:=by rw[ht];grind
 have b7:(2*K+102)*x=2*(K*x)+102*x:=by grind
 omega
theorem gJ.low(h:gJ d L w F N α γ)(hw:w<=3):∀i∈N,∃y,L i y/\aC y+d i<=33:=λi hi=>O3 λhc=>by
 have hd:=h.dN i hi;have hno:∀y,aC y=30->¬L i y:=λy hy hl=>hc ⟨y,hl,by omega⟩;have e1:α i 30=nm 4 30:=(h.ha i 30).uniq (by
  have:=HF.all [0,1,2,3] (by decide) (by decide) 30;obtain⟨l,l1,l2,l3⟩:=this;exact⟨l,l1,λm=>by
   rw[l2];exact⟨λhm=>⟨⟨hm.1,hno _ (by rw[<-hm.2,<-zf,qP hm.1])⟩,hm.2⟩,λhm=>⟨hm.1.1,hm.2⟩⟩,l3⟩)
 have h1:=h.eq (t:=30+d i) (by omega);rw[h.len hw] at h1;have h2:=uq d (30+d i) F;rw[h.len hw] at h2;have h3:cS d α (30+d i) i<=(N.map (cS d α (30+d i))).sum:=by obtain⟨l1,l2,e⟩:=List.append_of_mem hi;rw[e];simp only[O0,List.sum_append,List.map_cons,List.sum_cons];omega
 have h4:cS d α (30+d i) i=nm 4 30:=by unfold cS;rw[OW (by omega),show 30+d i-d i=30 by omega,e1]
 have h5:=ma (show 30+d i<=33 by omega);have e3:nm 3 33=595:=by have:=l9 33;omega
 have e4:nm 4 30=5456:=by have:=ko 30;omega
 have h6:w*(3*nm 3 (30+d i))<=3*(3*nm 3 (30+d i)):=Ph _ hw;omega
theorem gJ.of(h:gJ d L w F N α γ)(hw:w<=3)(hc:2<=c):c*(N.map (cS d γ (c+32))).sum<=288*(c+33):=by
 have hg:=h.growJ (h.low hw) (t:=c+31) (by omega);rw[show c+31+2-33=c by omega,show c+31+4-33=c+2 by omega,show c+31+1=c+32 by omega] at hg;have h0:=h.eq (t:=c+31) (by omega);have h1:=h.eq (t:=c+32) (by omega);rw[h.len hw] at h0 h1;have e0:(N.map (cS d α (c+31))).sum=(F.map λi=>Dd (d i) (c+31)).sum:=by omega
 have e1:(N.map (cS d α (c+32))).sum=(F.map λi=>Dd (d i) (c+32)).sum:=by omega
 rw[e0,e1] at hg;have hd:((c+2)*(F.map λi=>Dd (d i) (c+31)).sum)<=c*(F.map λi=>Dd (d i) (c+32)).sum+F.length*(96*(c+33)):=by rw[<-oY,<-oY];have:=m7 (l:=F) (f:=λi=>(c+2)*Dd (d i) (c+31)) (g:=λi=>c*Dd (d i) (c+32)+96*(c+33)) λi _=>FD rfl hc (d i);rw[kT,iB (f:=λ_=>96*(c+33)) (c:=96*(c+33)) λ_ _=>rfl,Nat.mul_comm (96*(c+33))] at this;exact this
 rw[h.len hw] at hd;rw[Nat.mul_add] at hg;have:w*(96*(c+33))<=3*(96*(c+33)):=Ph _ hw;omega
theorem qR{f:Nat->Nat}{b:Nat}{s:Nat}:∀n,(∀t,s<t->t<=s+n->f t<=b)->eu f (s+n)<=eu f s+n*b
 |0,_=>by simp
 |n+1,h=>by have ih:=qR n λt h1 h2=>h t h1 (by omega);have:=h (s+(n+1)) (by omega) (by omega);rw[show s+(n+1)=s+n+1 by omega] at this⊢;show eu f (s+n)+f (s+n+1)<=_;rw[Nat.succ_mul];omega
theorem zp{f g:Nat->Nat}(h:∀t,f t<=g t):∀n,eu f n<=eu g n
 |0=>h 0
 |n+1=>Nat.add_le_add (zp h n) (h (n+1))
theorem zq(c:Nat)(f:Nat->Nat):∀n,eu (λt=>c*f t) n=c*eu f n
 |0=>rfl
 |n+1=>by show eu _ n+c*f (n+1)=c*(eu f n+f (n+1));rw[zq c f n,Nat.mul_add]
theorem FE(h:s<=t):nm 4 s<=nm 4 t:=by
 obtain⟨e,rfl⟩:=Nat.le.dest h;clear h;induction e with
 |zero=>exact Ou _
 |succ e ih=>rw[show s+(e+1)=s+e+1 by omega,show nm 4 (s+e+1)=nm 4 (s+e)+nm 3 (s+e+1) from iD 3 (s+e)];omega
theorem gJ.all(h:gJ d L w F N α γ)(hw:w<=3)(hN:N.length<=4):eu (λt=>(N.map (cS d γ t)).sum) 4801<=2000001:=by
 have low:∀t,(N.map (cS d γ t)).sum<=4*nm 4 t:=λt=>by
  have h1:=m7 (l:=N) (f:=cS d γ t) (g:=λ_=>nm 4 t) λi _=>by
   unfold cS;split
   .have:γ i (t-d i)<=nm 4 (t-d i):=(h.hg i (t-d i)).le (HF.all [0,1,2,3] (by decide) (by decide) (t-d i)) λm hm _=>hm.1;have:=FE (show t-d i<=t by omega);omega
   .exact OB _
  rw[iB (f:=λ_=>nm 4 t) (c:=nm 4 t) λ_ _=>rfl] at h1;have:=Nat.mul_le_mul_left (nm 4 t) hN;omega
 have s0:eu (λt=>(N.map (cS d γ t)).sum) 33<=264180:=by
  have h1:=zp low 33;have h2:=zq 4 (nm 4) 33;have h3:eu (nm 4) 33=66045:=by
   have:∀s,24*eu (nm 4) s=(s+1)*(s+2)*(s+3)*(s+4):=λs=>by
    induction s with
    |zero=>rfl
    |succ s ih=>show 24*(eu (nm 4) s+nm 4 (s+1))=_;rw[Nat.mul_add,ih,show 24*nm 4 (s+1)=4*(6*nm 4 (s+1)) by omega,ko];grind
   have:=this 33;omega
  rw[h3] at h2;omega
 have up:∀t c0 b,2<=c0->288*33<=(b+1)*c0-1->c0+32<=t->(N.map (cS d γ t)).sum<=288+b:=λt c0 b h2 hb ht=>by
  obtain⟨c,rfl⟩:∃c,t=c+32:=⟨t-32,by omega⟩;have ho:=h.of hw (c:=c) (by omega);apply Nat.le_of_not_lt;intro hlt;have h1:c*(289+b)<=c*(N.map (cS d γ (c+32))).sum:=Nat.mul_le_mul_left c (by omega);have h3:c*(289+b)=288*c+(b+1)*c:=by grind
  have h4:(b+1)*c0<=(b+1)*c:=Nat.mul_le_mul_left _ (by omega);omega
 have s1:eu (λt=>(N.map (cS d γ t)).sum) 63<=eu (λt=>(N.map (cS d γ t)).sum) 33+30*(288+4752):=qR (f:=λt=>(N.map (cS d γ t)).sum) (b:=288+4752) (s:=33) 30 λt h1 _=>up t 2 4752 (by omega) (by omega) (by omega);have s2:eu (λt=>(N.map (cS d γ t)).sum) 363<=eu (λt=>(N.map (cS d γ t)).sum) 63+300*(288+297):=qR (f:=λt=>(N.map (cS d γ t)).sum) (b:=288+297) (s:=63) 300 λt h1 _=>up t 32 297 (by omega) (by omega) (by omega);have s3:eu (λt=>(N.map (cS d γ t)).sum) 4801<=eu (λt=>(N.map (cS d γ t)).sum) 363+4438*(288+28):=qR (f:=λt=>(N.map (cS d γ t)).sum) (b:=288+28) (s:=363) 4438 λt h1 _=>up t 332 28 (by omega) (by omega) (by omega);omega
end Go.Proofs.YtjkalahhpobefaaGreat.C4
