/- Plain mathematics of polynomials: terms put where they belong; what is told by a polynomial tells it. -/
import Derived.Test.YteimdcndjjclnaaGreatH
namespace Go.Proofs.YteimdcndjjclnaaGreat
open Go.Proofs.Tryz
set_option linter.all false
abbrev Tm:=Int×List Int
def bK(p o:Int):List Tm->Tm->List Tm
 |[],t=>[t]
 |u::out,t=>if 0<aX o u.2 t.2 then u::bK p o out t else if u.2=t.2 then ((u.1+t.1)%p,u.2)::out else t::u::out
def cM(p o:Int)(l:List Tm):List Tm:=(l.foldl (bK p o) []).filter λt=>t.1%p !=0
def aq(φ:List Int->Int):List Tm->Int
 |[]=>0
 |t::ts=>t.1*φ t.2+aq φ ts
theorem pP(φ:List Int->Int):∀ts us:List Tm,aq φ (ts++us)=aq φ ts+aq φ us
 |[],us=>by simp[aq]
 |t::ts,us=>by simp only[List.cons_append,aq];rw[pP φ ts us];omega
theorem jX(p x:Int):p∣x%p-x:=⟨-(x/p),by rw[Int.emod_def];grind⟩
theorem BO(p o:Int)(φ:List Int->Int)(t:Tm):∀out:List Tm,p∣aq φ (bK p o out t)-(aq φ out+t.1*φ t.2)
 |[]=>by simp[bK,aq]
 |u::out=>by
  simp only[bK];split
  .simp only[aq];have:=BO p o φ t out;have e:u.1*φ u.2+aq φ (bK p o out t)-(u.1*φ u.2+aq φ out+t.1*φ t.2)=aq φ (bK p o out t)-(aq φ out+t.1*φ t.2):=by omega
   rw[e];exact this
  .split
   .rename_i _ h;simp only[aq];obtain⟨k,hk⟩:=jX p (u.1+t.1);rw[<-h];exact⟨k*φ u.2,by grind⟩
   .simp only[aq];exact⟨0,by omega⟩
theorem BP(p o:Int)(φ:List Int->Int):∀(l out:List Tm),p∣aq φ (l.foldl (bK p o) out)-(aq φ out+aq φ l)
 |[],out=>by simp[aq]
 |t::l,out=>by
  simp only[List.foldl_cons,aq];have h1:=BP p o φ l (bK p o out t);have h2:=BO p o φ t out;have h3:=Int.dvd_add h1 h2;have e:aq φ (l.foldl (bK p o) (bK p o out t))-(aq φ (bK p o out t)+aq φ l)+(aq φ (bK p o out t)-(aq φ out+t.1*φ t.2))=aq φ (l.foldl (bK p o) (bK p o out t))-(aq φ out+(t.1*φ t.2+aq φ l)):=by omega
  rw[e] at h3;exact h3
theorem BQ(p:Int)(φ:List Int->Int):∀ts:List Tm,p∣aq φ (ts.filter λt=>t.1%p !=0)-aq φ ts
 |[]=>by simp[aq]
 |t::ts=>by
  have h:=BQ p φ ts;by_cases ht:t.1%p=0
  .have e:(t::ts).filter (λt=>t.1%p !=0)=ts.filter λt=>t.1%p !=0:=by simp[List.filter_cons,ht]
   rw[e];simp only[aq];obtain⟨k,hk⟩:=h;obtain⟨m,hm⟩:=Int.dvd_of_emod_eq_zero ht;exact⟨k-m*φ t.2,by grind⟩
  .have e:(t::ts).filter (λt=>t.1%p !=0)=t::ts.filter λt=>t.1%p !=0:=by simp[List.filter_cons,ht]
   rw[e];simp only[aq];have e2:t.1*φ t.2+aq φ (ts.filter λt=>t.1%p !=0)-(t.1*φ t.2+aq φ ts)=aq φ (ts.filter λt=>t.1%p !=0)-aq φ ts:=by omega
   rw[e2];exact h
theorem vF(p o:Int)(φ:List Int->Int)(l:List Tm):p∣aq φ (cM p o l)-aq φ l:=by
 unfold cM;have h1:=BQ p φ (l.foldl (bK p o) []);have h2:=BP p o φ l [];have h3:=Int.dvd_add h1 h2;simp only[aq,Int.zero_add] at h3;have e:∀a b c:Int,a-b+(b-c)=a-c:=λa b c=>by omega
 rw[e] at h3;exact h3
def iu(o:Int):List Tm->Prop
 |[]=>True
 |t::ts=>(∀u∈ts,0<aX o t.2 u.2)/\iu o ts
def ep(n:Nat)(ts:List Tm):Prop:=∀t∈ts,t.2.length=n
theorem pQ{p o:Int}{t:Tm}:∀{out:List Tm}{x:Tm},x∈bK p o out t->x.2=t.2\/∃u∈out,x.2=u.2
 |[],x,h=>by simp[bK] at h;exact Np (by rw[h])
 |u::out,x,h=>by
  simp only[bK] at h;split at h
  .simp only[Nb] at h;rcases h with rfl|h
   .exact Nq ⟨x,by simp,rfl⟩
   .rcases pQ h with h|⟨y,hy,h⟩
    .exact Np h
    .exact Nq ⟨y,by simp[hy],h⟩
  .split at h
   .simp only[Nb] at h;rcases h with rfl|h
    .exact Nq ⟨u,by simp,rfl⟩
    .exact Nq ⟨x,by simp[h],rfl⟩
   .simp only[Nb] at h;rcases h with rfl|rfl|h
    .exact Np rfl
    .exact Nq ⟨x,by simp,rfl⟩
    .exact Nq ⟨x,by simp[h],rfl⟩
theorem J9{p o:Int}{n:Nat}{t:Tm}{out:List Tm}(h:ep n out)(ht:t.2.length=n):ep n (bK p o out t):=by
 intro x hx;rcases pQ hx with h1|⟨u,hu,h1⟩
 .rw[h1];exact ht
 .rw[h1];exact h u hu
theorem BR{p o:Int}{n:Nat}{t:Tm}(ht:t.2.length=n):∀{out:List Tm},ep n out->iu o out->iu o (bK p o out t)
 |[],_,_=>⟨by simp,trivial⟩
 |u::out,hl,⟨h1,h2⟩=>by
  have hu:u.2.length=n:=hl u (by simp);have hlo:ep n out:=λx hx=>hl x (by simp[hx]);simp only[bK];by_cases hm:0<aX o u.2 t.2
  .rw[M9 hm];refine⟨λx hx=>?_,BR ht hlo h2⟩;rcases pQ hx with h|⟨y,hy,h⟩
   .rw[h];exact hm
   .rw[h];exact h1 y hy
  .rw[M8 hm];by_cases he:u.2=t.2
   .rw[M9 he];exact⟨h1,h2⟩
   .rw[M8 he];have hz:=lI o u.2 t.2 (by omega);have hneg:=uI o u.2 t.2;have htu:0<aX o t.2 u.2:=by have:aX o u.2 t.2≠0:=λe=>he (hz.1 e);omega
    refine⟨λx hx=>?_,h1,h2⟩;simp only[Nb] at hx;rcases hx with rfl|hx
    .exact htu
    .exact nN o t.2 u.2 x.2 (by omega) (by rw[hlo x hx];exact hu) htu (h1 x hx)
theorem BS{p o:Int}{n:Nat}:∀(l out:List Tm),ep n l->ep n out->iu o out->ep n (l.foldl (bK p o) out)/\iu o (l.foldl (bK p o) out)
 |[],out,_,ho,hf=>⟨ho,hf⟩
 |t::l,out,hl,ho,hf=>BS l (bK p o out t) (λx hx=>hl x (by simp[hx])) (J9 ho (hl t (by simp))) (BR (hl t (by simp)) ho hf)
theorem vV{o:Int}(f:Tm->Bool):∀{ts:List Tm},iu o ts->iu o (ts.filter f)
 |[],_=>trivial
 |t::ts,⟨h1,h2⟩=>by
  simp only[List.filter_cons];split
  .exact⟨λu hu=>h1 u (Nh.1 hu).1,vV f h2⟩
  .exact vV f h2
theorem vW{p o:Int}(hp:2<=p){t:Tm}(ht:0<=t.1/\t.1<p):∀{out:List Tm},(∀u∈out,0<=u.1/\u.1<p)->∀x∈bK p o out t,0<=x.1/\x.1<p
 |[],_,x,hx=>by simp[bK] at hx;rw[hx];exact ht
 |u::out,h,x,hx=>by
  simp only[bK] at hx;split at hx
  .simp only[Nb] at hx;rcases hx with rfl|hx
   .exact h x (by simp)
   .exact vW hp ht (λy hy=>h y (by simp[hy])) x hx
  .split at hx
   .simp only[Nb] at hx;rcases hx with rfl|hx
    .exact⟨Int.emod_nonneg _ (by omega),Int.emod_lt_of_pos _ (by omega)⟩
    .exact h x (by simp[hx])
   .simp only[Nb] at hx;rcases hx with rfl|rfl|hx
    .exact ht
    .exact h x (by simp)
    .exact h x (by simp[hx])
theorem BT{p o:Int}(hp:2<=p):∀(l out:List Tm),(∀u∈l,0<=u.1/\u.1<p)->(∀u∈out,0<=u.1/\u.1<p)->∀x∈l.foldl (bK p o) out,0<=x.1/\x.1<p
 |[],out,_,ho=>ho
 |t::l,out,hl,ho=>BT hp l (bK p o out t) (λx hx=>hl x (by simp[hx])) (vW hp (hl t (by simp)) ho)
structure eB(p o:Int)(n:Nat)(ts:List Tm):Prop where
 len:ep n ts
 falls:iu o ts
 coef:∀t∈ts,1<=t.1/\t.1<p
theorem vz{p o:Int}{n:Nat}(hp:2<=p){l:List Tm}(hl:ep n l)(hc:∀t∈l,0<=t.1/\t.1<p):eB p o n (cM p o l):=by
 have h:=BS (p:=p) (o:=o) (n:=n) l [] hl (λx hx=>by simp at hx) trivial;have hr:=BT (o:=o) hp l [] hc (λx hx=>by simp at hx);refine⟨λt ht=>h.1 t (Nh.1 ht).1,vV _ h.2,λt ht=>?_⟩;unfold cM at ht;rw[Nh] at ht;have h1:=hr t ht.1;have h2:t.1%p≠0:=by simpa using ht.2
 have h3:t.1≠0:=λe=>h2 (by rw[e];simp);omega
def gC(e:List Int):List Int->Int:=λx=>if x=e then 1 else 0
theorem r8{e:List Int}:∀{ts:List Tm},(∀t∈ts,t.2≠e)->aq (gC e) ts=0
 |[],_=>rfl
 |t::ts,h=>by simp only[aq];rw[r8 (λu hu=>h u (by simp[hu]))];unfold gC;rw[M8 (h t (by simp))];simp
theorem zK{o:Int}{n:Nat}{t:Tm}{ts:List Tm}(hl:ep n (t::ts))(hf:iu o (t::ts)):∀u∈ts,u.2≠t.2:=by intro u hu e;have h1:=hf.1 u hu;have:=(lI o t.2 u.2 (by rw[hl t (by simp),hl u (by simp[hu])])).2 e.symm;omega
theorem og{o:Int}{n:Nat}{t:Tm}{ts:List Tm}(hl:ep n (t::ts))(hf:iu o (t::ts)):aq (gC t.2) (t::ts)=t.1:=by show t.1*gC t.2 t.2+aq (gC t.2) ts=t.1;rw[r8 (zK hl hf)];unfold gC;rw[M9 rfl];omega
theorem BU{p a:Int}(h:p∣0-a):p∣a:=by obtain⟨k,hk⟩:=h;exact⟨-k,by rw[Int.mul_neg,<-hk];omega⟩
theorem BV{p a:Int}(h:p∣a-0):p∣a:=by rwa [Int.sub_zero] at h
theorem vX{p o:Int}{n:Nat}(hp:2<=p):∀(ts us:List Tm),eB p o n ts->eB p o n us->(∀e,p∣aq (gC e) ts-aq (gC e) us)->ts=us
 |[],[],_,_,_=>rfl
 |[],u::us,_,hu,h=>by have h1:=h u.2;rw[og hu.len hu.falls] at h1;have h2:=hu.coef u (by simp);have:=Int.le_of_dvd (by omega) (BU h1);omega
 |t::ts,[],ht,_,h=>by have h1:=h t.2;rw[og ht.len ht.falls] at h1;have h2:=ht.coef t (by simp);have:=Int.le_of_dvd (by omega) (BV h1);omega
 |t::ts,u::us,ht,hu,h=>by
  have tc:=ht.coef t (by simp);have uc:=hu.coef u (by simp);have tl:=ht.len t (by simp);have ul:=hu.len u (by simp);have hts:eB p o n ts:=⟨λx hx=>ht.len x (by simp[hx]),ht.falls.2,λx hx=>ht.coef x (by simp[hx])⟩;have hus:eB p o n us:=⟨λx hx=>hu.len x (by simp[hx]),hu.falls.2,λx hx=>hu.coef x (by simp[hx])⟩;have hsame:t.2=u.2:=by
   apply Nf;intro hne;have hz:=lI o t.2 u.2 (by omega);have hg:=uI o t.2 u.2;have hnz:aX o t.2 u.2≠0:=λe=>hne (hz.1 e);by_cases hlt:0<aX o t.2 u.2
   .have h1:=h t.2;have hn:∀x∈u::us,x.2≠t.2:=by
     intro x hx e;simp only[Nb] at hx;rcases hx with rfl|hx
     .exact hne e.symm
     .have h2:=hu.falls.1 x hx;have h3:=nN o t.2 u.2 x.2 (by omega) (by rw[ul,hu.len x (by simp[hx])]) hlt h2;have h4:=(lI o t.2 x.2 (by rw[tl,hu.len x (by simp[hx])])).2 e.symm;omega
    rw[r8 hn,og ht.len ht.falls] at h1;have:=Int.le_of_dvd (by omega) (BV h1);omega
   .have hlt2:0<aX o u.2 t.2:=by omega
    have h1:=h u.2;have hn:∀x∈t::ts,x.2≠u.2:=by
     intro x hx e;simp only[Nb] at hx;rcases hx with rfl|hx
     .exact hne e
     .have h2:=ht.falls.1 x hx;have h3:=nN o u.2 t.2 x.2 (by omega) (by rw[tl,ht.len x (by simp[hx])]) hlt2 h2;have h4:=(lI o u.2 x.2 (by rw[ul,ht.len x (by simp[hx])])).2 e.symm;omega
    rw[r8 hn,og hu.len hu.falls] at h1;have:=Int.le_of_dvd (by omega) (BU h1);omega
  have hcoef:t.1=u.1:=by
   have h2:=h t.2;rw[og ht.len ht.falls,hsame,og hu.len hu.falls] at h2;by_cases hd:t.1-u.1=0
   .omega
   .by_cases hd2:0<t.1-u.1
    .have:=Int.le_of_dvd hd2 h2;omega
    .have h3:p∣u.1-t.1:=by obtain⟨k,hk⟩:=h2;exact⟨-k,by rw[Int.mul_neg,<-hk];omega⟩
     have:=Int.le_of_dvd (by omega) h3;omega
  have htu:t=u:=Prod.ext hcoef hsame;subst htu;congr 1;refine vX hp ts us hts hus (λe=>?_);have h1:=h e;simp only[aq] at h1;have e2:t.1*gC e t.2+aq (gC e) ts-(t.1*gC e t.2+aq (gC e) us)=aq (gC e) ts-aq (gC e) us:=by omega
  rwa [e2] at h1
theorem Ka{p o:Int}{n:Nat}(hp:2<=p){l ts:List Tm}(hl:ep n l)(hc:∀t∈l,0<=t.1/\t.1<p)(ht:eB p o n ts)(h:∀φ,p∣aq φ ts-aq φ l):ts=cM p o l:=by refine vX hp ts (cM p o l) ht (vz hp hl hc) (λe=>?_);obtain⟨a,ha⟩:=h (gC e);obtain⟨b,hb⟩:=vF p o (gC e) l;exact⟨a-b,by rw[Int.mul_sub,<-ha,<-hb];omega⟩
def eK(p:Int)(t:Tm)(g:List Tm):List Tm:=g.map λu=>(t.1*u.1%p,aY (·+·) t.2 u.2)
def bk(p:Int)(f g:List Tm):List Tm:=f.flatMap λt=>eK p t g
theorem vG(p:Int)(φ:List Int->Int)(t:Tm):∀g:List Tm,p∣aq φ (eK p t g)-t.1*aq (λb=>φ (aY (·+·) t.2 b)) g
 |[]=>by simp[eK,aq]
 |u::g=>by
  have h:=vG p φ t g;have e:eK p t (u::g)=(t.1*u.1%p,aY (·+·) t.2 u.2)::eK p t g:=rfl
  rw[e];simp only[aq];obtain⟨k,hk⟩:=h;obtain⟨m,hm⟩:=jX p (t.1*u.1);exact⟨k+m*φ (aY (·+·) t.2 u.2),by grind⟩
theorem pR(p:Int)(φ:List Int->Int)(g:List Tm):∀f:List Tm,p∣aq φ (bk p f g)-aq (λa=>aq (λb=>φ (aY (·+·) a b)) g) f
 |[]=>by simp[bk,aq]
 |t::f=>by
  have h:=pR p φ g f;have e:bk p (t::f) g=eK p t g++bk p f g:=rfl;rw[e,pP];simp only[aq];have h2:=vG p φ t g;have h3:=Int.dvd_add h2 h;have e2:∀a b c d:Int,a-b+(c-d)=a+c-(b+d):=λa b c d=>by omega
  rw[e2] at h3;exact h3
theorem Kb(f:List Tm):aq (λ_=>0) f=0:=by
 induction f with
 |nil=>rfl
 |cons t f ih=>simp only[aq];rw[ih];simp
theorem Kc(φ ψ:List Int->Int)(f:List Tm):aq (λa=>φ a+ψ a) f=aq φ f+aq ψ f:=by
 induction f with
 |nil=>rfl
 |cons t f ih=>simp only[aq];rw[ih];grind
theorem Kd(c:Int)(φ:List Int->Int)(f:List Tm):aq (λa=>c*φ a) f=c*aq φ f:=by
 induction f with
 |nil=>simp[aq]
 |cons t f ih=>simp only[aq];rw[ih];grind
theorem Ke(F:List Int->List Int->Int)(f g:List Tm):aq (λa=>aq (λb=>F a b) g) f=aq (λb=>aq (λa=>F a b) f) g:=by
 induction g with
 |nil=>simp only[aq];exact Kb f
 |cons u g ih=>simp only[aq];rw[Kc,ih,Kd]
theorem BW:∀a b:List Int,aY (·+·) a b=aY (·+·) b a
 |[],[]=>rfl
 |[],_::_=>rfl
 |_::_,[]=>rfl
 |x::a,y::b=>by simp only[aY];rw[BW a b,Int.add_comm]
theorem BX{φ ψ:List Int->Int}{f:List Tm}(h:∀t∈f,φ t.2=ψ t.2):aq φ f=aq ψ f:=by
 induction f with
 |nil=>rfl
 |cons t f ih=>simp only[aq];rw[h t (by simp),ih (λu hu=>h u (by simp[hu]))]
end Go.Proofs.YteimdcndjjclnaaGreat
namespace Go.Proofs.YteimdcndjjclnaaGreat
set_option linter.all false
open Go.Proofs.Tryz Go.RowKit
def bi:Tm:=(0,[])
def se(w:World)(b off:Nat)(ts:List Tm):Prop:=
 ∀i,i<ts.length->w.cell? ⟨b,off+i*2,none⟩=some (.int .i64 (ts.getD i bi).1)/\∃v,w.cell? ⟨b,off+i*2+1,none⟩=some v/\Sl w v (ts.getD i bi).2
theorem se.below{w w':World}{b off:Nat}{ts:List Tm}(h:se w b off ts)(hlt:b<w.heap.size)(hb:Below w.heap.size w w'):se w' b off ts:=by intro i hi;obtain⟨h1,v,h2,h3⟩:=h i hi;exact⟨by rw[hb.cell (p:=⟨b,off+i*2,none⟩) hlt];exact h1,v,by rw[hb.cell (p:=⟨b,off+i*2+1,none⟩) hlt];exact h2,h3.below hb⟩
def Pl(w:World)(v:Value)(ts:List Tm):Prop:=
 ∃a cap,v=.slice a ts.length cap/\ts.length<=cap/\(0<ts.length->∃b off,a=some ⟨b,off,none⟩/\b<w.heap.size/\se w b off ts)
theorem Pl.below{w w':World}{v:Value}{ts:List Tm}(h:Pl w v ts)(hb:Below w.heap.size w w'):Pl w' v ts:=by obtain⟨a,cap,rfl,hcap,h⟩:=h;refine⟨a,cap,rfl,hcap,λhp=>?_⟩;obtain⟨b,off,rfl,hlt,hc⟩:=h hp;exact⟨b,off,rfl,MN hlt hb.size,hc.below hlt hb⟩
def sf(w:World)(b off:Nat)(fs:List (List Tm)):Prop:=
 ∀i,i<fs.length->∃v,w.cell? ⟨b,off+i,none⟩=some v/\Pl w v (fs.getD i [])
theorem sf.below{w w':World}{b off:Nat}{fs:List (List Tm)}(h:sf w b off fs)(hlt:b<w.heap.size)(hb:Below w.heap.size w w'):sf w' b off fs:=by intro i hi;obtain⟨v,hc,hs⟩:=h i hi;exact⟨v,by rw[hb.cell (p:=⟨b,off+i,none⟩) hlt];exact hc,hs.below hb⟩
def Vl(w:World)(v:Value)(fs:List (List Tm)):Prop:=
 ∃a cap,v=.slice a fs.length cap/\(0<fs.length->∃b off,a=some ⟨b,off,none⟩/\b<w.heap.size/\sf w b off fs)
theorem Vl.below{w w':World}{v:Value}{fs:List (List Tm)}(h:Vl w v fs)(hb:Below w.heap.size w w'):Vl w' v fs:=by obtain⟨a,cap,rfl,h⟩:=h;refine⟨a,cap,rfl,λhp=>?_⟩;obtain⟨b,off,rfl,hlt,hc⟩:=h hp;exact⟨b,off,rfl,MN hlt hb.size,hc.below hlt hb⟩
end Go.Proofs.YteimdcndjjclnaaGreat
namespace Go.Proofs.YteimdcndjjclnaaGreat
open Go.Proofs.Tryz
set_option linter.all false
def dy(p:Int)(l m:List Tm):Prop:=∀φ,p∣aq φ l-aq φ m
theorem dy.refl(p:Int)(l:List Tm):dy p l l:=λφ=>⟨0,by omega⟩
theorem dy.symm{p:Int}{l m:List Tm}(h:dy p l m):dy p m l:=λφ=>by obtain⟨k,hk⟩:=h φ;exact⟨-k,by rw[Int.mul_neg,<-hk];omega⟩
theorem dy.trans{p:Int}{l m k:List Tm}(h:dy p l m)(h2:dy p m k):dy p l k:=λφ=>by obtain⟨a,ha⟩:=h φ;obtain⟨b,hb⟩:=h2 φ;exact⟨a+b,by rw[Int.mul_add,<-ha,<-hb];omega⟩
theorem dy.append{p:Int}{l m l2 m2:List Tm}(h:dy p l m)(h2:dy p l2 m2):dy p (l++l2) (m++m2):=λφ=>by obtain⟨a,ha⟩:=h φ;obtain⟨b,hb⟩:=h2 φ;exact⟨a+b,by rw[pP,pP,Int.mul_add,<-ha,<-hb];omega⟩
theorem sg(p o:Int)(l:List Tm):dy p (cM p o l) l:=λφ=>vF p o φ l
theorem BY{p:Int}{φ ψ:List Int->Int}:∀{f:List Tm},(∀t∈f,p∣φ t.2-ψ t.2)->p∣aq φ f-aq ψ f
 |[],_=>⟨0,by simp[aq]⟩
 |t::f,h=>by obtain⟨a,ha⟩:=h t (by simp);obtain⟨b,hb⟩:=BY (f:=f) (λu hu=>h u (by simp[hu]));simp only[aq];exact⟨t.1*a+b,by grind⟩
theorem dy.prodR{p:Int}(f:List Tm){g h:List Tm}(hs:dy p g h):dy p (bk p f g) (bk p f h):=λφ=>by
 obtain⟨a,ha⟩:=pR p φ g f;obtain⟨b,hb⟩:=pR p φ h f;obtain⟨c,hc⟩:=BY (p:=p) (f:=f) (φ:=λx=>aq (λb=>φ (aY (·+·) x b)) g) (ψ:=λx=>aq (λb=>φ (aY (·+·) x b)) h) (λt _=>hs _)
 exact⟨a+c-b,by grind⟩
theorem BZ(p:Int)(f g:List Tm):dy p (bk p f g) (bk p g f):=λφ=>by
 obtain⟨a,ha⟩:=pR p φ g f;obtain⟨b,hb⟩:=pR p φ f g;have e:aq (λx=>aq (λy=>φ (aY (·+·) x y)) g) f=aq (λx=>aq (λy=>φ (aY (·+·) x y)) f) g:=by rw[Ke];refine BX (λt _=>BX (λu _=>?_));rw[BW]
 exact⟨a-b,by rw[Int.mul_sub,<-ha,<-hb,e];omega⟩
theorem dy.prodL{p:Int}{f g:List Tm}(h:List Tm)(hs:dy p f g):dy p (bk p f h) (bk p g h):=
 (BZ p f h).trans ((dy.prodR h hs).trans (BZ p h g))
theorem B4(p:Int)(f g h:List Tm):bk p (f++g) h=bk p f h++bk p g h:=by unfold Go.Proofs.YteimdcndjjclnaaGreat.bk;rw[List.flatMap_append]
structure fe(p:Int)(n:Nat)(l:List Tm):Prop where
 len:ep n l
 coef:∀t∈l,0<=t.1/\t.1<p
theorem eB.okl{p o:Int}{n:Nat}{ts:List Tm}(h:eB p o n ts):fe p n ts:=⟨h.len,λt ht=>by have:=h.coef t ht;omega⟩
theorem fe.append{p:Int}{n:Nat}{l m:List Tm}(h:fe p n l)(h2:fe p n m):fe p n (l++m):=
 ⟨λt ht=>(MY.1 ht).elim (h.len t) (h2.len t),λt ht=>(MY.1 ht).elim (h.coef t) (h2.coef t)⟩
theorem fe.prod{p:Int}{n:Nat}{l m:List Tm}(hp:2<=p)(h:fe p n l)(h2:fe p n m):fe p n (bk p l m):=by
 constructor
 .intro t ht;simp only[Go.Proofs.YteimdcndjjclnaaGreat.bk,eK,Nt,M5] at ht;obtain⟨a,ha,b,hb,rfl⟩:=ht;simp only;rw[jz _ _ _ (by rw[h.len a ha,h2.len b hb]),h.len a ha]
 .intro t ht;simp only[Go.Proofs.YteimdcndjjclnaaGreat.bk,eK,Nt,M5] at ht;obtain⟨a,ha,b,hb,rfl⟩:=ht;exact⟨Int.emod_nonneg _ (by omega),Int.emod_lt_of_pos _ (by omega)⟩
theorem fe.col{p o:Int}{n:Nat}{l:List Tm}(hp:2<=p)(h:fe p n l):eB p o n (cM p o l):=vz hp h.len h.coef
theorem dy.col{p o:Int}{n:Nat}{l m:List Tm}(hp:2<=p)(hl:fe p n l)(hm:fe p n m)(h:dy p l m):cM p o l=cM p o m:=
 Ka hp hm.len hm.coef (hl.col hp) ((sg p o l).trans h)
theorem dy.canon{p o:Int}{n:Nat}{l m:List Tm}(hp:2<=p)(hl:eB p o n l)(hm:eB p o n m)(h:dy p l m):l=m:=
 vX hp l m hl hm (λe=>h (gC e))
theorem ME{p o:Int}{n:Nat}{f g h:List Tm}(hp:2<=p)(hf:fe p n f)(hg:fe p n g)(hh:fe p n h):cM p o (cM p o (bk p f h)++cM p o (bk p g h))=cM p o (bk p (cM p o (f++g)) h):=by refine dy.col hp (((hf.prod hp hh).col hp (o:=o)).okl.append ((hg.prod hp hh).col hp (o:=o)).okl) (((hf.append hg).col hp (o:=o)).okl.prod hp hh) ?_;refine((sg p o _).append (sg p o _)).trans ?_;rw[<-B4];exact dy.prodL h (sg p o _).symm
def cS(p o:Int):List Tm->List Tm->List Tm
 |[],g=>g
 |t::f,[]=>t::f
 |t::f,u::g=>
  if 0<aX o t.2 u.2 then t::cS p o f (u::g)
  else if aX o t.2 u.2<0 then u::cS p o (t::f) g
  else if (t.1+u.1)%p≠0 then ((t.1+u.1)%p,t.2)::cS p o f g else cS p o f g
theorem oh(p o:Int)(g:List Tm):cS p o [] g=g:=by unfold cS;rfl
theorem oj(p o:Int)(f:List Tm):cS p o f []=f:=by cases f<;>(unfold cS;rfl)
theorem ol{p o:Int}{t u:Tm}{f g:List Tm}(h:0<aX o t.2 u.2):cS p o (t::f) (u::g)=t::cS p o f (u::g):=by rw[cS.eq_def];simp[h]
theorem om{p o:Int}{t u:Tm}{f g:List Tm}(h:aX o t.2 u.2<0):cS p o (t::f) (u::g)=u::cS p o (t::f) g:=by rw[cS.eq_def];simp[h,show¬0<aX o t.2 u.2 by omega]
theorem oo{p o:Int}{t u:Tm}{f g:List Tm}(h:aX o t.2 u.2=0)(h2:(t.1+u.1)%p≠0):cS p o (t::f) (u::g)=((t.1+u.1)%p,t.2)::cS p o f g:=by rw[cS.eq_def];simp[h,h2]
theorem oq{p o:Int}{t u:Tm}{f g:List Tm}(h:aX o t.2 u.2=0)(h2:(t.1+u.1)%p=0):cS p o (t::f) (u::g)=cS p o f g:=by rw[cS.eq_def];simp[h,h2]
theorem lP{o:Int}(P:List Tm->List Tm->Prop)(hl:∀g,P [] g)(hr:∀f,P f [])(h1:∀t f u g,0<aX o t.2 u.2->P f (u::g)->P (t::f) (u::g))(h2:∀t f u g,aX o t.2 u.2<0->P (t::f) g->P (t::f) (u::g))(h3:∀t f u g,aX o t.2 u.2=0->P f g->P (t::f) (u::g)):∀(k:Nat)(f g:List Tm),f.length+g.length<=k->P f g
 |_,[],g,_=>hl g
 |_,t::f,[],_=>hr _
 |0,t::f,u::g,h=>by simp at h
 |k+1,t::f,u::g,h=>by
  simp only[Nc] at h;by_cases a:0<aX o t.2 u.2
  .exact h1 t f u g a (lP P hl hr h1 h2 h3 k f (u::g) (by simp only[Nc];omega))
  .by_cases b:aX o t.2 u.2<0
   .exact h2 t f u g b (lP P hl hr h1 h2 h3 k (t::f) g (by simp only[Nc];omega))
   .exact h3 t f u g (by omega) (lP P hl hr h1 h2 h3 k f g (by omega))
theorem pS{p o:Int}(f g:List Tm):∀x∈cS p o f g,∃t∈f++g,x.2=t.2:=by
 refine lP (o:=o) (P:=λf g=>∀x∈cS p o f g,∃t∈f++g,x.2=t.2) ?_ ?_ ?_ ?_ ?_ _ f g (MI _)
 .intro g x hx;rw[oh] at hx;exact⟨x,by simpa using hx,rfl⟩
 .intro f x hx;rw[oj] at hx;exact⟨x,by simpa using hx,rfl⟩
 .intro t f u g h ih x hx;rw[ol h] at hx;rcases Nb.1 hx with rfl|hx
  .exact⟨x,by simp,rfl⟩
  .obtain⟨y,hy,e⟩:=ih x hx;exact⟨y,by simp at hy⊢;grind,e⟩
 .intro t f u g h ih x hx;rw[om h] at hx;rcases Nb.1 hx with rfl|hx
  .exact⟨x,by simp,rfl⟩
  .obtain⟨y,hy,e⟩:=ih x hx;exact⟨y,by simp at hy⊢;grind,e⟩
 .intro t f u g h ih x hx;by_cases hz:(t.1+u.1)%p=0
  .rw[oq h hz] at hx;obtain⟨y,hy,e⟩:=ih x hx;exact⟨y,by simp at hy⊢;grind,e⟩
  .rw[oo h hz] at hx;rcases Nb.1 hx with rfl|hx
   .exact⟨t,by simp,rfl⟩
   .obtain⟨y,hy,e⟩:=ih x hx;exact⟨y,by simp at hy⊢;grind,e⟩
theorem Kf{p o:Int}(f g:List Tm):(cS p o f g).length<=f.length+g.length:=by
 refine lP (o:=o) (P:=λf g=>(cS p o f g).length<=f.length+g.length) ?_ ?_ ?_ ?_ ?_ _ f g (MI _)
 .intro g;rw[oh];simp
 .intro f;rw[oj];simp
 .intro t f u g h ih;rw[ol h];simp only[Nc] at ih⊢;omega
 .intro t f u g h ih;rw[om h];simp only[Nc] at ih⊢;omega
 .intro t f u g h ih;by_cases hz:(t.1+u.1)%p=0
  .rw[oq h hz];simp only[Nc];omega
  .rw[oo h hz];simp only[Nc];omega
theorem Kg{p o:Int}{n:Nat}(f g:List Tm)(hf:ep n f)(hg:ep n g):dy p (cS p o f g) (f++g):=by
 intro φ;rw[pP];revert hf hg;refine lP (o:=o) (P:=λf g=>ep n f->ep n g->p∣aq φ (cS p o f g)-(aq φ f+aq φ g)) ?_ ?_ ?_ ?_ ?_ _ f g (MI _)
 .intro g _ _;rw[oh];simp[aq]
 .intro f _ _;rw[oj];simp[aq]
 .intro t f u g h ih hf hg;rw[ol h];simp only[aq] at ih⊢;obtain⟨k,hk⟩:=ih (λx hx=>hf x (by simp[hx])) hg;exact⟨k,by omega⟩
 .intro t f u g h ih hf hg;rw[om h];simp only[aq] at ih⊢;obtain⟨k,hk⟩:=ih hf (λx hx=>hg x (by simp[hx]));exact⟨k,by omega⟩
 .intro t f u g h ih hf hg;have e:t.2=u.2:=(lI o t.2 u.2 (by rw[hf t (by simp),hg u (by simp)])).1 h;obtain⟨k,hk⟩:=ih (λx hx=>hf x (by simp[hx])) (λx hx=>hg x (by simp[hx]));obtain⟨m,hm⟩:=jX p (t.1+u.1);by_cases hz:(t.1+u.1)%p=0
  .rw[oq h hz];simp only[aq];rw[<-e];rw[hz] at hm;exact⟨k+m*φ t.2,by grind⟩
  .rw[oo h hz];simp only[aq];rw[<-e];exact⟨k+m*φ t.2,by grind⟩
theorem Kh{p o:Int}{n:Nat}(hp:2<=p)(f g:List Tm)(hf:eB p o n f)(hg:eB p o n g):eB p o n (cS p o f g):=by
 have hlen:ep n (cS p o f g):=by intro x hx;obtain⟨t,ht,e⟩:=pS f g x hx;rw[e];exact(MY.1 ht).elim (hf.len t) (hg.len t)
 refine⟨hlen,?_,?_⟩
 .have lf:=hf.len;have lg:=hg.len;have ff:=hf.falls;have fg:=hg.falls;clear hf hg hlen;revert lf lg ff fg;refine lP (o:=o) (P:=λf g=>ep n f->ep n g->iu o f->iu o g->iu o (cS p o f g)) ?_ ?_ ?_ ?_ ?_ _ f g (MI _)
  .intro g _ _ _ h;rw[oh];exact h
  .intro f _ _ h _;rw[oj];exact h
  .intro t f u g h ih lf lg ff fg;rw[ol h];refine⟨λx hx=>?_,ih (λx hx=>lf x (by simp[hx])) lg ff.2 fg⟩;obtain⟨y,hy,e⟩:=pS f (u::g) x hx;rw[e];rcases MY.1 hy with hy|hy
   .exact ff.1 y hy
   .rcases Nb.1 hy with rfl|hy
    .exact h
    .exact nN o t.2 u.2 y.2 (by rw[lf t (by simp),lg u (by simp)]) (by rw[lg u (by simp),lg y (by simp[hy])]) h (fg.1 y hy)
  .intro t f u g h ih lf lg ff fg;rw[om h];have h':0<aX o u.2 t.2:=by have:=uI o u.2 t.2;omega
   refine⟨λx hx=>?_,ih lf (λx hx=>lg x (by simp[hx])) ff fg.2⟩;obtain⟨y,hy,e⟩:=pS (t::f) g x hx;rw[e];rcases MY.1 hy with hy|hy
   .rcases Nb.1 hy with rfl|hy
    .exact h'
    .exact nN o u.2 t.2 y.2 (by rw[lf t (by simp),lg u (by simp)]) (by rw[lf t (by simp),lf y (by simp[hy])]) h' (ff.1 y hy)
   .exact fg.1 y hy
  .intro t f u g h ih lf lg ff fg;have e0:t.2=u.2:=(lI o t.2 u.2 (by rw[lf t (by simp),lg u (by simp)])).1 h;have ih':=ih (λx hx=>lf x (by simp[hx])) (λx hx=>lg x (by simp[hx])) ff.2 fg.2;by_cases hz:(t.1+u.1)%p=0
   .rw[oq h hz];exact ih'
   .rw[oo h hz];refine⟨λx hx=>?_,ih'⟩;obtain⟨y,hy,e⟩:=pS f g x hx;simp only;rw[e];rcases MY.1 hy with hy|hy
    .exact ff.1 y hy
    .rw[e0];exact fg.1 y hy
 .have cf:=hf.coef;have cg:=hg.coef;clear hf hg hlen;revert cf cg;refine lP (o:=o) (P:=λf g=>(∀t∈f,1<=t.1/\t.1<p)->(∀t∈g,1<=t.1/\t.1<p)->∀t∈cS p o f g,1<=t.1/\t.1<p) ?_ ?_ ?_ ?_ ?_ _ f g (MI _)
  .intro g _ h;rw[oh];exact h
  .intro f h _;rw[oj];exact h
  .intro t f u g h ih cf cg x hx;rw[ol h] at hx;rcases Nb.1 hx with rfl|hx
   .exact cf x (by simp)
   .exact ih (λx hx=>cf x (by simp[hx])) cg x hx
  .intro t f u g h ih cf cg x hx;rw[om h] at hx;rcases Nb.1 hx with rfl|hx
   .exact cg x (by simp)
   .exact ih cf (λx hx=>cg x (by simp[hx])) x hx
  .intro t f u g h ih cf cg x hx;have ih':=ih (λx hx=>cf x (by simp[hx])) (λx hx=>cg x (by simp[hx]));by_cases hz:(t.1+u.1)%p=0
   .rw[oq h hz] at hx;exact ih' x hx
   .rw[oo h hz] at hx;rcases Nb.1 hx with rfl|hx
    .have h1:=Int.emod_nonneg (t.1+u.1) (show p≠0 by omega);have h2:=Int.emod_lt_of_pos (t.1+u.1) (show 0<p by omega);simp only;omega
    .exact ih' x hx
theorem Ki{p a b:Nat}(h:dQ p p=true)(ha:0<a)(ha2:a<p)(hb:0<b)(hb2:b<p):a*b%p≠0:=by
 intro hz;have hd:=Nat.dvd_of_mod_eq_zero hz;have hc:Nat.Coprime p a:=by have h1:=Nat.gcd_dvd_left p a;have h3:Nat.gcd p a<=a:=Nat.le_of_dvd ha (Nat.gcd_dvd_right p a);have h4:0<Nat.gcd p a:=Nat.gcd_pos_of_pos_right p ha;unfold dQ at h;rw[List.all_eq_true] at h;have h5:=h (Nat.gcd p a) (List.mem_range.2 (by omega));rw[Nat.mod_eq_zero_of_dvd h1] at h5;simp at h5;show Nat.gcd p a=1;omega
 have:=Nat.le_of_dvd hb (hc.dvd_of_dvd_mul_left hd);omega
theorem tT{p a b:Int}(h:bq p=0)(ha:1<=a)(ha2:a<p)(hb:1<=b)(hb2:b<p):1<=a*b%p/\a*b%p<p:=by
 have h0:dQ p.toNat p.toNat=true:=by
  unfold bq at h;by_cases h1:p<2\/101<p
  .rw[M9 h1] at h;omega
  .rw[M8 h1] at h;cases hq:ko p
   .rw[hq] at h;simp at h
   .exact hq
 have h1:=Ki h0 (a:=a.toNat) (b:=b.toNat) (by omega) (by omega) (by omega) (by omega);have e:a*b%p=((a.toNat*b.toNat%p.toNat:Nat):Int):=by rw[Int.natCast_emod,Int.natCast_mul,Int.toNat_of_nonneg (by omega),Int.toNat_of_nonneg (by omega),Int.toNat_of_nonneg (by omega)]
 have h2:=Int.emod_lt_of_pos (a*b) (show 0<p by omega);omega
theorem eO{p:Int}(h:bq p=0):2<=p/\p<=101:=by
 unfold bq at h;by_cases h1:p<2\/101<p
 .rw[M9 h1] at h;omega
 .omega
def kT(F:Nat->List Tm)(a k:Nat):List Tm:=(List.range' a k).flatMap F
theorem Kj(F:Nat->List Tm)(a k m:Nat):kT F a (k+m)=kT F a k++kT F (a+k) m:=by unfold kT;rw[<-List.range'_append_1,List.flatMap_append]
end Go.Proofs.YteimdcndjjclnaaGreat
