/- Plain mathematics of polynomials: terms put where they belong; what is told by a polynomial tells it. -/
import Derived.Test.YteimdcndjjclnaaGreatH
namespace Go.Proofs.YteimdcndjjclnaaGreat
open Go.Proofs.Tryz
set_option linter.all false
abbrev Tm:=Int×List Int
def bN(p o:Int):List Tm->Tm->List Tm
 |[],t=>[t]
 |u::out,t=>if 0<aJ o u.2 t.2 then u::bN p o out t else if u.2=t.2 then ((u.1+t.1)%p,u.2)::out else t::u::out
def eL(p o:Int)(l:List Tm):List Tm:=(l.foldl (bN p o) []).filter λt=>t.1%p !=0
def am(φ:List Int->Int):List Tm->Int
 |[]=>0
 |t::ts=>t.1*φ t.2+am φ ts
theorem oR(φ:List Int->Int):∀ts us:List Tm,am φ (ts++us)=am φ ts+am φ us
 |[],us=>by simp[am]
 |t::ts,us=>by simp only[List.cons_append,am];rw[oR φ ts us];omega
theorem jx(p x:Int):p∣x%p-x:=⟨-(x/p),by rw[Int.emod_def];grind⟩
theorem AV(p o:Int)(φ:List Int->Int)(t:Tm):∀out:List Tm,p∣am φ (bN p o out t)-(am φ out+t.1*φ t.2)
 |[]=>by simp[bN,am]
 |u::out=>by
  simp only[bN];split
  .simp only[am];have:=AV p o φ t out;have e:u.1*φ u.2+am φ (bN p o out t)-(u.1*φ u.2+am φ out+t.1*φ t.2)=am φ (bN p o out t)-(am φ out+t.1*φ t.2):=by omega
   rw[e];exact this
  .split
   .rename_i _ h;simp only[am];obtain⟨k,hk⟩:=jx p (u.1+t.1);rw[<-h];exact⟨k*φ u.2,by grind⟩
   .simp only[am];exact⟨0,by omega⟩
theorem AW(p o:Int)(φ:List Int->Int):∀(l out:List Tm),p∣am φ (l.foldl (bN p o) out)-(am φ out+am φ l)
 |[],out=>by simp[am]
 |t::l,out=>by
  simp only[List.foldl_cons,am];have h1:=AW p o φ l (bN p o out t);have h2:=AV p o φ t out;have h3:=Int.dvd_add h1 h2;have e:am φ (l.foldl (bN p o) (bN p o out t))-(am φ (bN p o out t)+am φ l)+(am φ (bN p o out t)-(am φ out+t.1*φ t.2))=am φ (l.foldl (bN p o) (bN p o out t))-(am φ out+(t.1*φ t.2+am φ l)):=by omega
  rw[e] at h3;exact h3
theorem AX(p:Int)(φ:List Int->Int):∀ts:List Tm,p∣am φ (ts.filter λt=>t.1%p !=0)-am φ ts
 |[]=>by simp[am]
 |t::ts=>by
  have h:=AX p φ ts;by_cases ht:t.1%p=0
  .have e:(t::ts).filter (λt=>t.1%p !=0)=ts.filter λt=>t.1%p !=0:=by simp[List.filter_cons,ht]
   rw[e];simp only[am];obtain⟨k,hk⟩:=h;obtain⟨m,hm⟩:=Int.dvd_of_emod_eq_zero ht;exact⟨k-m*φ t.2,by grind⟩
  .have e:(t::ts).filter (λt=>t.1%p !=0)=t::ts.filter λt=>t.1%p !=0:=by simp[List.filter_cons,ht]
   rw[e];simp only[am];have e2:t.1*φ t.2+am φ (ts.filter λt=>t.1%p !=0)-(t.1*φ t.2+am φ ts)=am φ (ts.filter λt=>t.1%p !=0)-am φ ts:=by omega
   rw[e2];exact h
theorem un(p o:Int)(φ:List Int->Int)(l:List Tm):p∣am φ (eL p o l)-am φ l:=by
 unfold eL;have h1:=AX p φ (l.foldl (bN p o) []);have h2:=AW p o φ l [];have h3:=Int.dvd_add h1 h2;simp only[am,Int.zero_add] at h3;have e:∀a b c:Int,a-b+(b-c)=a-c:=λa b c=>by omega
 rw[e] at h3;exact h3
def gK(o:Int):List Tm->Prop
 |[]=>True
 |t::ts=>(∀u∈ts,0<aJ o t.2 u.2)/\gK o ts
def ep(n:Nat)(ts:List Tm):Prop:=∀t∈ts,t.2.length=n
theorem qU{p o:Int}{t:Tm}:∀{out:List Tm}{x:Tm},x∈bN p o out t->x.2=t.2\/∃u∈out,x.2=u.2
 |[],x,h=>by simp[bN] at h;exact L0 (by rw[h])
 |u::out,x,h=>by
  simp only[bN] at h;split at h
  .simp only[LL] at h;rcases h with rfl|h
   .exact L3 ⟨x,by simp,rfl⟩
   .rcases qU h with h|⟨y,hy,h⟩
    .exact L0 h
    .exact L3 ⟨y,by simp[hy],h⟩
  .split at h
   .simp only[LL] at h;rcases h with rfl|h
    .exact L3 ⟨u,by simp,rfl⟩
    .exact L3 ⟨x,by simp[h],rfl⟩
   .simp only[LL] at h;rcases h with rfl|rfl|h
    .exact L0 rfl
    .exact L3 ⟨x,by simp,rfl⟩
    .exact L3 ⟨x,by simp[h],rfl⟩
theorem I7{p o:Int}{n:Nat}{t:Tm}{out:List Tm}(h:ep n out)(ht:t.2.length=n):ep n (bN p o out t):=by
 intro x hx;rcases qU hx with h1|⟨u,hu,h1⟩
 .rw[h1];exact ht
 .rw[h1];exact h u hu
theorem AY{p o:Int}{n:Nat}{t:Tm}(ht:t.2.length=n):∀{out:List Tm},ep n out->gK o out->gK o (bN p o out t)
 |[],_,_=>⟨by simp,trivial⟩
 |u::out,hl,⟨h1,h2⟩=>by
  have hu:u.2.length=n:=hl u (by simp);have hlo:ep n out:=λx hx=>hl x (by simp[hx]);simp only[bN];by_cases hm:0<aJ o u.2 t.2
  .rw[LI hm];refine⟨λx hx=>?_,AY ht hlo h2⟩;rcases qU hx with h|⟨y,hy,h⟩
   .rw[h];exact hm
   .rw[h];exact h1 y hy
  .rw[LH hm];by_cases he:u.2=t.2
   .rw[LI he];exact⟨h1,h2⟩
   .rw[LH he];have hz:=kf o u.2 t.2 (by omega);have hneg:=qg o u.2 t.2;have htu:0<aJ o t.2 u.2:=by have:aJ o u.2 t.2≠0:=λe=>he (hz.1 e);omega
    refine⟨λx hx=>?_,h1,h2⟩;simp only[LL] at hx;rcases hx with rfl|hx
    .exact htu
    .exact mL o t.2 u.2 x.2 (by omega) (by rw[hlo x hx];exact hu) htu (h1 x hx)
theorem AZ{p o:Int}{n:Nat}:∀(l out:List Tm),ep n l->ep n out->gK o out->ep n (l.foldl (bN p o) out)/\gK o (l.foldl (bN p o) out)
 |[],out,_,ho,hf=>⟨ho,hf⟩
 |t::l,out,hl,ho,hf=>AZ l (bN p o out t) (λx hx=>hl x (by simp[hx])) (I7 ho (hl t (by simp))) (AY (hl t (by simp)) ho hf)
theorem uJ{o:Int}(f:Tm->Bool):∀{ts:List Tm},gK o ts->gK o (ts.filter f)
 |[],_=>trivial
 |t::ts,⟨h1,h2⟩=>by
  simp only[List.filter_cons];split
  .exact⟨λu hu=>h1 u (LR.1 hu).1,uJ f h2⟩
  .exact uJ f h2
theorem A0{p o:Int}(hp:2<=p){t:Tm}(ht:0<=t.1/\t.1<p):∀{out:List Tm},(∀u∈out,0<=u.1/\u.1<p)->∀x∈bN p o out t,0<=x.1/\x.1<p
 |[],_,x,hx=>by simp[bN] at hx;rw[hx];exact ht
 |u::out,h,x,hx=>by
  simp only[bN] at hx;split at hx
  .simp only[LL] at hx;rcases hx with rfl|hx
   .exact h x (by simp)
   .exact A0 hp ht (λy hy=>h y (by simp[hy])) x hx
  .split at hx
   .simp only[LL] at hx;rcases hx with rfl|hx
    .exact⟨Int.emod_nonneg _ (by omega),Int.emod_lt_of_pos _ (by omega)⟩
    .exact h x (by simp[hx])
   .simp only[LL] at hx;rcases hx with rfl|rfl|hx
    .exact ht
    .exact h x (by simp)
    .exact h x (by simp[hx])
theorem A1{p o:Int}(hp:2<=p):∀(l out:List Tm),(∀u∈l,0<=u.1/\u.1<p)->(∀u∈out,0<=u.1/\u.1<p)->∀x∈l.foldl (bN p o) out,0<=x.1/\x.1<p
 |[],out,_,ho=>ho
 |t::l,out,hl,ho=>A1 hp l (bN p o out t) (λx hx=>hl x (by simp[hx])) (A0 hp (hl t (by simp)) ho)
structure dQ(p o:Int)(n:Nat)(ts:List Tm):Prop where
 len:ep n ts
 falls:gK o ts
 coef:∀t∈ts,1<=t.1/\t.1<p
theorem uz{p o:Int}{n:Nat}(hp:2<=p){l:List Tm}(hl:ep n l)(hc:∀t∈l,0<=t.1/\t.1<p):dQ p o n (eL p o l):=by
 have h:=AZ (p:=p) (o:=o) (n:=n) l [] hl (λx hx=>by simp at hx) trivial;have hr:=A1 (o:=o) hp l [] hc (λx hx=>by simp at hx);refine⟨λt ht=>h.1 t (LR.1 ht).1,uJ _ h.2,λt ht=>?_⟩;unfold eL at ht;rw[LR] at ht;have h1:=hr t ht.1;have h2:t.1%p≠0:=by simpa using ht.2
 have h3:t.1≠0:=λe=>h2 (by rw[e];simp);omega
def fN(e:List Int):List Int->Int:=λx=>if x=e then 1 else 0
theorem qV{e:List Int}:∀{ts:List Tm},(∀t∈ts,t.2≠e)->am (fN e) ts=0
 |[],_=>rfl
 |t::ts,h=>by simp only[am];rw[qV (λu hu=>h u (by simp[hu]))];unfold fN;rw[LH (h t (by simp))];simp
theorem ot{o:Int}{n:Nat}{t:Tm}{ts:List Tm}(hl:ep n (t::ts))(hf:gK o (t::ts)):∀u∈ts,u.2≠t.2:=by intro u hu e;have h1:=hf.1 u hu;have:=(kf o t.2 u.2 (by rw[hl t (by simp),hl u (by simp[hu])])).2 e.symm;omega
theorem m7{o:Int}{n:Nat}{t:Tm}{ts:List Tm}(hl:ep n (t::ts))(hf:gK o (t::ts)):am (fN t.2) (t::ts)=t.1:=by show t.1*fN t.2 t.2+am (fN t.2) ts=t.1;rw[qV (ot hl hf)];unfold fN;rw[LI rfl];omega
theorem A3{p a:Int}(h:p∣0-a):p∣a:=by obtain⟨k,hk⟩:=h;exact⟨-k,by rw[Int.mul_neg,<-hk];omega⟩
theorem A4{p a:Int}(h:p∣a-0):p∣a:=by rwa [Int.sub_zero] at h
theorem uK{p o:Int}{n:Nat}(hp:2<=p):∀(ts us:List Tm),dQ p o n ts->dQ p o n us->(∀e,p∣am (fN e) ts-am (fN e) us)->ts=us
 |[],[],_,_,_=>rfl
 |[],u::us,_,hu,h=>by have h1:=h u.2;rw[m7 hu.len hu.falls] at h1;have h2:=hu.coef u (by simp);have:=Int.le_of_dvd (by omega) (A3 h1);omega
 |t::ts,[],ht,_,h=>by have h1:=h t.2;rw[m7 ht.len ht.falls] at h1;have h2:=ht.coef t (by simp);have:=Int.le_of_dvd (by omega) (A4 h1);omega
 |t::ts,u::us,ht,hu,h=>by
  have tc:=ht.coef t (by simp);have uc:=hu.coef u (by simp);have tl:=ht.len t (by simp);have ul:=hu.len u (by simp);have hts:dQ p o n ts:=⟨λx hx=>ht.len x (by simp[hx]),ht.falls.2,λx hx=>ht.coef x (by simp[hx])⟩;have hus:dQ p o n us:=⟨λx hx=>hu.len x (by simp[hx]),hu.falls.2,λx hx=>hu.coef x (by simp[hx])⟩;have hsame:t.2=u.2:=by
   apply LP;intro hne;have hz:=kf o t.2 u.2 (by omega);have hg:=qg o t.2 u.2;have hnz:aJ o t.2 u.2≠0:=λe=>hne (hz.1 e);by_cases hlt:0<aJ o t.2 u.2
   .have h1:=h t.2;have hn:∀x∈u::us,x.2≠t.2:=by
     intro x hx e;simp only[LL] at hx;rcases hx with rfl|hx
     .exact hne e.symm
     .have h2:=hu.falls.1 x hx;have h3:=mL o t.2 u.2 x.2 (by omega) (by rw[ul,hu.len x (by simp[hx])]) hlt h2;have h4:=(kf o t.2 x.2 (by rw[tl,hu.len x (by simp[hx])])).2 e.symm;omega
    rw[qV hn,m7 ht.len ht.falls] at h1;have:=Int.le_of_dvd (by omega) (A4 h1);omega
   .have hlt2:0<aJ o u.2 t.2:=by omega
    have h1:=h u.2;have hn:∀x∈t::ts,x.2≠u.2:=by
     intro x hx e;simp only[LL] at hx;rcases hx with rfl|hx
     .exact hne e
     .have h2:=ht.falls.1 x hx;have h3:=mL o u.2 t.2 x.2 (by omega) (by rw[tl,ht.len x (by simp[hx])]) hlt2 h2;have h4:=(kf o u.2 x.2 (by rw[ul,ht.len x (by simp[hx])])).2 e.symm;omega
    rw[qV hn,m7 hu.len hu.falls] at h1;have:=Int.le_of_dvd (by omega) (A3 h1);omega
  have hcoef:t.1=u.1:=by
   have h2:=h t.2;rw[m7 ht.len ht.falls,hsame,m7 hu.len hu.falls] at h2;by_cases hd:t.1-u.1=0
   .omega
   .by_cases hd2:0<t.1-u.1
    .have:=Int.le_of_dvd hd2 h2;omega
    .have h3:p∣u.1-t.1:=by obtain⟨k,hk⟩:=h2;exact⟨-k,by rw[Int.mul_neg,<-hk];omega⟩
     have:=Int.le_of_dvd (by omega) h3;omega
  have htu:t=u:=Prod.ext hcoef hsame;subst htu;congr 1;refine uK hp ts us hts hus (λe=>?_);have h1:=h e;simp only[am] at h1;have e2:t.1*fN e t.2+am (fN e) ts-(t.1*fN e t.2+am (fN e) us)=am (fN e) ts-am (fN e) us:=by omega
  rwa [e2] at h1
theorem I8{p o:Int}{n:Nat}(hp:2<=p){l ts:List Tm}(hl:ep n l)(hc:∀t∈l,0<=t.1/\t.1<p)(ht:dQ p o n ts)(h:∀φ,p∣am φ ts-am φ l):ts=eL p o l:=by refine uK hp ts (eL p o l) ht (uz hp hl hc) (λe=>?_);obtain⟨a,ha⟩:=h (fN e);obtain⟨b,hb⟩:=un p o (fN e) l;exact⟨a-b,by rw[Int.mul_sub,<-ha,<-hb];omega⟩
def iP(p:Int)(t:Tm)(g:List Tm):List Tm:=g.map λu=>(t.1*u.1%p,bL (·+·) t.2 u.2)
def cN(p:Int)(f g:List Tm):List Tm:=f.flatMap λt=>iP p t g
theorem uq(p:Int)(φ:List Int->Int)(t:Tm):∀g:List Tm,p∣am φ (iP p t g)-t.1*am (λb=>φ (bL (·+·) t.2 b)) g
 |[]=>by simp[iP,am]
 |u::g=>by
  have h:=uq p φ t g;have e:iP p t (u::g)=(t.1*u.1%p,bL (·+·) t.2 u.2)::iP p t g:=rfl
  rw[e];simp only[am];obtain⟨k,hk⟩:=h;obtain⟨m,hm⟩:=jx p (t.1*u.1);exact⟨k+m*φ (bL (·+·) t.2 u.2),by grind⟩
theorem oS(p:Int)(φ:List Int->Int)(g:List Tm):∀f:List Tm,p∣am φ (cN p f g)-am (λa=>am (λb=>φ (bL (·+·) a b)) g) f
 |[]=>by simp[cN,am]
 |t::f=>by
  have h:=oS p φ g f;have e:cN p (t::f) g=iP p t g++cN p f g:=rfl;rw[e,oR];simp only[am];have h2:=uq p φ t g;have h3:=Int.dvd_add h2 h;have e2:∀a b c d:Int,a-b+(c-d)=a+c-(b+d):=λa b c d=>by omega
  rw[e2] at h3;exact h3
theorem I9(f:List Tm):am (λ_=>0) f=0:=by
 induction f with
 |nil=>rfl
 |cons t f ih=>simp only[am];rw[ih];simp
theorem Ja(φ ψ:List Int->Int)(f:List Tm):am (λa=>φ a+ψ a) f=am φ f+am ψ f:=by
 induction f with
 |nil=>rfl
 |cons t f ih=>simp only[am];rw[ih];grind
theorem Jb(c:Int)(φ:List Int->Int)(f:List Tm):am (λa=>c*φ a) f=c*am φ f:=by
 induction f with
 |nil=>simp[am]
 |cons t f ih=>simp only[am];rw[ih];grind
theorem Jc(F:List Int->List Int->Int)(f g:List Tm):am (λa=>am (λb=>F a b) g) f=am (λb=>am (λa=>F a b) f) g:=by
 induction g with
 |nil=>simp only[am];exact I9 f
 |cons u g ih=>simp only[am];rw[Ja,ih,Jb]
theorem A5:∀a b:List Int,bL (·+·) a b=bL (·+·) b a
 |[],[]=>rfl
 |[],_::_=>rfl
 |_::_,[]=>rfl
 |x::a,y::b=>by simp only[bL];rw[A5 a b,Int.add_comm]
theorem A6{φ ψ:List Int->Int}{f:List Tm}(h:∀t∈f,φ t.2=ψ t.2):am φ f=am ψ f:=by
 induction f with
 |nil=>rfl
 |cons t f ih=>simp only[am];rw[h t (by simp),ih (λu hu=>h u (by simp[hu]))]
end Go.Proofs.YteimdcndjjclnaaGreat
namespace Go.Proofs.YteimdcndjjclnaaGreat
set_option linter.all false
open Go.Proofs.Tryz Go.RowKit
def bT:Tm:=(0,[])
def qW(w:World)(b off:Nat)(ts:List Tm):Prop:=
 ∀i,i<ts.length->w.cell? ⟨b,off+i*2,none⟩=some (.int .i64 (ts.getD i bT).1)/\∃v,w.cell? ⟨b,off+i*2+1,none⟩=some v/\Sl w v (ts.getD i bT).2
theorem qW.below{w w':World}{b off:Nat}{ts:List Tm}(h:qW w b off ts)(hlt:b<w.heap.size)(hb:Below w.heap.size w w'):qW w' b off ts:=by intro i hi;obtain⟨h1,v,h2,h3⟩:=h i hi;exact⟨by rw[hb.cell (p:=⟨b,off+i*2,none⟩) hlt];exact h1,v,by rw[hb.cell (p:=⟨b,off+i*2+1,none⟩) hlt];exact h2,h3.below hb⟩
def Pl(w:World)(v:Value)(ts:List Tm):Prop:=
 ∃a cap,v=.slice a ts.length cap/\ts.length<=cap/\(0<ts.length->∃b off,a=some ⟨b,off,none⟩/\b<w.heap.size/\qW w b off ts)
theorem Pl.below{w w':World}{v:Value}{ts:List Tm}(h:Pl w v ts)(hb:Below w.heap.size w w'):Pl w' v ts:=by obtain⟨a,cap,rfl,hcap,h⟩:=h;refine⟨a,cap,rfl,hcap,λhp=>?_⟩;obtain⟨b,off,rfl,hlt,hc⟩:=h hp;exact⟨b,off,rfl,Lj hlt hb.size,hc.below hlt hb⟩
def qX(w:World)(b off:Nat)(fs:List (List Tm)):Prop:=
 ∀i,i<fs.length->∃v,w.cell? ⟨b,off+i,none⟩=some v/\Pl w v (fs.getD i [])
theorem qX.below{w w':World}{b off:Nat}{fs:List (List Tm)}(h:qX w b off fs)(hlt:b<w.heap.size)(hb:Below w.heap.size w w'):qX w' b off fs:=by intro i hi;obtain⟨v,hc,hs⟩:=h i hi;exact⟨v,by rw[hb.cell (p:=⟨b,off+i,none⟩) hlt];exact hc,hs.below hb⟩
def Vl(w:World)(v:Value)(fs:List (List Tm)):Prop:=
 ∃a cap,v=.slice a fs.length cap/\(0<fs.length->∃b off,a=some ⟨b,off,none⟩/\b<w.heap.size/\qX w b off fs)
theorem Vl.below{w w':World}{v:Value}{fs:List (List Tm)}(h:Vl w v fs)(hb:Below w.heap.size w w'):Vl w' v fs:=by obtain⟨a,cap,rfl,h⟩:=h;refine⟨a,cap,rfl,λhp=>?_⟩;obtain⟨b,off,rfl,hlt,hc⟩:=h hp;exact⟨b,off,rfl,Lj hlt hb.size,hc.below hlt hb⟩
end Go.Proofs.YteimdcndjjclnaaGreat
namespace Go.Proofs.YteimdcndjjclnaaGreat
open Go.Proofs.Tryz
set_option linter.all false
def cX(p:Int)(l m:List Tm):Prop:=∀φ,p∣am φ l-am φ m
theorem cX.refl(p:Int)(l:List Tm):cX p l l:=λφ=>⟨0,by omega⟩
theorem cX.symm{p:Int}{l m:List Tm}(h:cX p l m):cX p m l:=λφ=>by obtain⟨k,hk⟩:=h φ;exact⟨-k,by rw[Int.mul_neg,<-hk];omega⟩
theorem cX.trans{p:Int}{l m k:List Tm}(h:cX p l m)(h2:cX p m k):cX p l k:=λφ=>by obtain⟨a,ha⟩:=h φ;obtain⟨b,hb⟩:=h2 φ;exact⟨a+b,by rw[Int.mul_add,<-ha,<-hb];omega⟩
theorem cX.append{p:Int}{l m l2 m2:List Tm}(h:cX p l m)(h2:cX p l2 m2):cX p (l++l2) (m++m2):=λφ=>by obtain⟨a,ha⟩:=h φ;obtain⟨b,hb⟩:=h2 φ;exact⟨a+b,by rw[oR,oR,Int.mul_add,<-ha,<-hb];omega⟩
theorem qY(p o:Int)(l:List Tm):cX p (eL p o l) l:=λφ=>un p o φ l
theorem A7{p:Int}{φ ψ:List Int->Int}:∀{f:List Tm},(∀t∈f,p∣φ t.2-ψ t.2)->p∣am φ f-am ψ f
 |[],_=>⟨0,by simp[am]⟩
 |t::f,h=>by obtain⟨a,ha⟩:=h t (by simp);obtain⟨b,hb⟩:=A7 (f:=f) (λu hu=>h u (by simp[hu]));simp only[am];exact⟨t.1*a+b,by grind⟩
theorem cX.prodR{p:Int}(f:List Tm){g h:List Tm}(hs:cX p g h):cX p (cN p f g) (cN p f h):=λφ=>by
 obtain⟨a,ha⟩:=oS p φ g f;obtain⟨b,hb⟩:=oS p φ h f;obtain⟨c,hc⟩:=A7 (p:=p) (f:=f) (φ:=λx=>am (λb=>φ (bL (·+·) x b)) g) (ψ:=λx=>am (λb=>φ (bL (·+·) x b)) h) (λt _=>hs _)
 exact⟨a+c-b,by grind⟩
theorem A8(p:Int)(f g:List Tm):cX p (cN p f g) (cN p g f):=λφ=>by
 obtain⟨a,ha⟩:=oS p φ g f;obtain⟨b,hb⟩:=oS p φ f g;have e:am (λx=>am (λy=>φ (bL (·+·) x y)) g) f=am (λx=>am (λy=>φ (bL (·+·) x y)) f) g:=by rw[Jc];refine A6 (λt _=>A6 (λu _=>?_));rw[A5]
 exact⟨a-b,by rw[Int.mul_sub,<-ha,<-hb,e];omega⟩
theorem cX.prodL{p:Int}{f g:List Tm}(h:List Tm)(hs:cX p f g):cX p (cN p f h) (cN p g h):=
 (A8 p f h).trans ((cX.prodR h hs).trans (A8 p h g))
theorem Jd(p:Int)(f g h:List Tm):cN p (f++g) h=cN p f h++cN p g h:=by unfold Go.Proofs.YteimdcndjjclnaaGreat.cN;rw[List.flatMap_append]
structure eM(p:Int)(n:Nat)(l:List Tm):Prop where
 len:ep n l
 coef:∀t∈l,0<=t.1/\t.1<p
theorem dQ.okl{p o:Int}{n:Nat}{ts:List Tm}(h:dQ p o n ts):eM p n ts:=⟨h.len,λt ht=>by have:=h.coef t ht;omega⟩
theorem eM.append{p:Int}{n:Nat}{l m:List Tm}(h:eM p n l)(h2:eM p n m):eM p n (l++m):=
 ⟨λt ht=>(Lv.1 ht).elim (h.len t) (h2.len t),λt ht=>(Lv.1 ht).elim (h.coef t) (h2.coef t)⟩
theorem eM.prod{p:Int}{n:Nat}{l m:List Tm}(hp:2<=p)(h:eM p n l)(h2:eM p n m):eM p n (cN p l m):=by
 constructor
 .intro t ht;simp only[Go.Proofs.YteimdcndjjclnaaGreat.cN,iP,L7,LC] at ht;obtain⟨a,ha,b,hb,rfl⟩:=ht;simp only;rw[kF _ _ _ (by rw[h.len a ha,h2.len b hb]),h.len a ha]
 .intro t ht;simp only[Go.Proofs.YteimdcndjjclnaaGreat.cN,iP,L7,LC] at ht;obtain⟨a,ha,b,hb,rfl⟩:=ht;exact⟨Int.emod_nonneg _ (by omega),Int.emod_lt_of_pos _ (by omega)⟩
theorem eM.col{p o:Int}{n:Nat}{l:List Tm}(hp:2<=p)(h:eM p n l):dQ p o n (eL p o l):=uz hp h.len h.coef
theorem cX.col{p o:Int}{n:Nat}{l m:List Tm}(hp:2<=p)(hl:eM p n l)(hm:eM p n m)(h:cX p l m):eL p o l=eL p o m:=
 I8 hp hm.len hm.coef (hl.col hp) ((qY p o l).trans h)
theorem cX.canon{p o:Int}{n:Nat}{l m:List Tm}(hp:2<=p)(hl:dQ p o n l)(hm:dQ p o n m)(h:cX p l m):l=m:=
 uK hp l m hl hm (λe=>h (fN e))
theorem K7{p o:Int}{n:Nat}{f g h:List Tm}(hp:2<=p)(hf:eM p n f)(hg:eM p n g)(hh:eM p n h):eL p o (eL p o (cN p f h)++eL p o (cN p g h))=eL p o (cN p (eL p o (f++g)) h):=by refine cX.col hp (((hf.prod hp hh).col hp (o:=o)).okl.append ((hg.prod hp hh).col hp (o:=o)).okl) (((hf.append hg).col hp (o:=o)).okl.prod hp hh) ?_;refine((qY p o _).append (qY p o _)).trans ?_;rw[<-Jd];exact cX.prodL h (qY p o _).symm
def cC(p o:Int):List Tm->List Tm->List Tm
 |[],g=>g
 |t::f,[]=>t::f
 |t::f,u::g=>
  if 0<aJ o t.2 u.2 then t::cC p o f (u::g)
  else if aJ o t.2 u.2<0 then u::cC p o (t::f) g
  else if (t.1+u.1)%p≠0 then ((t.1+u.1)%p,t.2)::cC p o f g else cC p o f g
theorem m8(p o:Int)(g:List Tm):cC p o [] g=g:=by unfold cC;rfl
theorem nh(p o:Int)(f:List Tm):cC p o f []=f:=by cases f<;>(unfold cC;rfl)
theorem ni{p o:Int}{t u:Tm}{f g:List Tm}(h:0<aJ o t.2 u.2):cC p o (t::f) (u::g)=t::cC p o f (u::g):=by rw[cC.eq_def];simp[h]
theorem nj{p o:Int}{t u:Tm}{f g:List Tm}(h:aJ o t.2 u.2<0):cC p o (t::f) (u::g)=u::cC p o (t::f) g:=by rw[cC.eq_def];simp[h,show¬0<aJ o t.2 u.2 by omega]
theorem nl{p o:Int}{t u:Tm}{f g:List Tm}(h:aJ o t.2 u.2=0)(h2:(t.1+u.1)%p≠0):cC p o (t::f) (u::g)=((t.1+u.1)%p,t.2)::cC p o f g:=by rw[cC.eq_def];simp[h,h2]
theorem nr{p o:Int}{t u:Tm}{f g:List Tm}(h:aJ o t.2 u.2=0)(h2:(t.1+u.1)%p=0):cC p o (t::f) (u::g)=cC p o f g:=by rw[cC.eq_def];simp[h,h2]
theorem kX{o:Int}(P:List Tm->List Tm->Prop)(hl:∀g,P [] g)(hr:∀f,P f [])(h1:∀t f u g,0<aJ o t.2 u.2->P f (u::g)->P (t::f) (u::g))(h2:∀t f u g,aJ o t.2 u.2<0->P (t::f) g->P (t::f) (u::g))(h3:∀t f u g,aJ o t.2 u.2=0->P f g->P (t::f) (u::g)):∀(k:Nat)(f g:List Tm),f.length+g.length<=k->P f g
 |_,[],g,_=>hl g
 |_,t::f,[],_=>hr _
 |0,t::f,u::g,h=>by simp at h
 |k+1,t::f,u::g,h=>by
  simp only[LN] at h;by_cases a:0<aJ o t.2 u.2
  .exact h1 t f u g a (kX P hl hr h1 h2 h3 k f (u::g) (by simp only[LN];omega))
  .by_cases b:aJ o t.2 u.2<0
   .exact h2 t f u g b (kX P hl hr h1 h2 h3 k (t::f) g (by simp only[LN];omega))
   .exact h3 t f u g (by omega) (kX P hl hr h1 h2 h3 k f g (by omega))
theorem oT{p o:Int}(f g:List Tm):∀x∈cC p o f g,∃t∈f++g,x.2=t.2:=by
 refine kX (o:=o) (P:=λf g=>∀x∈cC p o f g,∃t∈f++g,x.2=t.2) ?_ ?_ ?_ ?_ ?_ _ f g (Lc _)
 .intro g x hx;rw[m8] at hx;exact⟨x,by simpa using hx,rfl⟩
 .intro f x hx;rw[nh] at hx;exact⟨x,by simpa using hx,rfl⟩
 .intro t f u g h ih x hx;rw[ni h] at hx;rcases LL.1 hx with rfl|hx
  .exact⟨x,by simp,rfl⟩
  .obtain⟨y,hy,e⟩:=ih x hx;exact⟨y,by simp at hy⊢;grind,e⟩
 .intro t f u g h ih x hx;rw[nj h] at hx;rcases LL.1 hx with rfl|hx
  .exact⟨x,by simp,rfl⟩
  .obtain⟨y,hy,e⟩:=ih x hx;exact⟨y,by simp at hy⊢;grind,e⟩
 .intro t f u g h ih x hx;by_cases hz:(t.1+u.1)%p=0
  .rw[nr h hz] at hx;obtain⟨y,hy,e⟩:=ih x hx;exact⟨y,by simp at hy⊢;grind,e⟩
  .rw[nl h hz] at hx;rcases LL.1 hx with rfl|hx
   .exact⟨t,by simp,rfl⟩
   .obtain⟨y,hy,e⟩:=ih x hx;exact⟨y,by simp at hy⊢;grind,e⟩
theorem Je{p o:Int}(f g:List Tm):(cC p o f g).length<=f.length+g.length:=by
 refine kX (o:=o) (P:=λf g=>(cC p o f g).length<=f.length+g.length) ?_ ?_ ?_ ?_ ?_ _ f g (Lc _)
 .intro g;rw[m8];simp
 .intro f;rw[nh];simp
 .intro t f u g h ih;rw[ni h];simp only[LN] at ih⊢;omega
 .intro t f u g h ih;rw[nj h];simp only[LN] at ih⊢;omega
 .intro t f u g h ih;by_cases hz:(t.1+u.1)%p=0
  .rw[nr h hz];simp only[LN];omega
  .rw[nl h hz];simp only[LN];omega
theorem Jf{p o:Int}{n:Nat}(f g:List Tm)(hf:ep n f)(hg:ep n g):cX p (cC p o f g) (f++g):=by
 intro φ;rw[oR];revert hf hg;refine kX (o:=o) (P:=λf g=>ep n f->ep n g->p∣am φ (cC p o f g)-(am φ f+am φ g)) ?_ ?_ ?_ ?_ ?_ _ f g (Lc _)
 .intro g _ _;rw[m8];simp[am]
 .intro f _ _;rw[nh];simp[am]
 .intro t f u g h ih hf hg;rw[ni h];simp only[am] at ih⊢;obtain⟨k,hk⟩:=ih (λx hx=>hf x (by simp[hx])) hg;exact⟨k,by omega⟩
 .intro t f u g h ih hf hg;rw[nj h];simp only[am] at ih⊢;obtain⟨k,hk⟩:=ih hf (λx hx=>hg x (by simp[hx]));exact⟨k,by omega⟩
 .intro t f u g h ih hf hg;have e:t.2=u.2:=(kf o t.2 u.2 (by rw[hf t (by simp),hg u (by simp)])).1 h;obtain⟨k,hk⟩:=ih (λx hx=>hf x (by simp[hx])) (λx hx=>hg x (by simp[hx]));obtain⟨m,hm⟩:=jx p (t.1+u.1);by_cases hz:(t.1+u.1)%p=0
  .rw[nr h hz];simp only[am];rw[<-e];rw[hz] at hm;exact⟨k+m*φ t.2,by grind⟩
  .rw[nl h hz];simp only[am];rw[<-e];exact⟨k+m*φ t.2,by grind⟩
theorem Jg{p o:Int}{n:Nat}(hp:2<=p)(f g:List Tm)(hf:dQ p o n f)(hg:dQ p o n g):dQ p o n (cC p o f g):=by
 have hlen:ep n (cC p o f g):=by intro x hx;obtain⟨t,ht,e⟩:=oT f g x hx;rw[e];exact(Lv.1 ht).elim (hf.len t) (hg.len t)
 refine⟨hlen,?_,?_⟩
 .have lf:=hf.len;have lg:=hg.len;have ff:=hf.falls;have fg:=hg.falls;clear hf hg hlen;revert lf lg ff fg;refine kX (o:=o) (P:=λf g=>ep n f->ep n g->gK o f->gK o g->gK o (cC p o f g)) ?_ ?_ ?_ ?_ ?_ _ f g (Lc _)
  .intro g _ _ _ h;rw[m8];exact h
  .intro f _ _ h _;rw[nh];exact h
  .intro t f u g h ih lf lg ff fg;rw[ni h];refine⟨λx hx=>?_,ih (λx hx=>lf x (by simp[hx])) lg ff.2 fg⟩;obtain⟨y,hy,e⟩:=oT f (u::g) x hx;rw[e];rcases Lv.1 hy with hy|hy
   .exact ff.1 y hy
   .rcases LL.1 hy with rfl|hy
    .exact h
    .exact mL o t.2 u.2 y.2 (by rw[lf t (by simp),lg u (by simp)]) (by rw[lg u (by simp),lg y (by simp[hy])]) h (fg.1 y hy)
  .intro t f u g h ih lf lg ff fg;rw[nj h];have h':0<aJ o u.2 t.2:=by have:=qg o u.2 t.2;omega
   refine⟨λx hx=>?_,ih lf (λx hx=>lg x (by simp[hx])) ff fg.2⟩;obtain⟨y,hy,e⟩:=oT (t::f) g x hx;rw[e];rcases Lv.1 hy with hy|hy
   .rcases LL.1 hy with rfl|hy
    .exact h'
    .exact mL o u.2 t.2 y.2 (by rw[lf t (by simp),lg u (by simp)]) (by rw[lf t (by simp),lf y (by simp[hy])]) h' (ff.1 y hy)
   .exact fg.1 y hy
  .intro t f u g h ih lf lg ff fg;have e0:t.2=u.2:=(kf o t.2 u.2 (by rw[lf t (by simp),lg u (by simp)])).1 h;have ih':=ih (λx hx=>lf x (by simp[hx])) (λx hx=>lg x (by simp[hx])) ff.2 fg.2;by_cases hz:(t.1+u.1)%p=0
   .rw[nr h hz];exact ih'
   .rw[nl h hz];refine⟨λx hx=>?_,ih'⟩;obtain⟨y,hy,e⟩:=oT f g x hx;simp only;rw[e];rcases Lv.1 hy with hy|hy
    .exact ff.1 y hy
    .rw[e0];exact fg.1 y hy
 .have cf:=hf.coef;have cg:=hg.coef;clear hf hg hlen;revert cf cg;refine kX (o:=o) (P:=λf g=>(∀t∈f,1<=t.1/\t.1<p)->(∀t∈g,1<=t.1/\t.1<p)->∀t∈cC p o f g,1<=t.1/\t.1<p) ?_ ?_ ?_ ?_ ?_ _ f g (Lc _)
  .intro g _ h;rw[m8];exact h
  .intro f h _;rw[nh];exact h
  .intro t f u g h ih cf cg x hx;rw[ni h] at hx;rcases LL.1 hx with rfl|hx
   .exact cf x (by simp)
   .exact ih (λx hx=>cf x (by simp[hx])) cg x hx
  .intro t f u g h ih cf cg x hx;rw[nj h] at hx;rcases LL.1 hx with rfl|hx
   .exact cg x (by simp)
   .exact ih cf (λx hx=>cg x (by simp[hx])) x hx
  .intro t f u g h ih cf cg x hx;have ih':=ih (λx hx=>cf x (by simp[hx])) (λx hx=>cg x (by simp[hx]));by_cases hz:(t.1+u.1)%p=0
   .rw[nr h hz] at hx;exact ih' x hx
   .rw[nl h hz] at hx;rcases LL.1 hx with rfl|hx
    .have h1:=Int.emod_nonneg (t.1+u.1) (show p≠0 by omega);have h2:=Int.emod_lt_of_pos (t.1+u.1) (show 0<p by omega);simp only;omega
    .exact ih' x hx
theorem Jh{p a b:Nat}(h:dH p p=true)(ha:0<a)(ha2:a<p)(hb:0<b)(hb2:b<p):a*b%p≠0:=by
 intro hz;have hd:=Nat.dvd_of_mod_eq_zero hz;have hc:Nat.Coprime p a:=by have h1:=Nat.gcd_dvd_left p a;have h3:Nat.gcd p a<=a:=Nat.le_of_dvd ha (Nat.gcd_dvd_right p a);have h4:0<Nat.gcd p a:=Nat.gcd_pos_of_pos_right p ha;unfold dH at h;rw[List.all_eq_true] at h;have h5:=h (Nat.gcd p a) (List.mem_range.2 (by omega));rw[Nat.mod_eq_zero_of_dvd h1] at h5;simp at h5;show Nat.gcd p a=1;omega
 have:=Nat.le_of_dvd hb (hc.dvd_of_dvd_mul_left hd);omega
theorem sH{p a b:Int}(h:bm p=0)(ha:1<=a)(ha2:a<p)(hb:1<=b)(hb2:b<p):1<=a*b%p/\a*b%p<p:=by
 have h0:dH p.toNat p.toNat=true:=by
  unfold bm at h;by_cases h1:p<2\/101<p
  .rw[LI h1] at h;omega
  .rw[LH h1] at h;cases hq:kA p
   .rw[hq] at h;simp at h
   .exact hq
 have h1:=Jh h0 (a:=a.toNat) (b:=b.toNat) (by omega) (by omega) (by omega) (by omega);have e:a*b%p=((a.toNat*b.toNat%p.toNat:Nat):Int):=by rw[Int.natCast_emod,Int.natCast_mul,Int.toNat_of_nonneg (by omega),Int.toNat_of_nonneg (by omega),Int.toNat_of_nonneg (by omega)]
 have h2:=Int.emod_lt_of_pos (a*b) (show 0<p by omega);omega
theorem fq{p:Int}(h:bm p=0):2<=p/\p<=101:=by
 unfold bm at h;by_cases h1:p<2\/101<p
 .rw[LI h1] at h;omega
 .omega
def kn(F:Nat->List Tm)(a k:Nat):List Tm:=(List.range' a k).flatMap F
theorem Ji(F:Nat->List Tm)(a k m:Nat):kn F a (k+m)=kn F a k++kn F (a+k) m:=by unfold kn;rw[<-List.range'_append_1,List.flatMap_append]
end Go.Proofs.YteimdcndjjclnaaGreat
