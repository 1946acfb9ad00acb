/- Plain mathematics of polynomials: terms put where they belong; what is told by a polynomial tells it. -/
import Derived.Test.YtglijodcbdcngaaGreatH
namespace Go.Proofs.YtglijodcbdcngaaGreat
open Go.Proofs.Tryz
set_option linter.unusedSimpArgs false
set_option linter.unusedVariables false
abbrev Tm:=Int×List Int
def bA(p o:Int):List Tm->Tm->List Tm
 |[],t=>[t]
 |u::out,t=>if 0<aF o u.2 t.2 then u::bA p o out t else if u.2=t.2 then ((u.1+t.1)%p,u.2)::out else t::u::out
def aG(p o:Int)(l:List Tm):List Tm:=(l.foldl (bA p o) []).filter λt=>t.1%p !=0
def aj(φ:List Int->Int):List Tm->Int
 |[]=>0
 |t::ts=>t.1*φ t.2+aj φ ts
theorem iV(φ:List Int->Int):∀ts us:List Tm,aj φ (ts++us)=aj φ ts+aj φ us
 |[],us=>by simp[aj]
 |t::ts,us=>by simp only[List.cons_append,aj];rw[iV φ ts us];omega
theorem gC(p x:Int):p∣x%p-x:=⟨-(x/p),by rw[Int.emod_def];grind⟩
theorem xw(p o:Int)(φ:List Int->Int)(t:Tm):∀out:List Tm,p∣aj φ (bA p o out t)-(aj φ out+t.1*φ t.2)
 |[]=>by simp[bA,aj]
 |u::out=>by
  simp only[bA];split
  ·simp only[aj];have:=xw p o φ t out;have e:u.1*φ u.2+aj φ (bA p o out t)-(u.1*φ u.2+aj φ out+t.1*φ t.2)=aj φ (bA p o out t)-(aj φ out+t.1*φ t.2):=by omega
   rw[e];exact this
  ·split
   ·rename_i _ h;simp only[aj];obtain⟨k,hk⟩:=gC p (u.1+t.1);rw[<-h];exact⟨k*φ u.2,by grind⟩
   ·simp only[aj];exact⟨0,by omega⟩
theorem xy(p o:Int)(φ:List Int->Int):∀(l out:List Tm),p∣aj φ (l.foldl (bA p o) out)-(aj φ out+aj φ l)
 |[],out=>by simp[aj]
 |t::l,out=>by
  simp only[List.foldl_cons,aj];have h1:=xy p o φ l (bA p o out t);have h2:=xw p o φ t out;have h3:=Int.dvd_add h1 h2;have e:aj φ (l.foldl (bA p o) (bA p o out t))-(aj φ (bA p o out t)+aj φ l)+(aj φ (bA p o out t)-(aj φ out+t.1*φ t.2))=aj φ (l.foldl (bA p o) (bA p o out t))-(aj φ out+(t.1*φ t.2+aj φ l)):=by omega
  rw[e] at h3;exact h3
theorem xA(p:Int)(φ:List Int->Int):∀ts:List Tm,p∣aj φ (ts.filter λt=>t.1%p !=0)-aj φ ts
 |[]=>by simp[aj]
 |t::ts=>by
  have h:=xA p φ ts;by_cases ht:t.1%p=0
  ·have e:(t::ts).filter (λt=>t.1%p !=0)=ts.filter λt=>t.1%p !=0:=by simp[List.filter_cons,ht]
   rw[e];simp only[aj];obtain⟨k,hk⟩:=h;obtain⟨m,hm⟩:=Int.dvd_of_emod_eq_zero ht;exact⟨k-m*φ t.2,by grind⟩
  ·have e:(t::ts).filter (λt=>t.1%p !=0)=t::ts.filter λt=>t.1%p !=0:=by simp[List.filter_cons,ht]
   rw[e];simp only[aj];have e2:t.1*φ t.2+aj φ (ts.filter λt=>t.1%p !=0)-(t.1*φ t.2+aj φ ts)=aj φ (ts.filter λt=>t.1%p !=0)-aj φ ts:=by omega
   rw[e2];exact h
theorem jx(p o:Int)(φ:List Int->Int)(l:List Tm):p∣aj φ (aG p o l)-aj φ l:=by
 unfold aG;have h1:=xA p φ (l.foldl (bA p o) []);have h2:=xy p o φ l [];have h3:=Int.dvd_add h1 h2;simp only[aj,Int.zero_add] at h3;have e:∀a b c:Int,a-b+(b-c)=a-c:=λa b c=>by omega
 rw[e] at h3;exact h3
def fw(o:Int):List Tm->Prop
 |[]=>True
 |t::ts=>(∀u∈ts,0<aF o t.2 u.2)/\fw o ts
def cT(n:Nat)(ts:List Tm):Prop:=∀t∈ts,t.2.length=n
theorem m8{p o:Int}{t:Tm}:∀{out:List Tm}{x:Tm},x∈bA p o out t->x.2=t.2\/∃u∈out,x.2=u.2
 |[],x,h=>by simp[bA] at h;exact Or.inl (by rw[h])
 |u::out,x,h=>by
  simp only[bA] at h;split at h
  ·simp only[List.mem_cons] at h;rcases h with rfl|h
   ·exact Or.inr ⟨x,by simp,rfl⟩
   ·rcases m8 h with h|⟨y,hy,h⟩
    ·exact Or.inl h
    ·exact Or.inr ⟨y,by simp[hy],h⟩
  ·split at h
   ·simp only[List.mem_cons] at h;rcases h with rfl|h
    ·exact Or.inr ⟨u,by simp,rfl⟩
    ·exact Or.inr ⟨x,by simp[h],rfl⟩
   ·simp only[List.mem_cons] at h;rcases h with rfl|rfl|h
    ·exact Or.inl rfl
    ·exact Or.inr ⟨x,by simp,rfl⟩
    ·exact Or.inr ⟨x,by simp[h],rfl⟩
theorem Ey{p o:Int}{n:Nat}{t:Tm}{out:List Tm}(h:cT n out)(ht:t.2.length=n):cT n (bA p o out t):=by
 intro x hx;rcases m8 hx with h1|⟨u,hu,h1⟩
 ·rw[h1];exact ht
 ·rw[h1];exact h u hu
theorem xB{p o:Int}{n:Nat}{t:Tm}(ht:t.2.length=n):∀{out:List Tm},cT n out->fw o out->fw o (bA p o out t)
 |[],_,_=>⟨by simp,trivial⟩
 |u::out,hl,⟨h1,h2⟩=>by
  have hu:u.2.length=n:=hl u (by simp);have hlo:cT n out:=λx hx=>hl x (by simp[hx]);simp only[bA];by_cases hm:0<aF o u.2 t.2
  ·rw[if_pos hm];refine⟨λx hx=>?_,xB ht hlo h2⟩;rcases m8 hx with h|⟨y,hy,h⟩
   ·rw[h];exact hm
   ·rw[h];exact h1 y hy
  ·rw[if_neg hm];by_cases he:u.2=t.2
   ·rw[if_pos he];exact⟨h1,h2⟩
   ·rw[if_neg he];have hz:=fj o u.2 t.2 (by omega);have hneg:=kA o u.2 t.2;have htu:0<aF o t.2 u.2:=by have:aF o u.2 t.2≠0:=λe=>he (hz.1 e);omega
    refine⟨λx hx=>?_,h1,h2⟩;simp only[List.mem_cons] at hx;rcases hx with rfl|hx
    ·exact htu
    ·exact jQ o t.2 u.2 x.2 (by omega) (by rw[hlo x hx];exact hu) htu (h1 x hx)
theorem xC{p o:Int}{n:Nat}:∀(l out:List Tm),cT n l->cT n out->fw o out->cT n (l.foldl (bA p o) out)/\fw o (l.foldl (bA p o) out)
 |[],out,_,ho,hf=>⟨ho,hf⟩
 |t::l,out,hl,ho,hf=>xC l (bA p o out t) (λx hx=>hl x (by simp[hx])) (Ey ho (hl t (by simp))) (xB (hl t (by simp)) ho hf)
theorem rK{o:Int}(f:Tm->Bool):∀{ts:List Tm},fw o ts->fw o (ts.filter f)
 |[],_=>trivial
 |t::ts,⟨h1,h2⟩=>by
  simp only[List.filter_cons];split
  ·exact⟨λu hu=>h1 u (List.mem_filter.1 hu).1,rK f h2⟩
  ·exact rK f h2
theorem rL{p o:Int}(hp:2<=p){t:Tm}(ht:0<=t.1/\t.1<p):∀{out:List Tm},(∀u∈out,0<=u.1/\u.1<p)->∀x∈bA p o out t,0<=x.1/\x.1<p
 |[],_,x,hx=>by simp[bA] at hx;rw[hx];exact ht
 |u::out,h,x,hx=>by
  simp only[bA] at hx;split at hx
  ·simp only[List.mem_cons] at hx;rcases hx with rfl|hx
   ·exact h x (by simp)
   ·exact rL hp ht (λy hy=>h y (by simp[hy])) x hx
  ·split at hx
   ·simp only[List.mem_cons] at hx;rcases hx with rfl|hx
    ·exact⟨Int.emod_nonneg _ (by omega),Int.emod_lt_of_pos _ (by omega)⟩
    ·exact h x (by simp[hx])
   ·simp only[List.mem_cons] at hx;rcases hx with rfl|rfl|hx
    ·exact ht
    ·exact h x (by simp)
    ·exact h x (by simp[hx])
theorem xD{p o:Int}(hp:2<=p):∀(l out:List Tm),(∀u∈l,0<=u.1/\u.1<p)->(∀u∈out,0<=u.1/\u.1<p)->∀x∈l.foldl (bA p o) out,0<=x.1/\x.1<p
 |[],out,_,ho=>ho
 |t::l,out,hl,ho=>xD hp l (bA p o out t) (λx hx=>hl x (by simp[hx])) (rL hp (hl t (by simp)) ho)
structure bk(p o:Int)(n:Nat)(ts:List Tm):Prop where
 len:cT n ts
 falls:fw o ts
 coef:∀t∈ts,1<=t.1/\t.1<p
theorem rl{p o:Int}{n:Nat}(hp:2<=p){l:List Tm}(hl:cT n l)(hc:∀t∈l,0<=t.1/\t.1<p):bk p o n (aG p o l):=by
 have h:=xC (p:=p) (o:=o) (n:=n) l [] hl (λx hx=>by simp at hx) trivial;have hr:=xD (o:=o) hp l [] hc (λx hx=>by simp at hx);refine⟨λt ht=>h.1 t (List.mem_filter.1 ht).1,rK _ h.2,λt ht=>?_⟩;unfold aG at ht;rw[List.mem_filter] at ht;have h1:=hr t ht.1;have h2:t.1%p≠0:=by simpa using ht.2
 have h3:t.1≠0:=λe=>h2 (by rw[e];simp);omega
def ed(e:List Int):List Int->Int:=λx=>if x=e then 1 else 0
theorem lY{e:List Int}:∀{ts:List Tm},(∀t∈ts,t.2≠e)->aj (ed e) ts=0
 |[],_=>rfl
 |t::ts,h=>by simp only[aj];rw[lY (λu hu=>h u (by simp[hu]))];unfold ed;rw[if_neg (h t (by simp))];simp
theorem nf{o:Int}{n:Nat}{t:Tm}{ts:List Tm}(hl:cT n (t::ts))(hf:fw o (t::ts)):∀u∈ts,u.2≠t.2:=by intro u hu e;have h1:=hf.1 u hu;have:=(fj o t.2 u.2 (by rw[hl t (by simp),hl u (by simp[hu])])).2 e.symm;omega
theorem lZ{o:Int}{n:Nat}{t:Tm}{ts:List Tm}(hl:cT n (t::ts))(hf:fw o (t::ts)):aj (ed t.2) (t::ts)=t.1:=by show t.1*ed t.2 t.2+aj (ed t.2) ts=t.1;rw[lY (nf hl hf)];unfold ed;rw[if_pos rfl];omega
theorem rM{p a:Int}(h:p∣0-a):p∣a:=by obtain⟨k,hk⟩:=h;exact⟨-k,by rw[Int.mul_neg,<-hk];omega⟩
theorem xE{p a:Int}(h:p∣a-0):p∣a:=by rwa [Int.sub_zero] at h
theorem rN{p o:Int}{n:Nat}(hp:2<=p):∀(ts us:List Tm),bk p o n ts->bk p o n us->(∀e,p∣aj (ed e) ts-aj (ed e) us)->ts=us
 |[],[],_,_,_=>rfl
 |[],u::us,_,hu,h=>by have h1:=h u.2;rw[lZ hu.len hu.falls] at h1;have h2:=hu.coef u (by simp);have:=Int.le_of_dvd (by omega) (rM h1);omega
 |t::ts,[],ht,_,h=>by have h1:=h t.2;rw[lZ ht.len ht.falls] at h1;have h2:=ht.coef t (by simp);have:=Int.le_of_dvd (by omega) (xE h1);omega
 |t::ts,u::us,ht,hu,h=>by
  have tc:=ht.coef t (by simp);have uc:=hu.coef u (by simp);have tl:=ht.len t (by simp);have ul:=hu.len u (by simp);have hts:bk p o n ts:=⟨λx hx=>ht.len x (by simp[hx]),ht.falls.2,λx hx=>ht.coef x (by simp[hx])⟩;have hus:bk p o n us:=⟨λx hx=>hu.len x (by simp[hx]),hu.falls.2,λx hx=>hu.coef x (by simp[hx])⟩;have hsame:t.2=u.2:=by
   apply Classical.byContradiction;intro hne;have hz:=fj o t.2 u.2 (by omega);have hg:=kA o t.2 u.2;have hnz:aF o t.2 u.2≠0:=λe=>hne (hz.1 e);by_cases hlt:0<aF o t.2 u.2
   ·have h1:=h t.2;have hn:∀x∈u::us,x.2≠t.2:=by
     intro x hx e;simp only[List.mem_cons] at hx;rcases hx with rfl|hx
     ·exact hne e.symm
     ·have h2:=hu.falls.1 x hx;have h3:=jQ o t.2 u.2 x.2 (by omega) (by rw[ul,hu.len x (by simp[hx])]) hlt h2;have h4:=(fj o t.2 x.2 (by rw[tl,hu.len x (by simp[hx])])).2 e.symm;omega
    rw[lY hn,lZ ht.len ht.falls] at h1;have:=Int.le_of_dvd (by omega) (xE h1);omega
   ·have hlt2:0<aF o u.2 t.2:=by omega
    have h1:=h u.2;have hn:∀x∈t::ts,x.2≠u.2:=by
     intro x hx e;simp only[List.mem_cons] at hx;rcases hx with rfl|hx
     ·exact hne e
     ·have h2:=ht.falls.1 x hx;have h3:=jQ o u.2 t.2 x.2 (by omega) (by rw[tl,ht.len x (by simp[hx])]) hlt2 h2;have h4:=(fj o u.2 x.2 (by rw[ul,ht.len x (by simp[hx])])).2 e.symm;omega
    rw[lY hn,lZ hu.len hu.falls] at h1;have:=Int.le_of_dvd (by omega) (rM h1);omega
  have hcoef:t.1=u.1:=by
   have h2:=h t.2;rw[lZ ht.len ht.falls,hsame,lZ hu.len hu.falls] at h2;by_cases hd:t.1-u.1=0
   ·omega
   ·by_cases hd2:0<t.1-u.1
    ·have:=Int.le_of_dvd hd2 h2;omega
    ·have h3:p∣u.1-t.1:=by obtain⟨k,hk⟩:=h2;exact⟨-k,by rw[Int.mul_neg,<-hk];omega⟩
     have:=Int.le_of_dvd (by omega) h3;omega
  have htu:t=u:=Prod.ext hcoef hsame;subst htu;congr 1;refine rN hp ts us hts hus (λe=>?_);have h1:=h e;simp only[aj] at h1;have e2:t.1*ed e t.2+aj (ed e) ts-(t.1*ed e t.2+aj (ed e) us)=aj (ed e) ts-aj (ed e) us:=by omega
  rwa [e2] at h1
theorem oM{p o:Int}{n:Nat}(hp:2<=p){l ts:List Tm}(hl:cT n l)(hc:∀t∈l,0<=t.1/\t.1<p)(ht:bk p o n ts)(h:∀φ,p∣aj φ ts-aj φ l):ts=aG p o l:=by refine rN hp ts (aG p o l) ht (rl hp hl hc) (λe=>?_);obtain⟨a,ha⟩:=h (ed e);obtain⟨b,hb⟩:=jx p o (ed e) l;exact⟨a-b,by rw[Int.mul_sub,<-ha,<-hb];omega⟩
def aT(p:Int)(t:Tm)(g:List Tm):List Tm:=g.map λu=>(t.1*u.1%p,ah (·+·) t.2 u.2)
def aB(p:Int)(f g:List Tm):List Tm:=f.flatMap λt=>aT p t g
theorem lV(p:Int)(φ:List Int->Int)(t:Tm):∀g:List Tm,p∣aj φ (aT p t g)-t.1*aj (λb=>φ (ah (·+·) t.2 b)) g
 |[]=>by simp[aT,aj]
 |u::g=>by
  have h:=lV p φ t g;have e:aT p t (u::g)=(t.1*u.1%p,ah (·+·) t.2 u.2)::aT p t g:=rfl
  rw[e];simp only[aj];obtain⟨k,hk⟩:=h;obtain⟨m,hm⟩:=gC p (t.1*u.1);exact⟨k+m*φ (ah (·+·) t.2 u.2),by grind⟩
theorem nh(p:Int)(φ:List Int->Int)(g:List Tm):∀f:List Tm,p∣aj φ (aB p f g)-aj (λa=>aj (λb=>φ (ah (·+·) a b)) g) f
 |[]=>by simp[aB,aj]
 |t::f=>by
  have h:=nh p φ g f;have e:aB p (t::f) g=aT p t g++aB p f g:=rfl;rw[e,iV];simp only[aj];have h2:=lV p φ t g;have h3:=Int.dvd_add h2 h;have e2:∀a b c d:Int,a-b+(c-d)=a+c-(b+d):=λa b c d=>by omega
  rw[e2] at h3;exact h3
theorem Ez(f:List Tm):aj (λ_=>0) f=0:=by
 induction f with
 |nil=>rfl
 |cons t f ih=>simp only[aj];rw[ih];simp
theorem EA(φ ψ:List Int->Int)(f:List Tm):aj (λa=>φ a+ψ a) f=aj φ f+aj ψ f:=by
 induction f with
 |nil=>rfl
 |cons t f ih=>simp only[aj];rw[ih];grind
theorem EB(c:Int)(φ:List Int->Int)(f:List Tm):aj (λa=>c*φ a) f=c*aj φ f:=by
 induction f with
 |nil=>simp[aj]
 |cons t f ih=>simp only[aj];rw[ih];grind
theorem EC(F:List Int->List Int->Int)(f g:List Tm):aj (λa=>aj (λb=>F a b) g) f=aj (λb=>aj (λa=>F a b) f) g:=by
 induction g with
 |nil=>simp only[aj];exact Ez f
 |cons u g ih=>simp only[aj];rw[EA,ih,EB]
theorem ki:∀a b:List Int,ah (·+·) a b=ah (·+·) b a
 |[],[]=>rfl
 |[],_::_=>rfl
 |_::_,[]=>rfl
 |x::a,y::b=>by simp only[ah];rw[ki a b,Int.add_comm]
theorem rO{φ ψ:List Int->Int}{f:List Tm}(h:∀t∈f,φ t.2=ψ t.2):aj φ f=aj ψ f:=by
 induction f with
 |nil=>rfl
 |cons t f ih=>simp only[aj];rw[h t (by simp),ih (λu hu=>h u (by simp[hu]))]
end Go.Proofs.YtglijodcbdcngaaGreat
namespace Go.Proofs.YtglijodcbdcngaaGreat
set_option linter.unusedSimpArgs false
set_option linter.unusedVariables false
open Go.Proofs.Tryz Go.RowKit
def aM:Tm:=(0,[])
def oU(w:World)(b off:Nat)(ts:List Tm):Prop:=
 ∀i,i<ts.length->w.cell? ⟨b,off+i*2,none⟩=some (.int .i64 (ts.getD i aM).1)/\∃v,w.cell? ⟨b,off+i*2+1,none⟩=some v/\Sl w v (ts.getD i aM).2
theorem oU.below{w w':World}{b off:Nat}{ts:List Tm}(h:oU w b off ts)(hlt:b<w.heap.size)(hb:Below w.heap.size w w'):oU w' b off ts:=by intro i hi;obtain⟨h1,v,h2,h3⟩:=h i hi;exact⟨by rw[hb.cell (p:=⟨b,off+i*2,none⟩) hlt];exact h1,v,by rw[hb.cell (p:=⟨b,off+i*2+1,none⟩) hlt];exact h2,h3.below hb⟩
def Pl(w:World)(v:Value)(ts:List Tm):Prop:=
 ∃a cap,v=.slice a ts.length cap/\ts.length<=cap/\(0<ts.length->∃b off,a=some ⟨b,off,none⟩/\b<w.heap.size/\oU w b off ts)
theorem Pl.below{w w':World}{v:Value}{ts:List Tm}(h:Pl w v ts)(hb:Below w.heap.size w w'):Pl w' v ts:=by obtain⟨a,cap,rfl,hcap,h⟩:=h;refine⟨a,cap,rfl,hcap,λhp=>?_⟩;obtain⟨b,off,rfl,hlt,hc⟩:=h hp;exact⟨b,off,rfl,Hj hlt hb.size,hc.below hlt hb⟩
theorem Pl.empty(w:World):Pl w (.slice none 0 0) []:=⟨none,0,rfl,He _,λh=>absurd h (by simp)⟩
def oV(w:World)(b off:Nat)(fs:List (List Tm)):Prop:=
 ∀i,i<fs.length->∃v,w.cell? ⟨b,off+i,none⟩=some v/\Pl w v (fs.getD i [])
theorem oV.below{w w':World}{b off:Nat}{fs:List (List Tm)}(h:oV w b off fs)(hlt:b<w.heap.size)(hb:Below w.heap.size w w'):oV w' b off fs:=by intro i hi;obtain⟨v,hc,hs⟩:=h i hi;exact⟨v,by rw[hb.cell (p:=⟨b,off+i,none⟩) hlt];exact hc,hs.below hb⟩
def Vl(w:World)(v:Value)(fs:List (List Tm)):Prop:=
 ∃a cap,v=.slice a fs.length cap/\(0<fs.length->∃b off,a=some ⟨b,off,none⟩/\b<w.heap.size/\oV w b off fs)
theorem Vl.below{w w':World}{v:Value}{fs:List (List Tm)}(h:Vl w v fs)(hb:Below w.heap.size w w'):Vl w' v fs:=by obtain⟨a,cap,rfl,h⟩:=h;refine⟨a,cap,rfl,λhp=>?_⟩;obtain⟨b,off,rfl,hlt,hc⟩:=h hp;exact⟨b,off,rfl,Hj hlt hb.size,hc.below hlt hb⟩
end Go.Proofs.YtglijodcbdcngaaGreat
namespace Go.Proofs.YtglijodcbdcngaaGreat
open Go.Proofs.Tryz
set_option linter.unusedSimpArgs false
set_option linter.unusedVariables false
def bT(p:Int)(l m:List Tm):Prop:=∀φ,p∣aj φ l-aj φ m
theorem bT.refl(p:Int)(l:List Tm):bT p l l:=λφ=>⟨0,by omega⟩
theorem bT.symm{p:Int}{l m:List Tm}(h:bT p l m):bT p m l:=λφ=>by obtain⟨k,hk⟩:=h φ;exact⟨-k,by rw[Int.mul_neg,<-hk];omega⟩
theorem bT.trans{p:Int}{l m k:List Tm}(h:bT p l m)(h2:bT p m k):bT p l k:=λφ=>by obtain⟨a,ha⟩:=h φ;obtain⟨b,hb⟩:=h2 φ;exact⟨a+b,by rw[Int.mul_add,<-ha,<-hb];omega⟩
theorem bT.append{p:Int}{l m l2 m2:List Tm}(h:bT p l m)(h2:bT p l2 m2):bT p (l++l2) (m++m2):=λφ=>by obtain⟨a,ha⟩:=h φ;obtain⟨b,hb⟩:=h2 φ;exact⟨a+b,by rw[iV,iV,Int.mul_add,<-ha,<-hb];omega⟩
theorem ni(p o:Int)(l:List Tm):bT p (aG p o l) l:=λφ=>jx p o φ l
theorem xF{p:Int}{φ ψ:List Int->Int}:∀{f:List Tm},(∀t∈f,p∣φ t.2-ψ t.2)->p∣aj φ f-aj ψ f
 |[],_=>⟨0,by simp[aj]⟩
 |t::f,h=>by obtain⟨a,ha⟩:=h t (by simp);obtain⟨b,hb⟩:=xF (f:=f) (λu hu=>h u (by simp[hu]));simp only[aj];exact⟨t.1*a+b,by grind⟩
theorem bT.prodR{p:Int}(f:List Tm){g h:List Tm}(hs:bT p g h):bT p (aB p f g) (aB p f h):=λφ=>by
 obtain⟨a,ha⟩:=nh p φ g f;obtain⟨b,hb⟩:=nh p φ h f;obtain⟨c,hc⟩:=xF (p:=p) (f:=f) (φ:=λx=>aj (λb=>φ (ah (·+·) x b)) g) (ψ:=λx=>aj (λb=>φ (ah (·+·) x b)) h) (λt _=>hs _)
 exact⟨a+c-b,by grind⟩
theorem rP(p:Int)(f g:List Tm):bT p (aB p f g) (aB p g f):=λφ=>by
 obtain⟨a,ha⟩:=nh p φ g f;obtain⟨b,hb⟩:=nh p φ f g;have e:aj (λx=>aj (λy=>φ (ah (·+·) x y)) g) f=aj (λx=>aj (λy=>φ (ah (·+·) x y)) f) g:=by rw[EC];refine rO (λt _=>rO (λu _=>?_));rw[ki]
 exact⟨a-b,by rw[Int.mul_sub,<-ha,<-hb,e];omega⟩
theorem bT.prodL{p:Int}{f g:List Tm}(h:List Tm)(hs:bT p f g):bT p (aB p f h) (aB p g h):=
 (rP p f h).trans ((bT.prodR h hs).trans (rP p h g))
theorem xG(p:Int)(f g h:List Tm):aB p (f++g) h=aB p f h++aB p g h:=by unfold Go.Proofs.YtglijodcbdcngaaGreat.aB;rw[List.flatMap_append]
structure cP(p:Int)(n:Nat)(l:List Tm):Prop where
 len:cT n l
 coef:∀t∈l,0<=t.1/\t.1<p
theorem bk.okl{p o:Int}{n:Nat}{ts:List Tm}(h:bk p o n ts):cP p n ts:=⟨h.len,λt ht=>by have:=h.coef t ht;omega⟩
theorem cP.append{p:Int}{n:Nat}{l m:List Tm}(h:cP p n l)(h2:cP p n m):cP p n (l++m):=
 ⟨λt ht=>(Hv.1 ht).elim (h.len t) (h2.len t),λt ht=>(Hv.1 ht).elim (h.coef t) (h2.coef t)⟩
theorem cP.prod{p:Int}{n:Nat}{l m:List Tm}(hp:2<=p)(h:cP p n l)(h2:cP p n m):cP p n (aB p l m):=by
 constructor
 ·intro t ht;simp only[Go.Proofs.YtglijodcbdcngaaGreat.aB,aT,List.mem_flatMap,H8] at ht;obtain⟨a,ha,b,hb,rfl⟩:=ht;simp only;rw[eP _ _ _ (by rw[h.len a ha,h2.len b hb]),h.len a ha]
 ·intro t ht;simp only[Go.Proofs.YtglijodcbdcngaaGreat.aB,aT,List.mem_flatMap,H8] at ht;obtain⟨a,ha,b,hb,rfl⟩:=ht;exact⟨Int.emod_nonneg _ (by omega),Int.emod_lt_of_pos _ (by omega)⟩
theorem cP.col{p o:Int}{n:Nat}{l:List Tm}(hp:2<=p)(h:cP p n l):bk p o n (aG p o l):=rl hp h.len h.coef
theorem bT.col{p o:Int}{n:Nat}{l m:List Tm}(hp:2<=p)(hl:cP p n l)(hm:cP p n m)(h:bT p l m):aG p o l=aG p o m:=
 oM hp hm.len hm.coef (hl.col hp) ((ni p o l).trans h)
theorem bT.canon{p o:Int}{n:Nat}{l m:List Tm}(hp:2<=p)(hl:bk p o n l)(hm:bk p o n m)(h:bT p l m):l=m:=
 rN hp l m hl hm (λe=>h (ed e))
theorem ED{p o:Int}{n:Nat}{f g:List Tm}(hp:2<=p)(hf:cP p n f)(hg:cP p n g):aG p o (aB p f g)=aG p o (aB p g f):=
 bT.col hp (hf.prod hp hg) (hg.prod hp hf) (rP p f g)
theorem G9{p o:Int}{n:Nat}{f g h:List Tm}(hp:2<=p)(hf:cP p n f)(hg:cP p n g)(hh:cP p n h):aG p o (aG p o (aB p f h)++aG p o (aB p g h))=aG p o (aB p (aG p o (f++g)) h):=by refine bT.col hp (((hf.prod hp hh).col hp (o:=o)).okl.append ((hg.prod hp hh).col hp (o:=o)).okl) (((hf.append hg).col hp (o:=o)).okl.prod hp hh) ?_;refine((ni p o _).append (ni p o _)).trans ?_;rw[<-xG];exact bT.prodL h (ni p o _).symm
def bZ(p o:Int):List Tm->List Tm->List Tm
 |[],g=>g
 |t::f,[]=>t::f
 |t::f,u::g=>
  if 0<aF o t.2 u.2 then t::bZ p o f (u::g)
  else if aF o t.2 u.2<0 then u::bZ p o (t::f) g
  else if (t.1+u.1)%p≠0 then ((t.1+u.1)%p,t.2)::bZ p o f g else bZ p o f g
theorem l5(p o:Int)(g:List Tm):bZ p o [] g=g:=by unfold bZ;rfl
theorem l6(p o:Int)(f:List Tm):bZ p o f []=f:=by cases f<;>(unfold bZ;rfl)
theorem l7{p o:Int}{t u:Tm}{f g:List Tm}(h:0<aF o t.2 u.2):bZ p o (t::f) (u::g)=t::bZ p o f (u::g):=by rw[bZ.eq_def];simp[h]
theorem l8{p o:Int}{t u:Tm}{f g:List Tm}(h:aF o t.2 u.2<0):bZ p o (t::f) (u::g)=u::bZ p o (t::f) g:=by rw[bZ.eq_def];simp[h,show¬0<aF o t.2 u.2 by omega]
theorem l9{p o:Int}{t u:Tm}{f g:List Tm}(h:aF o t.2 u.2=0)(h2:(t.1+u.1)%p≠0):bZ p o (t::f) (u::g)=((t.1+u.1)%p,t.2)::bZ p o f g:=by rw[bZ.eq_def];simp[h,h2]
theorem mf{p o:Int}{t u:Tm}{f g:List Tm}(h:aF o t.2 u.2=0)(h2:(t.1+u.1)%p=0):bZ p o (t::f) (u::g)=bZ p o f g:=by rw[bZ.eq_def];simp[h,h2]
theorem kj{o:Int}(P:List Tm->List Tm->Prop)(hl:∀g,P [] g)(hr:∀f,P f [])(h1:∀t f u g,0<aF o t.2 u.2->P f (u::g)->P (t::f) (u::g))(h2:∀t f u g,aF o t.2 u.2<0->P (t::f) g->P (t::f) (u::g))(h3:∀t f u g,aF o t.2 u.2=0->P f g->P (t::f) (u::g)):∀(k:Nat)(f g:List Tm),f.length+g.length<=k->P f g
 |_,[],g,_=>hl g
 |_,t::f,[],_=>hr _
 |0,t::f,u::g,h=>by simp at h
 |k+1,t::f,u::g,h=>by
  simp only[List.length_cons] at h;by_cases a:0<aF o t.2 u.2
  ·exact h1 t f u g a (kj P hl hr h1 h2 h3 k f (u::g) (by simp only[List.length_cons];omega))
  ·by_cases b:aF o t.2 u.2<0
   ·exact h2 t f u g b (kj P hl hr h1 h2 h3 k (t::f) g (by simp only[List.length_cons];omega))
   ·exact h3 t f u g (by omega) (kj P hl hr h1 h2 h3 k f g (by omega))
theorem nj{p o:Int}(f g:List Tm):∀x∈bZ p o f g,∃t∈f++g,x.2=t.2:=by
 refine kj (o:=o) (P:=λf g=>∀x∈bZ p o f g,∃t∈f++g,x.2=t.2) ?_ ?_ ?_ ?_ ?_ _ f g (He _)
 ·intro g x hx;rw[l5] at hx;exact⟨x,by simpa using hx,rfl⟩
 ·intro f x hx;rw[l6] at hx;exact⟨x,by simpa using hx,rfl⟩
 ·intro t f u g h ih x hx;rw[l7 h] at hx;rcases List.mem_cons.1 hx with rfl|hx
  ·exact⟨x,by simp,rfl⟩
  ·obtain⟨y,hy,e⟩:=ih x hx;exact⟨y,by simp at hy⊢;grind,e⟩
 ·intro t f u g h ih x hx;rw[l8 h] at hx;rcases List.mem_cons.1 hx with rfl|hx
  ·exact⟨x,by simp,rfl⟩
  ·obtain⟨y,hy,e⟩:=ih x hx;exact⟨y,by simp at hy⊢;grind,e⟩
 ·intro t f u g h ih x hx;by_cases hz:(t.1+u.1)%p=0
  ·rw[mf h hz] at hx;obtain⟨y,hy,e⟩:=ih x hx;exact⟨y,by simp at hy⊢;grind,e⟩
  ·rw[l9 h hz] at hx;rcases List.mem_cons.1 hx with rfl|hx
   ·exact⟨t,by simp,rfl⟩
   ·obtain⟨y,hy,e⟩:=ih x hx;exact⟨y,by simp at hy⊢;grind,e⟩
theorem EE{p o:Int}(f g:List Tm):(bZ p o f g).length<=f.length+g.length:=by
 refine kj (o:=o) (P:=λf g=>(bZ p o f g).length<=f.length+g.length) ?_ ?_ ?_ ?_ ?_ _ f g (He _)
 ·intro g;rw[l5];simp
 ·intro f;rw[l6];simp
 ·intro t f u g h ih;rw[l7 h];simp only[List.length_cons] at ih⊢;omega
 ·intro t f u g h ih;rw[l8 h];simp only[List.length_cons] at ih⊢;omega
 ·intro t f u g h ih;by_cases hz:(t.1+u.1)%p=0
  ·rw[mf h hz];simp only[List.length_cons];omega
  ·rw[l9 h hz];simp only[List.length_cons];omega
theorem EF{p o:Int}{n:Nat}(f g:List Tm)(hf:cT n f)(hg:cT n g):bT p (bZ p o f g) (f++g):=by
 intro φ;rw[iV];revert hf hg;refine kj (o:=o) (P:=λf g=>cT n f->cT n g->p∣aj φ (bZ p o f g)-(aj φ f+aj φ g)) ?_ ?_ ?_ ?_ ?_ _ f g (He _)
 ·intro g _ _;rw[l5];simp[aj]
 ·intro f _ _;rw[l6];simp[aj]
 ·intro t f u g h ih hf hg;rw[l7 h];simp only[aj] at ih⊢;obtain⟨k,hk⟩:=ih (λx hx=>hf x (by simp[hx])) hg;exact⟨k,by omega⟩
 ·intro t f u g h ih hf hg;rw[l8 h];simp only[aj] at ih⊢;obtain⟨k,hk⟩:=ih hf (λx hx=>hg x (by simp[hx]));exact⟨k,by omega⟩
 ·intro t f u g h ih hf hg;have e:t.2=u.2:=(fj o t.2 u.2 (by rw[hf t (by simp),hg u (by simp)])).1 h;obtain⟨k,hk⟩:=ih (λx hx=>hf x (by simp[hx])) (λx hx=>hg x (by simp[hx]));obtain⟨m,hm⟩:=gC p (t.1+u.1);by_cases hz:(t.1+u.1)%p=0
  ·rw[mf h hz];simp only[aj];rw[<-e];rw[hz] at hm;exact⟨k+m*φ t.2,by grind⟩
  ·rw[l9 h hz];simp only[aj];rw[<-e];exact⟨k+m*φ t.2,by grind⟩
theorem EG{p o:Int}{n:Nat}(hp:2<=p)(f g:List Tm)(hf:bk p o n f)(hg:bk p o n g):bk p o n (bZ p o f g):=by
 have hlen:cT n (bZ p o f g):=by intro x hx;obtain⟨t,ht,e⟩:=nj f g x hx;rw[e];exact(Hv.1 ht).elim (hf.len t) (hg.len t)
 refine⟨hlen,?_,?_⟩
 ·have lf:=hf.len;have lg:=hg.len;have ff:=hf.falls;have fg:=hg.falls;clear hf hg hlen;revert lf lg ff fg;refine kj (o:=o) (P:=λf g=>cT n f->cT n g->fw o f->fw o g->fw o (bZ p o f g)) ?_ ?_ ?_ ?_ ?_ _ f g (He _)
  ·intro g _ _ _ h;rw[l5];exact h
  ·intro f _ _ h _;rw[l6];exact h
  ·intro t f u g h ih lf lg ff fg;rw[l7 h];refine⟨λx hx=>?_,ih (λx hx=>lf x (by simp[hx])) lg ff.2 fg⟩;obtain⟨y,hy,e⟩:=nj f (u::g) x hx;rw[e];rcases Hv.1 hy with hy|hy
   ·exact ff.1 y hy
   ·rcases List.mem_cons.1 hy with rfl|hy
    ·exact h
    ·exact jQ o t.2 u.2 y.2 (by rw[lf t (by simp),lg u (by simp)]) (by rw[lg u (by simp),lg y (by simp[hy])]) h (fg.1 y hy)
  ·intro t f u g h ih lf lg ff fg;rw[l8 h];have h':0<aF o u.2 t.2:=by have:=kA o u.2 t.2;omega
   refine⟨λx hx=>?_,ih lf (λx hx=>lg x (by simp[hx])) ff fg.2⟩;obtain⟨y,hy,e⟩:=nj (t::f) g x hx;rw[e];rcases Hv.1 hy with hy|hy
   ·rcases List.mem_cons.1 hy with rfl|hy
    ·exact h'
    ·exact jQ o u.2 t.2 y.2 (by rw[lf t (by simp),lg u (by simp)]) (by rw[lf t (by simp),lf y (by simp[hy])]) h' (ff.1 y hy)
   ·exact fg.1 y hy
  ·intro t f u g h ih lf lg ff fg;have e0:t.2=u.2:=(fj o t.2 u.2 (by rw[lf t (by simp),lg u (by simp)])).1 h;have ih':=ih (λx hx=>lf x (by simp[hx])) (λx hx=>lg x (by simp[hx])) ff.2 fg.2;by_cases hz:(t.1+u.1)%p=0
   ·rw[mf h hz];exact ih'
   ·rw[l9 h hz];refine⟨λx hx=>?_,ih'⟩;obtain⟨y,hy,e⟩:=nj f g x hx;simp only;rw[e];rcases Hv.1 hy with hy|hy
    ·exact ff.1 y hy
    ·rw[e0];exact fg.1 y hy
 ·have cf:=hf.coef;have cg:=hg.coef;clear hf hg hlen;revert cf cg;refine kj (o:=o) (P:=λf g=>(∀t∈f,1<=t.1/\t.1<p)->(∀t∈g,1<=t.1/\t.1<p)->∀t∈bZ p o f g,1<=t.1/\t.1<p) ?_ ?_ ?_ ?_ ?_ _ f g (He _)
  ·intro g _ h;rw[l5];exact h
  ·intro f h _;rw[l6];exact h
  ·intro t f u g h ih cf cg x hx;rw[l7 h] at hx;rcases List.mem_cons.1 hx with rfl|hx
   ·exact cf x (by simp)
   ·exact ih (λx hx=>cf x (by simp[hx])) cg x hx
  ·intro t f u g h ih cf cg x hx;rw[l8 h] at hx;rcases List.mem_cons.1 hx with rfl|hx
   ·exact cg x (by simp)
   ·exact ih cf (λx hx=>cg x (by simp[hx])) x hx
  ·intro t f u g h ih cf cg x hx;have ih':=ih (λx hx=>cf x (by simp[hx])) (λx hx=>cg x (by simp[hx]));by_cases hz:(t.1+u.1)%p=0
   ·rw[mf h hz] at hx;exact ih' x hx
   ·rw[l9 h hz] at hx;rcases List.mem_cons.1 hx with rfl|hx
    ·have h1:=Int.emod_nonneg (t.1+u.1) (show p≠0 by omega);have h2:=Int.emod_lt_of_pos (t.1+u.1) (show 0<p by omega);simp only;omega
    ·exact ih' x hx
theorem EH{p a b:Nat}(h:eu p p=true)(ha:0<a)(ha2:a<p)(hb:0<b)(hb2:b<p):a*b%p≠0:=by
 intro hz;have hd:=Nat.dvd_of_mod_eq_zero hz;have hc:Nat.Coprime p a:=by have h1:=Nat.gcd_dvd_left p a;have h3:Nat.gcd p a<=a:=Nat.le_of_dvd ha (Nat.gcd_dvd_right p a);have h4:0<Nat.gcd p a:=Nat.gcd_pos_of_pos_right p ha;unfold eu at h;rw[List.all_eq_true] at h;have h5:=h (Nat.gcd p a) (List.mem_range.2 (by omega));rw[Nat.mod_eq_zero_of_dvd h1] at h5;simp at h5;show Nat.gcd p a=1;omega
 have:=Nat.le_of_dvd hb (hc.dvd_of_dvd_mul_left hd);omega
theorem lH{p a b:Int}(h:aZ p=0)(ha:1<=a)(ha2:a<p)(hb:1<=b)(hb2:b<p):1<=a*b%p/\a*b%p<p:=by
 have h0:eu p.toNat p.toNat=true:=by
  unfold aZ at h;by_cases h1:p<2\/101<p
  ·rw[if_pos h1] at h;omega
  ·rw[if_neg h1] at h;cases hq:jH p
   ·rw[hq] at h;simp at h
   ·exact hq
 have h1:=EH h0 (a:=a.toNat) (b:=b.toNat) (by omega) (by omega) (by omega) (by omega);have e:a*b%p=((a.toNat*b.toNat%p.toNat:Nat):Int):=by rw[Int.natCast_emod,Int.natCast_mul,Int.toNat_of_nonneg (by omega),Int.toNat_of_nonneg (by omega),Int.toNat_of_nonneg (by omega)]
 have h2:=Int.emod_lt_of_pos (a*b) (show 0<p by omega);omega
theorem dU{p:Int}(h:aZ p=0):2<=p/\p<=101:=by
 unfold aZ at h;by_cases h1:p<2\/101<p
 ·rw[if_pos h1] at h;omega
 ·omega
theorem xH{p o:Int}{n:Nat}(h:aZ p=0){t:Tm}(ht:1<=t.1/\t.1<p)(hl:t.2.length=n):∀{g:List Tm},bk p o n g->bk p o n (aT p t g)
 |[],_=>⟨λx hx=>by simp[aT] at hx,trivial,λx hx=>by simp[aT] at hx⟩
 |u::g,hg=>by
  have hg2:bk p o n g:=⟨λx hx=>hg.len x (by simp[hx]),hg.falls.2,λx hx=>hg.coef x (by simp[hx])⟩;have ih:=xH h ht hl hg2;have e:aT p t (u::g)=(t.1*u.1%p,ah (·+·) t.2 u.2)::aT p t g:=rfl
  have hu:=hg.coef u (by simp);have lu:=hg.len u (by simp);rw[e];refine⟨λx hx=>?_,⟨λx hx=>?_,ih.falls⟩,λx hx=>?_⟩
  ·rcases List.mem_cons.1 hx with rfl|hx
   ·simp only;rw[eP _ _ _ (by omega)];exact hl
   ·exact ih.len x hx
  ·simp only[aT,H8] at hx;obtain⟨y,hy,rfl⟩:=hx;have ly:=hg.len y (by simp[hy]);simp only;rw[ki t.2 u.2,ki t.2 y.2,nS o u.2 y.2 t.2 (by omega) (by omega)];exact hg.falls.1 y hy
  ·rcases List.mem_cons.1 hx with rfl|hx
   ·exact lH h ht.1 ht.2 hu.1 hu.2
   ·exact ih.coef x hx
def dz(F:Nat->List Tm)(a k:Nat):List Tm:=(List.range' a k).flatMap F
theorem oW(F:Nat->List Tm)(a:Nat):dz F a 0=[]:=rfl
theorem rQ(F:Nat->List Tm)(a:Nat):dz F a 1=F a:=by simp[dz]
theorem xI(F:Nat->List Tm)(a k m:Nat):dz F a (k+m)=dz F a k++dz F (a+k) m:=by unfold dz;rw[<-List.range'_append_1,List.flatMap_append]
end Go.Proofs.YtglijodcbdcngaaGreat
