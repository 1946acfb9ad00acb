/- How many leads there are of what is made of a module and of the multiples of one vector more (plain mathematics). -/
import Derived.Test.YteimdcndjjclnaaGreatA
namespace Go.Proofs.YteimdcndjjclnaaGreat.Cn
open Go.Proofs.Tryz
set_option linter.unusedSimpArgs false
set_option linter.unusedVariables false
structure Od(τ:Type) where
 lt:τ->τ->Prop
 wf:WellFounded lt
 tri:∀s t,lt s t\/s=t\/lt t s
 trans:∀{a b c},lt a b->lt b c->lt a c
theorem Od.irr{τ:Type}(O:Od τ)(t:τ):¬O.lt t t:=O.wf.induction (C:=λt=>¬O.lt t t) t λx ih h=>ih x h h
structure gC{τ:Type}(p:Int)(T:List τ)(V:(τ->Int)->Prop):Prop where
 zero:V λ_=>0
 add:∀{f g},V f->V g->V λt=>f t+g t
 mul:∀(c:Int){f},V f->V λt=>c*f t
 con:∀{f g},(∀t∈T,p∣g t-f t)->V f->V g
def ic{τ:Type}(O:Od τ)(p:Int)(T:List τ)(f:τ->Int)(t:τ):Prop:=t∈T/\¬p∣f t/\∀s∈T,O.lt t s->p∣f s
def Ld{τ:Type}(O:Od τ)(p:Int)(T:List τ)(V:(τ->Int)->Prop)(t:τ):Prop:=∃f,V f/\ic O p T f t
def bI{τ:Type}(P:τ->Prop)(n:Nat):Prop:=∃l:List τ,l.Nodup/\(∀t,t∈l↔P t)/\l.length=n
def Pr(p:Int):Prop:=∀c,¬p∣c->∃d,p∣c*d-1
theorem Pr.mul{p:Int}(h:Pr p){c x:Int}(hc:¬p∣c)(hx:¬p∣x):¬p∣c*x:=λhd=>hx (by
 obtain⟨d,k,hk⟩:=h c hc;obtain⟨m,hm⟩:=hd;exact⟨m*d-k*x,by grind⟩)
theorem wM{τ:Type}(O:Od τ):∀(l:List τ),l≠[]->∃m∈l,∀s∈l,¬O.lt m s
 |[],h=>absurd rfl h
 |[a],_=>⟨a,by simp,λs hs=>by rw[Lw] at hs;rw[hs];exact O.irr a⟩
 |a::b::l,_=>by
  obtain⟨m,h1,h2⟩:=wM O (b::l) (by simp);by_cases h:O.lt m a
  .refine⟨a,by simp,λs hs=>?_⟩;rcases LL.1 hs with rfl|hs
   .exact O.irr _
   .exact λhc=>h2 s hs (O.trans h hc)
  .refine⟨m,List.mem_cons_of_mem _ h1,λs hs=>?_⟩;rcases LL.1 hs with rfl|hs
   .exact h
   .exact h2 s hs
theorem pB{τ:Type}(O:Od τ){p:Int}{T:List τ}{f:τ->Int}(h:∃t∈T,¬p∣f t):∃t,ic O p T f t:=by
 obtain⟨t0,h1,h2⟩:=h;obtain⟨m,h3,h4⟩:=wM O (T.filter λt=>decide (¬p∣f t)) (λe=>by
  have:t0∈T.filter λt=>decide (¬p∣f t):=LR.2 ⟨h1,by simpa using h2⟩;rw[e] at this;simp at this)
 obtain⟨h5,h6⟩:=LR.1 h3;refine⟨m,h5,by simpa using h6,λs hs hlt=>?_⟩;apply LP;intro hn;exact h4 s (LR.2 ⟨hs,by simpa using hn⟩) hlt
theorem n4{τ:Type}{O:Od τ}{p:Int}{T:List τ}{f:τ->Int}{s t:τ}(h:ic O p T f s)(k:ic O p T f t):s=t:=by
 rcases O.tri s t with hl|e|hl
 .exact absurd (h.2.2 t k.1 hl) k.2.1
 .exact e
 .exact absurd (k.2.2 s h.1 hl) h.2.1
theorem nZ{τ:Type}{O:Od τ}{p:Int}{T:List τ}{f g:τ->Int}{t:τ}(h:ic O p T f t)(e:∀t∈T,p∣g t-f t):ic O p T g t:=by
 have back:∀s∈T,p∣g s->p∣f s:=λs hs ⟨k,hk⟩=>by obtain⟨m,hm⟩:=e s hs;exact⟨k-m,by rw[Int.mul_sub];omega⟩
 have fwd:∀s∈T,p∣f s->p∣g s:=λs hs ⟨k,hk⟩=>by obtain⟨m,hm⟩:=e s hs;exact⟨k+m,by rw[Int.mul_add];omega⟩
 exact⟨h.1,λhd=>h.2.1 (back t h.1 hd),λs hs hl=>fwd s hs (h.2.2 s hs hl)⟩
def pC{τ:Type}(p:Int)(T:List τ)(V:(τ->Int)->Prop)(w f:τ->Int):Prop:=∃(c:Int)(g:τ->Int),V g/\∀t∈T,p∣f t-(g t+c*w t)
theorem gC.plus{τ:Type}{p:Int}{T:List τ}{V:(τ->Int)->Prop}(h:gC p T V)(w:τ->Int):gC p T (pC p T V w) where
 zero:=⟨0,_,h.zero,λt _=>⟨0,by grind⟩⟩
 add:=fun⟨c,g,h1,h2⟩ ⟨d,k,h3,h4⟩=>⟨c+d,_,h.add h1 h3,λt ht=>by
  obtain⟨a,ha⟩:=h2 t ht;obtain⟨b,hb⟩:=h4 t ht;exact⟨a+b,by grind⟩⟩
 mul:=λe {f} ⟨c,g,h1,h2⟩=>⟨e*c,_,h.mul e h1,λt ht=>by
  obtain⟨a,ha⟩:=h2 t ht;exact⟨e*a,by grind⟩⟩
 con:=λhc ⟨c,g,h1,h2⟩=>⟨c,g,h1,λt ht=>by
  obtain⟨a,ha⟩:=h2 t ht;obtain⟨b,hb⟩:=hc t ht;exact⟨a+b,by grind⟩⟩
theorem CQ{τ:Type}(O:Od τ){p:Int}(hp:Pr p){T:List τ}{V:(τ->Int)->Prop}(hV:gC p T V)(t:τ):∀w,¬V w->ic O p T w t->∃g,V g/\∃u,ic O p T (λs=>w s-g s) u/\¬Ld O p T V u:=by
 refine O.wf.induction (C:=λt=>∀w,¬V w->ic O p T w t->∃g,V g/\∃u,ic O p T (λs=>w s-g s) u/\¬Ld O p T V u) t ?_;intro t ih w hw hl;by_cases hd:Ld O p T V t
 .obtain⟨h,h1,h2⟩:=hd;obtain⟨d,hdv⟩:=hp _ h2.2.1;have hv:=hV.mul (w t*d) h1;have hw1:¬V λs=>w s-w t*d*h s:=λhc=>hw (hV.con (λs _=>⟨0,by grind⟩) (hV.add hc hv));have hne:∃s∈T,¬p∣w s-w t*d*h s:=LP λhc=>hw1 (hV.con (λs hs=>by
   have:p∣w s-w t*d*h s:=LP λh=>hc ⟨s,hs,h⟩;simpa using this) hV.zero)
  obtain⟨t1,hl1⟩:=pB O (f:=λs=>w s-w t*d*h s) hne;have hlt:O.lt t1 t:=by
   rcases O.tri t1 t with hx|e|hx
   .exact hx
   .exfalso;apply hl1.2.1;rw[e];obtain⟨k,hk⟩:=hdv;exact⟨-(w t*k),by grind⟩
   .exfalso;apply hl1.2.1;obtain⟨a,ha⟩:=hl.2.2 t1 hl1.1 hx;obtain⟨b,hb⟩:=h2.2.2 t1 hl1.1 hx;exact⟨a-w t*d*b,by grind⟩
  obtain⟨g,g1,u,g2,g3⟩:=ih t1 hlt _ hw1 hl1;exact⟨_,hV.add g1 hv,u,nZ g2 (λs _=>⟨0,by grind⟩),g3⟩
 .exact⟨_,hV.zero,t,nZ hl (λs _=>⟨0,by grind⟩),hd⟩
theorem CR{τ:Type}(O:Od τ){p:Int}(hp:Pr p){T:List τ}{V:(τ->Int)->Prop}(hV:gC p T V){w:τ->Int}(hw:¬V w){n:Nat}(hn:bI (Ld O p T V) n):bI (Ld O p T (pC p T V w)) (n+1):=by
 have hne:∃s∈T,¬p∣w s:=LP λhc=>hw (hV.con (λs hs=>by
  have:p∣w s:=LP λh=>hc ⟨s,hs,h⟩;simpa using this) hV.zero)
 obtain⟨t0,hl0⟩:=pB O hne;obtain⟨g0,g1,u,hu,hnu⟩:=CQ O hp hV t0 w hw hl0;obtain⟨l,l1,l2,l3⟩:=hn;refine⟨u::l,List.nodup_cons.2 ⟨λh=>hnu ((l2 u).1 h),l1⟩,λt=>?_,by simp[l3]⟩;rw[LL,l2];constructor
 .rintro (rfl|⟨f,h1,h2⟩)
  .exact⟨_,⟨1,_,hV.mul (-1) g1,λs _=>⟨0,by grind⟩⟩,hu⟩
  .exact⟨f,⟨0,f,h1,λs _=>⟨0,by grind⟩⟩,h2⟩
 .rintro ⟨f,⟨c,g,h1,h2⟩,h3⟩;have hg1:=hV.add h1 (hV.mul c g1);have hfe:∀s∈T,p∣f s-((g s+c*g0 s)+c*(w s-g0 s)):=λs hs=>by obtain⟨k,hk⟩:=h2 s hs;exact⟨k,by grind⟩
  by_cases hc:p∣c
  .right;refine⟨_,hg1,nZ h3 λs hs=>?_⟩;obtain⟨k,hk⟩:=hfe s hs;obtain⟨m,hm⟩:=hc;exact⟨-k-m*(w s-g0 s),by grind⟩
  .by_cases hz:∃s∈T,¬p∣g s+c*g0 s
   .obtain⟨v,hv⟩:=pB O (f:=λs=>g s+c*g0 s) hz;have hvl:Ld O p T V v:=⟨_,hg1,hv⟩;rcases O.tri v u with hlt|e|hlt
    .left;refine n4 h3 ⟨hu.1,λhd=>?_,λs hs hl=>?_⟩
     .apply hp.mul hc hu.2.1;obtain⟨a,ha⟩:=hd;obtain⟨b,hb⟩:=hfe u hu.1;obtain⟨k,hk⟩:=hv.2.2 u hu.1 hlt;exact⟨a-b-k,by grind⟩
     .obtain⟨b,hb⟩:=hfe s hs;obtain⟨k,hk⟩:=hv.2.2 s hs (O.trans hlt hl);obtain⟨m,hm⟩:=hu.2.2 s hs hl;exact⟨b+k+c*m,by grind⟩
    .exact absurd (e ▸ hvl) hnu
    .right;have:t=v:=n4 h3 ⟨hv.1,λhd=>hv.2.1 (by
      obtain⟨a,ha⟩:=hd;obtain⟨b,hb⟩:=hfe v hv.1;obtain⟨m,hm⟩:=hu.2.2 v hv.1 hlt;exact⟨a-b-c*m,by grind⟩),λs hs hl=>by
      obtain⟨b,hb⟩:=hfe s hs;obtain⟨k,hk⟩:=hv.2.2 s hs hl;obtain⟨m,hm⟩:=hu.2.2 s hs (O.trans hlt hl);exact⟨b+k+c*m,by grind⟩⟩
     rw[this];exact hvl
   .left;have hz0:∀s∈T,p∣g s+c*g0 s:=λs hs=>LP λh=>hz ⟨s,hs,h⟩;refine n4 h3 ⟨hu.1,λhd=>?_,λs hs hl=>?_⟩
    .apply hp.mul hc hu.2.1;obtain⟨a,ha⟩:=hd;obtain⟨b,hb⟩:=hfe u hu.1;obtain⟨k,hk⟩:=hz0 u hu.1;exact⟨a-b-k,by grind⟩
    .obtain⟨b,hb⟩:=hfe s hs;obtain⟨k,hk⟩:=hz0 s hs;obtain⟨m,hm⟩:=hu.2.2 s hs hl;exact⟨b+k+c*m,by grind⟩
def sm{μ τ:Type}(l:List μ)(a:μ->Int)(φ:μ->τ->Int)(t:τ):Int:=(l.map λy=>a y*φ y t).sum
theorem eW{μ τ:Type}(y:μ)(l:List μ)(a:μ->Int)(φ:μ->τ->Int)(t:τ):sm (y::l) a φ t=a y*φ y t+sm l a φ t:=by simp[sm]
theorem wN{μ τ:Type}(a b:μ->Int)(φ:μ->τ->Int)(t:τ):∀l,sm l (λy=>a y+b y) φ t=sm l a φ t+sm l b φ t
 |[]=>rfl
 |y::l=>by rw[eW,eW,eW,wN a b φ t l];grind
theorem sg{μ τ:Type}(c:Int)(a:μ->Int)(φ:μ->τ->Int)(t:τ):∀l,sm l (λy=>c*a y) φ t=c*sm l a φ t
 |[]=>by simp[sm]
 |y::l=>by rw[eW,eW,sg c a φ t l];grind
theorem mp{μ τ:Type}{a b:μ->Int}(φ:μ->τ->Int)(t:τ):∀{l:List μ},(∀y∈l,a y=b y)->sm l a φ t=sm l b φ t
 |[],_=>rfl
 |y::l,h=>by rw[eW,eW,h y (by simp),mp φ t λz hz=>h z (List.mem_cons_of_mem _ hz)]
theorem jT{μ τ:Type}{a:μ->Int}(φ:μ->τ->Int)(t:τ):∀{l:List μ},(∀y∈l,a y=0)->sm l a φ t=0
 |[],_=>rfl
 |y::l,h=>by rw[eW,h y (by simp),jT φ t λz hz=>h z (List.mem_cons_of_mem _ hz)];simp
def eX{τ:Type}(p:Int)(T:List τ):((τ->Int)->Prop)->List (τ->Int)->(τ->Int)->Prop
 |V,[]=>V
 |V,w::ws=>eX p T (pC p T V w) ws
theorem pD{τ:Type}{p:Int}{T:List τ}:∀{ws:List (τ->Int)} {V:(τ->Int)->Prop},gC p T V->gC p T (eX p T V ws)
 |[],_,h=>h
 |w::ws,_,h=>pD (ws:=ws) (h.plus w)
theorem jt{μ τ:Type}{p:Int}{T:List τ}(φ:μ->τ->Int):∀{l:List μ} {V:(τ->Int)->Prop},gC p T V->l.Nodup->∀f,eX p T V (l.map φ) f↔∃(a:μ->Int)(g:τ->Int),V g/\∀t∈T,p∣f t-(g t+sm l a φ t)
 |[],V,h,_,f=>by
  constructor
  .exact λhf=>⟨λ_=>0,f,hf,λt _=>⟨0,by simp[sm]⟩⟩
  .rintro ⟨a,g,h1,h2⟩;exact h.con (λt ht=>by have:=h2 t ht;simpa [sm] using this) h1
 |y::l,V,h,hn,f=>by
  have hnd:=List.nodup_cons.1 hn;show eX p T (pC p T V (φ y)) (l.map φ) f↔_;rw[jt φ (h.plus (φ y)) hnd.2 f];constructor
  .rintro ⟨a,g,⟨c,g2,h1,h2⟩,h3⟩;refine LP λhc=>hc ?_;have:∃b:μ->Int,b y=c/\∀z∈l,b z=a z:=by refine⟨λz=>@ite _ (z=y) (Classical.propDecidable _) c (a z),by simp,λz hz=>?_⟩;have:z≠y:=λe=>hnd.1 (e ▸ hz);simp[this]
   obtain⟨b,b1,b2⟩:=this;refine⟨b,g2,h1,λt ht=>?_⟩;rw[eW,b1,mp φ t b2];obtain⟨k,hk⟩:=h2 t ht;obtain⟨m,hm⟩:=h3 t ht;exact⟨k+m,by grind⟩
  .rintro ⟨a,g,h1,h2⟩;refine⟨a,λt=>g t+a y*φ y t,⟨a y,g,h1,λt _=>⟨0,by grind⟩⟩,λt ht=>?_⟩;obtain⟨k,hk⟩:=h2 t ht;rw[eW] at hk;exact⟨k,by grind⟩
theorem sf{τ:Type}(O:Od τ){p:Int}(hp:Pr p){T:List τ}:∀{ws:List (τ->Int)} {V:(τ->Int)->Prop} {n:Nat},gC p T V->bI (Ld O p T V) n->(∀l w r,ws=l++w::r->¬eX p T V l w)->bI (Ld O p T (eX p T V ws)) (n+ws.length)
 |[],_,_,_,hn,_=>hn
 |w::ws,V,n,h,hn,hi=>by
  have h1:=CR O hp h (hi [] w ws rfl) hn;have h2:=sf O hp (ws:=ws) (h.plus w) h1 λl v r e=>hi (w::l) v r (by rw[e];rfl);have e:n+1+ws.length=n+(w::ws).length:=by simp;omega
  rw[e] at h2;exact h2
theorem wO{μ τ:Type}(Y:List μ)(hY:Y.Nodup)(φ:μ->τ->Int)(r:List μ)(hr:r.Nodup)(hs:∀y∈r,y∈Y)(a:μ->Int):∃b:μ->Int,(∀y,y∉r->b y=0)/\(∀y∈r,b y=a y)/\∀t:τ,sm Y b φ t=sm r a φ t:=by
 refine⟨λy=>@ite _ (y∈r) (Classical.propDecidable _) (a y) 0,λy hy=>by simp[hy],λy hy=>by simp[hy],λt=>?_⟩;have gen:∀(Y r:List μ),Y.Nodup->r.Nodup->(∀y∈r,y∈Y)->sm Y (λy=>@ite _ (y∈r) (Classical.propDecidable _) (a y) 0) φ t=sm r a φ t:=by
  intro Y;induction Y with
  |nil=>
   intro r _ _ hs;have:r=[]:=List.eq_nil_iff_forall_not_mem.2 λy hy=>by have:=hs y hy;simp at this
   rw[this];rfl
  |cons z Y ih=>
   intro r hz hr hs;have hzn:=List.nodup_cons.1 hz;rw[eW];by_cases hzr:z∈r
   .obtain⟨r1,r2,rfl⟩:=List.append_of_mem hzr;have hrn:=List.nodup_append.1 hr;have hr2:=List.nodup_cons.1 hrn.2.1;have hz1:z∉r1:=λh=>hrn.2.2 z h z (by simp) rfl;have hperm:(r1++r2).Nodup:=List.nodup_append.2 ⟨hrn.1,hr2.2,λu hu v hv=>hrn.2.2 u hu v (by simp[hv])⟩;have h:=ih (r1++r2) hzn.2 hperm λy hy=>by
     have hyz:y≠z:=λe=>by
      rcases Lv.1 hy with h|h
      .exact hz1 (e ▸ h)
      .exact hr2.1 (e ▸ h)
     rcases LL.1 (hs y (by rcases Lv.1 hy with h|h<;>simp[h])) with h|h
     .exact absurd h hyz
     .exact h
    have e1:sm Y (λy=>@ite _ (y∈r1++z::r2) (Classical.propDecidable _) (a y) 0) φ t=sm Y (λy=>@ite _ (y∈r1++r2) (Classical.propDecidable _) (a y) 0) φ t:=mp φ t λy hy=>by
     have hyz:y≠z:=λe=>hzn.1 (e ▸ hy);by_cases h9:y∈r1++r2
     .have h8:y∈r1++z::r2:=by rcases Lv.1 h9 with h|h<;>simp[h]
      rw[LI h8,LI h9]
     .have h8:y∉r1++z::r2:=λh=>h9 (by
       rcases Lv.1 h with h|h
       .simp[h]
       .rcases LL.1 h with h|h
        .exact absurd h hyz
        .simp[h])
      rw[LH h8,LH h9]
    rw[e1,h];simp only[sm,LO,List.map_cons,List.sum_append,List.sum_cons,LI hzr];omega
   .have h:=ih r hzn.2 hr λy hy=>by
     rcases LL.1 (hs y hy) with h|h
     .exact absurd (h ▸ hy) hzr
     .exact h
    rw[h,LH hzr];simp
 exact gen Y r hY hr hs
theorem CC{μ τ:Type}(O:Od τ)(P:Od μ){p:Int}(hp:Pr p)(hp1:¬p∣1){T:List τ}{V:(τ->Int)->Prop}(hV:gC p T V){n:Nat}(hn:bI (Ld O p T V) n)(Y:List μ)(hY:Y.Nodup)(φ:μ->τ->Int){k:Nat}(hk:bI (λy=>y∈Y/\¬Ld P p Y (λa=>V λt=>sm Y a φ t) y) k):bI (Ld O p T λf=>∃(a:μ->Int)(g:τ->Int),V g/\∀t∈T,p∣f t-(g t+sm Y a φ t)) (n+k):=by
 obtain⟨l,l1,l2,l3⟩:=hk;have ext:=λr hr hs a=>wO (τ:=τ) Y hY φ r hr hs a;have hlY:∀y∈l,y∈Y:=λy hy=>((l2 y).1 hy).1;have indep:∀r w s,l.map φ=r++w::s->¬eX p T V r w:=by
  intro r w s e hc;obtain⟨l',q,e1,e2,e3⟩:=List.map_eq_append_iff.1 e;obtain⟨y,m,e4,e5,e6⟩:=List.map_eq_cons_iff.1 e3;subst e2 e4 e5;have hnl:(l'++y::m).Nodup:=e1 ▸ l1;have hn1:=List.nodup_append.1 hnl;have hy1:y∉l':=λh=>hn1.2.2 y h y (by simp) rfl;obtain⟨a,g,g1,g2⟩:=(jt φ hV hn1.1 (φ y)).1 hc;have hyl:y∈l:=by rw[e1];simp
  have hl':∀z∈l',z∈l:=λz hz=>by rw[e1];simp[hz]
  have hnd:(y::l').Nodup:=List.nodup_cons.2 ⟨hy1,hn1.1⟩;have hcoef:∃c:μ->Int,c y=1/\∀z∈l',c z=-a z:=by refine⟨λz=>@ite _ (z=y) (Classical.propDecidable _) 1 (-a z),by simp,λz hz=>?_⟩;have:z≠y:=λe=>hy1 (e ▸ hz);simp[this]
  obtain⟨c,c1,c2⟩:=hcoef;obtain⟨b,b1,b2,b3⟩:=ext (y::l') hnd (λz hz=>by
   rcases LL.1 hz with rfl|hz
   .exact hlY _ hyl
   .exact hlY z (hl' z hz)) c
  have hJ:V λt=>sm Y b φ t:=hV.con (λt ht=>by
   rw[b3 t,eW,c1,mp φ t c2];have e7:sm l' (λz=>-a z) φ t=-sm l' a φ t:=by have:=sg (-1) a φ t l';rw[<-show (-1)*sm l' a φ t=-sm l' a φ t by omega,<-this];exact mp φ t λz _=>by omega
   obtain⟨k,hk⟩:=g2 t ht;exact⟨k,by grind⟩) g1
  obtain⟨u,hu⟩:=pB P (f:=b) ⟨y,hlY y hyl,by rw[b2 y (by simp),c1];exact hp1⟩;have hul:u∈y::l':=LP λh=>hu.2.1 (by rw[b1 u h];exact⟨0,by simp⟩);have hu2:u∈l:=by
   rcases LL.1 hul with rfl|h
   .exact hyl
   .exact hl' u h
  exact((l2 u).1 hu2).2 ⟨b,hJ,hu⟩
 have hN:=sf O hp hV hn indep;rw[LD,l3] at hN;obtain⟨q,q1,q2,q3⟩:=hN;have all:∀y,y∈Y->eX p T V (l.map φ) (φ y):=by
  intro y;refine P.wf.induction (C:=λy=>y∈Y->eX p T V (l.map φ) (φ y)) y ?_;intro y ih hy;by_cases hl:y∈l
  .refine(jt φ hV l1 _).2 ?_;have hex:∃a:μ->Int,∀t,sm l a φ t=φ y t:=by
    obtain⟨r1,r2,e⟩:=List.append_of_mem hl;have hn1:=List.nodup_append.1 (e ▸ l1);have hy1:y∉r1:=λh=>hn1.2.2 y h y (by simp) rfl;have hy2:y∉r2:=(List.nodup_cons.1 hn1.2.1).1;refine⟨λz=>@ite _ (z=y) (Classical.propDecidable _) 1 0,λt=>?_⟩;rw[e];have z1:sm r1 (λz=>@ite _ (z=y) (Classical.propDecidable _) (1:Int) 0) φ t=0:=jT φ t λz hz=>by have:z≠y:=λe=>hy1 (e ▸ hz);simp[this]
    have z2:sm r2 (λz=>@ite _ (z=y) (Classical.propDecidable _) (1:Int) 0) φ t=0:=jT φ t λz hz=>by have:z≠y:=λe=>hy2 (e ▸ hz);simp[this]
    unfold sm at z1 z2⊢;rw[LO,List.map_cons,List.sum_append,List.sum_cons,z1,z2];simp
   obtain⟨a,ha⟩:=hex;exact⟨a,_,hV.zero,λt _=>⟨0,by rw[ha];omega⟩⟩
  .have hld:Ld P p Y (λa=>V λt=>sm Y a φ t) y:=LP λh=>hl ((l2 y).2 ⟨hy,h⟩);obtain⟨b,hb,hb2⟩:=hld;obtain⟨d,hd⟩:=hp _ hb2.2.1;have hS:=pD (ws:=l.map φ) hV;have rest:eX p T V (l.map φ) λt=>sm Y b φ t-b y*φ y t:=by
    obtain⟨r1,r2,e⟩:=List.append_of_mem hy;have hn1:=List.nodup_append.1 (e ▸ hY);have hy1:y∉r1:=λh=>hn1.2.2 y h y (by simp) rfl;have hy2:y∉r2:=(List.nodup_cons.1 hn1.2.1).1;have part:∀r:List μ,(∀z∈r,z∈Y/\z≠y)->eX p T V (l.map φ) λt=>sm r b φ t:=by
     intro r;induction r with
     |nil=>exact λ_=>hS.zero
     |cons z r ihr=>
      intro hz;have h1:=hz z (by simp);have h2:=ihr λv hv=>hz v (by simp[hv]);have h3:eX p T V (l.map φ) λt=>b z*φ z t:=by
       by_cases hzl:P.lt z y
       .exact hS.mul _ (ih z hzl h1.1)
       .have:P.lt y z:=by
         rcases P.tri z y with h|h|h
         .exact absurd h hzl
         .exact absurd h h1.2
         .exact h
        obtain⟨k,hk⟩:=hb2.2.2 z h1.1 this;exact hS.con (λt _=>⟨k*φ z t,by grind⟩) hS.zero
      exact hS.con (λt _=>⟨0,by rw[eW];omega⟩) (hS.add h3 h2)
    refine hS.con (λt _=>⟨0,?_⟩) (hS.add (part r1 λz hz=>⟨by rw[e];simp[hz],λe=>hy1 (e ▸ hz)⟩) (part r2 λz hz=>⟨by rw[e];simp[hz],λe=>hy2 (e ▸ hz)⟩));rw[e];simp only[sm,LO,List.map_cons,List.sum_append,List.sum_cons];omega
   have incl:eX p T V (l.map φ) λt=>sm Y b φ t:=(jt φ hV l1 _).2 ⟨λ_=>0,_,hb,λt _=>⟨0,by rw[jT φ t λ_ _=>rfl];omega⟩⟩;have h4:=hS.mul d (hS.add incl (hS.mul (-1) rest));refine hS.con (λt _=>?_) h4;obtain⟨k,hk⟩:=hd;exact⟨-(k*φ y t),by grind⟩
 refine⟨q,q1,λt=>?_,q3⟩;rw[q2];have same:∀f,eX p T V (l.map φ) f↔∃(a:μ->Int)(g:τ->Int),V g/\∀t∈T,p∣f t-(g t+sm Y a φ t):=by
  intro f;have hS:=pD (ws:=l.map φ) hV;constructor
  .intro h;obtain⟨a,g,g1,g2⟩:=(jt φ hV l1 f).1 h;obtain⟨b,_,_,b3⟩:=ext l l1 hlY a;exact⟨b,g,g1,λt ht=>by rw[b3];exact g2 t ht⟩
  .rintro ⟨a,g,g1,g2⟩;have hgv:eX p T V (l.map φ) g:=(jt φ hV l1 _).2 ⟨λ_=>0,g,g1,λt _=>⟨0,by rw[jT φ t λ_ _=>rfl];omega⟩⟩;have part:∀r:List μ,(∀z∈r,z∈Y)->eX p T V (l.map φ) λt=>sm r a φ t:=by
    intro r;induction r with
    |nil=>exact λ_=>hS.zero
    |cons z r ihr=>intro hz;exact hS.con (λt _=>⟨0,by rw[eW];omega⟩) (hS.add (hS.mul (a z) (all z (hz z (by simp)))) (ihr λv hv=>hz v (by simp[hv])))
   exact hS.con g2 (hS.add hgv (part Y λz hz=>hz))
 constructor
 .rintro ⟨f,h1,h2⟩;exact⟨f,(same f).1 h1,h2⟩
 .rintro ⟨f,h1,h2⟩;exact⟨f,(same f).2 h1,h2⟩
end Go.Proofs.YteimdcndjjclnaaGreat.Cn
namespace Go.Proofs.YteimdcndjjclnaaGreat.Cn
open Go.Proofs.Tryz
set_option linter.unusedSimpArgs false
set_option linter.unusedVariables false
abbrev Mt:=Nat×Nat×Nat
abbrev Tt:=Nat×Nat×Nat×Nat
def aG(y:Mt):Nat:=y.1+y.2.1+y.2.2
def bF(x y:Mt):Mt:=(x.1+y.1,x.2.1+y.2.1,x.2.2+y.2.2)
def cZ(x y:Mt):Mt:=(y.1-x.1,y.2.1-x.2.1,y.2.2-x.2.2)
abbrev dr(x y:Mt):Prop:=x.1<=y.1/\x.2.1<=y.2.1/\x.2.2<=y.2.2
theorem kE(x y:Mt):aG (bF x y)=aG x+aG y:=by simp only[aG,bF];omega
theorem n5(x y:Mt):cZ x (bF x y)=y:=by obtain⟨a,b,c⟩:=y;simp only[cZ,bF];refine Prod.ext ?_ (Prod.ext ?_ ?_)<;>simp only<;>omega
theorem rW{x y:Mt}(h:dr x y):bF x (cZ x y)=y:=by obtain⟨a,b,c⟩:=y;obtain⟨h1,h2,h3⟩:=h;simp only[cZ,bF] at*;refine Prod.ext ?_ (Prod.ext ?_ ?_)<;>simp only<;>omega
theorem r8(x y:Mt):dr x (bF x y):=by simp only[dr,bF];omega
theorem r7{x y z:Mt}(h:bF x y=bF x z):y=z:=by rw[<-n5 x y,h,n5]
def Ys(s:Nat):List Mt:=(List.range (s+1)).flatMap λa=>(List.range (s-a+1)).map λb=>(a,b,s-a-b)
theorem iZ{s:Nat}{y:Mt}:y∈Ys s↔aG y=s:=by
 obtain⟨a,b,c⟩:=y;simp only[Ys,L7,LC,List.mem_range,aG,Prod.mk.injEq];constructor
 .rintro ⟨a',h1,b',h2,rfl,rfl,rfl⟩;omega
 .intro h;exact⟨a,by omega,b,by omega,rfl,rfl,by omega⟩
theorem sn{α β:Type}{f:α->List β}(g:β->α)(hg:∀a,∀b∈f a,g b=a)(hf:∀a,(f a).Nodup):∀{l:List α},l.Nodup->(l.flatMap f).Nodup
 |[],_=>List.Pairwise.nil
 |a::l,h=>by have hn:=List.nodup_cons.1 h;rw[List.flatMap_cons,List.nodup_append];refine⟨hf a,sn g hg hf hn.2,λu hu v hv e=>hn.1 ?_⟩;obtain⟨a',h1,h2⟩:=L7.1 hv;rw[<-hg a u hu,e,hg a' v h2];exact h1
theorem pz(s:Nat):(Ys s).Nodup:=sn (λy=>y.1) (λa b hb=>by obtain⟨c,_,rfl⟩:=LC.1 hb;rfl) (λa=>List.Pairwise.map _ (λu v h e=>h (by simp at e;omega)) List.nodup_range) List.nodup_range
def Ts(R:Nat)(d:Nat->Nat)(t:Nat):List Tt:=(List.range R).flatMap λi=>if d i<=t then (Ys (t-d i)).map λy=>(i,y) else []
theorem iA{R:Nat}{d:Nat->Nat}{t:Nat}{s:Tt}:s∈Ts R d t↔s.1<R/\d s.1+aG s.2=t:=by
 obtain⟨i,y⟩:=s;simp only[Ts,L7,List.mem_range];constructor
 .rintro ⟨j,h1,h2⟩;by_cases h:d j<=t
  .rw[LI h] at h2;obtain⟨z,h3,h4⟩:=LC.1 h2;simp only[Prod.mk.injEq] at h4;obtain⟨rfl,rfl⟩:=h4;rw[iZ] at h3;exact⟨h1,show d j+aG z=t by omega⟩
  .rw[LH h] at h2;simp at h2
 .rintro ⟨h1,h2⟩;have h1:i<R:=h1;have h2:d i+aG y=t:=h2;exact⟨i,h1,by rw[LI (by omega)];exact LC.2 ⟨y,iZ.2 (by omega),rfl⟩⟩
def di(x:Mt)(s:Tt):Tt:=(s.1,bF x s.2)
def dh(x:Mt)(g:Tt->Int)(s:Tt):Int:=if dr x s.2 then g (s.1,cZ x s.2) else 0
theorem gA(x:Mt)(g:Tt->Int)(s:Tt):dh x g (di x s)=g s:=by show (if dr x (bF x s.2) then g (s.1,cZ x (bF x s.2)) else 0)=g s;rw[LI (r8 x s.2),n5]
theorem gB{x:Mt}{g:Tt->Int}{s:Tt}(h:¬dr x s.2):dh x g s=0:=LH h
theorem jS{x:Mt}{s:Tt}(h:dr x s.2):di x (s.1,cZ x s.2)=s:=by simp only[di];rw[rW h]
theorem wP(x y:Mt)(g:Tt->Int)(s:Tt):dh x (dh y g) s=dh (bF x y) g s:=by
 by_cases h:dr x s.2
 .have e:=jS h;rw[<-e];generalize (s.1,cZ x s.2)=u;rw[gA];by_cases h2:dr y u.2
  .have e2:=jS h2;rw[<-e2];generalize (u.1,cZ y u.2)=v;rw[gA];have e3:di x (di y v)=di (bF x y) v:=by simp only[di,bF,Nat.add_assoc]
   rw[e3,gA]
  .rw[gB h2,gB];intro h3;apply h2;simp only[dr,bF,di] at*;omega
 .rw[gB h,gB];intro h3;apply h;simp only[dr,bF] at*;omega
theorem mo{R:Nat}{d:Nat->Nat}{t:Nat}{x:Mt}{s:Tt}:di x s∈Ts R d (t+aG x)↔s∈Ts R d t:=by rw[iA,iA];simp only[di];rw[kE];omega
def Vm(p:Int)(R:Nat)(d:Nat->Nat):List (Nat×(Tt->Int))->Nat->(Tt->Int)->Prop
 |[],t,f=>∀s∈Ts R d t,p∣f s
 |(c,g)::G,t,f=>∃(a:Mt->Int)(h:Tt->Int),Vm p R d G t h/\∀s∈Ts R d t,p∣f s-(h s+if c<=t then sm (Ys (t-c)) a (λy=>dh y g) s else 0)
theorem lq(p:Int)(R:Nat)(d:Nat->Nat)(t:Nat):∀G,gC p (Ts R d t) (Vm p R d G t)
 |[]=>⟨λ_ _=>⟨0,by simp⟩,λh k s hs=>Int.dvd_add (h s hs) (k s hs),λc f h s hs=>Int.dvd_mul_of_dvd_right (h s hs),λe h s hs=>by
   obtain⟨a,ha⟩:=e s hs;obtain⟨b,hb⟩:=h s hs;exact⟨a+b,by grind⟩⟩
 |(c,g)::G=>by
  have ih:=lq p R d t G;refine⟨⟨λ_=>0,_,ih.zero,λs _=>⟨0,?_⟩⟩,?_,?_,?_⟩
  .have:(if c<=t then sm (Ys (t-c)) (λ_=>(0:Int)) (λy=>dh y g) s else 0)=0:=by
    split
    .exact jT _ _ λ_ _=>rfl
    .rfl
   rw[this];show (0:Int)-(0+0)=p*0;simp
  .rintro f f' ⟨a,h,h1,h2⟩ ⟨a',h',h1',h2'⟩;refine⟨λy=>a y+a' y,_,ih.add h1 h1',λs hs=>?_⟩;obtain⟨k,hk⟩:=h2 s hs;obtain⟨m,hm⟩:=h2' s hs;refine⟨k+m,?_⟩;by_cases hc:c<=t
   .rw[LI hc] at hk hm⊢;rw[wN];grind
   .rw[LH hc] at hk hm⊢;grind
  .rintro e f ⟨a,h,h1,h2⟩;refine⟨λy=>e*a y,_,ih.mul e h1,λs hs=>?_⟩;obtain⟨k,hk⟩:=h2 s hs;refine⟨e*k,?_⟩;by_cases hc:c<=t
   .rw[LI hc] at hk⊢;rw[sg];grind
   .rw[LH hc] at hk⊢;grind
  .rintro f f' e ⟨a,h,h1,h2⟩;refine⟨a,h,h1,λs hs=>?_⟩;obtain⟨k,hk⟩:=h2 s hs;obtain⟨m,hm⟩:=e s hs;exact⟨k+m,by grind⟩
theorem CS{μ ν τ:Type}(h:ν->μ)(a:μ->Int)(φ:μ->τ->Int)(t:τ)(l:List ν):sm (l.map h) a φ t=sm l (λy=>a (h y)) (λy=>φ (h y)) t:=by unfold sm;rw[List.map_map];rfl
theorem CU{μ τ τ':Type}{a:μ->Int}{φ:μ->τ->Int}{ψ:μ->τ'->Int}{t:τ}{u:τ'}(h:∀y,φ y t=ψ y u)(l:List μ):sm l a φ t=sm l a ψ u:=by unfold sm;congr 1;exact List.map_congr_left λy _=>by rw[h]
theorem CV(x:Mt)(l:List Mt)(a:Mt->Int)(g:Tt->Int)(s:Tt):sm l a (λy=>dh (bF x y) g) s=dh x (λu=>sm l a (λy=>dh y g) u) s:=by
 by_cases h:dr x s.2
 .have e:=jS h;rw[<-e];generalize (s.1,cZ x s.2)=u;rw[gA];exact CU (λy=>by rw[<-wP,gA]) l
 .rw[gB h];have:∀y,dh (bF x y) g s=0:=λy=>by rw[<-wP,gB h]
  unfold sm;rw[List.map_congr_left (g:=λ_=>(0:Int)) λy _=>by show a y*dh (bF x y) g s=0;rw[this];simp];clear this h;induction l with
  |nil=>rfl
  |cons y l ih=>simp[ih]
theorem wQ(x:Mt)(k:Nat)(a:Mt->Int)(g:Tt->Int):∃b:Mt->Int,(∀y,b (bF x y)=if aG y=k then a y else 0)/\(∀z,¬dr x z->b z=0)/\∀s,sm (Ys (k+aG x)) b (λy=>dh y g) s=dh x (λu=>sm (Ys k) a (λy=>dh y g) u) s:=by
 have hnd:((Ys k).map (bF x)).Nodup:=List.Pairwise.map _ (λu v h e=>h (r7 e)) (pz k);obtain⟨b,b1,b2,b3⟩:=wO (Ys (k+aG x)) (pz _) (λy=>dh y g) ((Ys k).map (bF x)) hnd (λy hy=>by
  obtain⟨z,hz,rfl⟩:=LC.1 hy;rw[iZ] at hz⊢;rw[kE];omega) λy=>a (cZ x y)
 refine⟨b,λy=>?_,λz hz=>b1 z λhc=>?_,λs=>?_⟩
 .by_cases h:aG y=k
  .rw[LI h,b2 _ (LC.2 ⟨y,iZ.2 h,rfl⟩),n5]
  .rw[LH h];refine b1 _ λhc=>h ?_;obtain⟨z,hz,e⟩:=LC.1 hc;rw[<-r7 e];exact iZ.1 hz
 .obtain⟨y,_,rfl⟩:=LC.1 hc;exact hz (r8 x y)
 .rw[b3,CS,<-CV];exact mp _ _ λy _=>by rw[n5]
theorem so{p:Int}{R:Nat}{d:Nat->Nat}(x:Mt):∀(G:List (Nat×(Tt->Int))) (t:Nat) (f:Tt->Int),Vm p R d G t f->Vm p R d G (t+aG x) (dh x f)
 |[],t,f,h=>λs hs=>by
  by_cases hl:dr x s.2
  .have e:=jS hl;rw[<-e] at hs⊢;rw[gA];exact h _ (mo.1 hs)
  .rw[gB hl];exact⟨0,by simp⟩
 |(c,g)::G,t,f,⟨a,h,h1,h2⟩=>by
  have ih:=so x G t h h1;by_cases hc:c<=t
  .obtain⟨b,_,_,b3⟩:=wQ x (t-c) a g;refine⟨b,_,ih,λs hs=>?_⟩;rw[LI (by omega),show t+aG x-c=t-c+aG x by omega,b3];by_cases hl:dr x s.2
   .have e:=jS hl;rw[<-e] at hs⊢;generalize (s.1,cZ x s.2)=u at hs⊢;have h3:=h2 u (mo.1 hs);rw[LI hc] at h3;rw[gA,gA,gA];exact h3
   .rw[gB hl,gB hl,gB hl];exact⟨0,by simp⟩
  .refine⟨λ_=>0,_,ih,λs hs=>?_⟩;have hz:(if c<=t+aG x then sm (Ys (t+aG x-c)) (λ_=>(0:Int)) (λy=>dh y g) s else 0)=0:=by
    split
    .exact jT _ _ λ_ _=>rfl
    .rfl
   rw[hz];by_cases hl:dr x s.2
   .have e:=jS hl;rw[<-e] at hs⊢;generalize (s.1,cZ x s.2)=u at hs⊢;have h3:=h2 u (mo.1 hs);rw[LH hc] at h3;rw[gA,gA];exact h3
   .rw[gB hl,gB hl];exact⟨0,by simp⟩
def LM(O:Od Tt)(p:Int)(R:Nat)(d:Nat->Nat)(G:List (Nat×(Tt->Int)))(s:Tt):Prop:=Ld O p (Ts R d (d s.1+aG s.2)) (Vm p R d G (d s.1+aG s.2)) s
def LJ(P:Od Mt)(p:Int)(R:Nat)(d:Nat->Nat)(c:Nat)(g:Tt->Int)(G:List (Nat×(Tt->Int)))(y:Mt):Prop:=Ld P p (Ys (aG y)) (λa=>Vm p R d G (aG y+c) λt=>sm (Ys (aG y)) a (λy=>dh y g) t) y
theorem LM.up{O:Od Tt}(hO:∀x {s t},O.lt s t->O.lt (di x s) (di x t)){p:Int}{R:Nat}{d:Nat->Nat}{G:List (Nat×(Tt->Int))}{s:Tt}(x:Mt)(h:LM O p R d G s):LM O p R d G (di x s):=by
 obtain⟨f,h1,h2,h3,h4⟩:=h;have e:d (di x s).1+aG (di x s).2=d s.1+aG s.2+aG x:=by simp only[di];rw[kE];omega
 unfold LM;rw[e];refine⟨_,so x G _ f h1,mo.2 h2,by rw[gA];exact h3,λu hu hl=>?_⟩;by_cases hle:dr x u.2
 .have e2:=jS hle;rw[<-e2] at hu hl⊢;generalize (u.1,cZ x u.2)=v at hu hl⊢;rw[gA];refine h4 v (mo.1 hu) ?_;rcases O.tri s v with h|h|h
  .exact h
  .rw[h] at hl;exact absurd hl (O.irr _)
  .exact absurd (O.trans hl (hO x h)) (O.irr _)
 .rw[gB hle];exact⟨0,by simp⟩
theorem LJ.up{P:Od Mt}(hP:∀x {s t},P.lt s t->P.lt (bF x s) (bF x t)){p:Int}{R:Nat}{d:Nat->Nat}{c:Nat}{g:Tt->Int}{G:List (Nat×(Tt->Int))}{y:Mt}(x:Mt)(h:LJ P p R d c g G y):LJ P p R d c g G (bF x y):=by
 obtain⟨a,h1,h2,h3,h4⟩:=h;obtain⟨b,b1,b2,b3⟩:=wQ x (aG y) a g;have e:aG (bF x y)=aG y+aG x:=by rw[kE];omega
 unfold LJ;rw[e];refine⟨b,?_,by rw[iZ,e],by rw[b1,LI rfl];exact h3,λz hz hl=>?_⟩
 .have h5:=so x G _ _ h1;rw[show aG y+c+aG x=aG y+aG x+c by omega] at h5;exact(lq p R d _ G).con (λs _=>⟨0,by rw[b3];omega⟩) h5
 .by_cases hle:dr x z
  .have e2:=rW hle;rw[<-e2] at hz hl⊢;generalize cZ x z=v at hz hl⊢;rw[iZ,kE] at hz;rw[b1,LI (by omega)];refine h4 v (iZ.2 (by omega)) ?_;rcases P.tri y v with h|h|h
   .exact h
   .rw[h] at hl;exact absurd hl (P.irr _)
   .exact absurd (P.trans hl (hP x h)) (P.irr _)
  .rw[b2 z hle];exact⟨0,by simp⟩
end Go.Proofs.YteimdcndjjclnaaGreat.Cn
