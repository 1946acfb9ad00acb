/- How many leads there are of what is made of a module and of the multiples of one vector more (plain mathematics). -/
import Derived.Test.YtjkalahhpobefaaGreatDA
namespace Go.Proofs.YtjkalahhpobefaaGreat.Cn
open Go.Proofs.Tryz
set_option linter.unusedSimpArgs false
set_option linter.unusedVariables false
structure Od(τ:Type) where
 lt:τ->τ->Prop
 wf:WellFounded lt
 tri:∀s t,lt s t\/s=t\/lt t s
 trans:∀{a b c},lt a b->lt b c->lt a c
theorem Od.irr{τ:Type}(O:Od τ)(t:τ):¬O.lt t t:=O.wf.induction (C:=λt=>¬O.lt t t) t λx ih h=>ih x h h
structure jl{τ:Type}(p:Int)(T:List τ)(V:(τ->Int)->Prop):Prop where
 zero:V λ_=>0
 add:∀{f g},V f->V g->V λt=>f t+g t
 mul:∀(c:Int){f},V f->V λt=>c*f t
 con:∀{f g},(∀t∈T,p∣g t-f t)->V f->V g
def iV{τ:Type}(O:Od τ)(p:Int)(T:List τ)(f:τ->Int)(t:τ):Prop:=t∈T/\¬p∣f t/\∀s∈T,O.lt t s->p∣f s
def Ld{τ:Type}(O:Od τ)(p:Int)(T:List τ)(V:(τ->Int)->Prop)(t:τ):Prop:=∃f,V f/\iV O p T f t
def bC{τ:Type}(P:τ->Prop)(n:Nat):Prop:=∃l:List τ,l.Nodup/\(∀t,t∈l↔P t)/\l.length=n
def Pr(p:Int):Prop:=∀c,¬p∣c->∃d,p∣c*d-1
variable{p:Int}
theorem Pr.mul(h:Pr p){c x:Int}(hc:¬p∣c)(hx:¬p∣x):¬p∣c*x:=λhd=>hx (by
 obtain⟨d,k,hk⟩:=h c hc;obtain⟨m,hm⟩:=hd;exact⟨m*d-k*x,by grind⟩)
theorem zH{τ:Type}(O:Od τ):∀(l:List τ),l≠[]->∃m∈l,∀s∈l,¬O.lt m s
 |[],h=>absurd rfl h
 |[a],_=>⟨a,by simp,λs hs=>by rw[N2] at hs;rw[hs];exact O.irr a⟩
 |a::b::l,_=>by
  obtain⟨m,h1,h2⟩:=zH O (b::l) (by simp);by_cases h:O.lt m a
  .refine⟨a,by simp,λs hs=>?_⟩;rcases Og.1 hs with rfl|hs
   .exact O.irr _
   .exact λhc=>h2 s hs (O.trans h hc)
  .refine⟨m,List.mem_cons_of_mem _ h1,λs hs=>?_⟩;rcases Og.1 hs with rfl|hs
   .exact h
   .exact h2 s hs
theorem qO{τ:Type}(O:Od τ){T:List τ}{f:τ->Int}(h:∃t∈T,¬p∣f t):∃t,iV O p T f t:=by
 obtain⟨t0,h1,h2⟩:=h;obtain⟨m,h3,h4⟩:=zH O (T.filter λt=>decide (¬p∣f t)) (λe=>by
  have:t0∈T.filter λt=>decide (¬p∣f t):=Om.2 ⟨h1,by simpa using h2⟩;rw[e] at this;simp at this)
 obtain⟨h5,h6⟩:=Om.1 h3;refine⟨m,h5,by simpa using h6,λs hs hlt=>?_⟩;apply Oj;intro hn;exact h4 s (Om.2 ⟨hs,by simpa using hn⟩) hlt
theorem qB{τ:Type}{O:Od τ}{T:List τ}{f:τ->Int}{s t:τ}(h:iV O p T f s)(k:iV O p T f t):s=t:=by
 rcases O.tri s t with hl|e|hl
 .exact absurd (h.2.2 t k.1 hl) k.2.1
 .exact e
 .exact absurd (k.2.2 s h.1 hl) h.2.1
theorem qA{τ:Type}{O:Od τ}{T:List τ}{f g:τ->Int}{t:τ}(h:iV O p T f t)(e:∀t∈T,p∣g t-f t):iV O p T g t:=by
 have back:∀s∈T,p∣g s->p∣f s:=λs hs ⟨k,hk⟩=>by obtain⟨m,hm⟩:=e s hs;exact⟨k-m,by rw[Int.mul_sub];omega⟩
 have fwd:∀s∈T,p∣f s->p∣g s:=λs hs ⟨k,hk⟩=>by obtain⟨m,hm⟩:=e s hs;exact⟨k+m,by rw[Int.mul_add];omega⟩
 exact⟨h.1,λhd=>h.2.1 (back t h.1 hd),λs hs hl=>fwd s hs (h.2.2 s hs hl)⟩
def qP{τ:Type}(p:Int)(T:List τ)(V:(τ->Int)->Prop)(w f:τ->Int):Prop:=∃(c:Int)(g:τ->Int),V g/\∀t∈T,p∣f t-(g t+c*w t)
theorem jl.plus{τ:Type}{T:List τ}{V:(τ->Int)->Prop}(h:jl p T V)(w:τ->Int):jl p T (qP p T V w) where
 zero:=⟨0,_,h.zero,λt _=>⟨0,by grind⟩⟩
 add:=fun⟨c,g,h1,h2⟩ ⟨d,k,h3,h4⟩=>⟨c+d,_,h.add h1 h3,λt ht=>by
  obtain⟨a,ha⟩:=h2 t ht;obtain⟨b,hb⟩:=h4 t ht;exact⟨a+b,by grind⟩⟩
 mul:=λe {f} ⟨c,g,h1,h2⟩=>⟨e*c,_,h.mul e h1,λt ht=>by
  obtain⟨a,ha⟩:=h2 t ht;exact⟨e*a,by grind⟩⟩
 con:=λhc ⟨c,g,h1,h2⟩=>⟨c,g,h1,λt ht=>by
  obtain⟨a,ha⟩:=h2 t ht;obtain⟨b,hb⟩:=hc t ht;exact⟨a+b,by grind⟩⟩
theorem Fq{τ:Type}(O:Od τ)(hp:Pr p){T:List τ}{V:(τ->Int)->Prop}(hV:jl p T V)(t:τ):∀w,¬V w->iV O p T w t->∃g,V g/\∃u,iV O p T (λs=>w s-g s) u/\¬Ld O p T V u:=by
 refine O.wf.induction (C:=λt=>∀w,¬V w->iV O p T w t->∃g,V g/\∃u,iV O p T (λs=>w s-g s) u/\¬Ld O p T V u) t ?_;intro t ih w hw hl;by_cases hd:Ld O p T V t
 .obtain⟨h,h1,h2⟩:=hd;obtain⟨d,hdv⟩:=hp _ h2.2.1;have hv:=hV.mul (w t*d) h1;have hw1:¬V λs=>w s-w t*d*h s:=λhc=>hw (hV.con (λs _=>⟨0,by grind⟩) (hV.add hc hv));have hne:∃s∈T,¬p∣w s-w t*d*h s:=Oj λhc=>hw1 (hV.con (λs hs=>by
   have:p∣w s-w t*d*h s:=Oj λh=>hc ⟨s,hs,h⟩;simpa using this) hV.zero)
  obtain⟨t1,hl1⟩:=qO O (f:=λs=>w s-w t*d*h s) hne;have hlt:O.lt t1 t:=by
   rcases O.tri t1 t with hx|e|hx
   .exact hx
   .exfalso;apply hl1.2.1;rw[e];obtain⟨k,hk⟩:=hdv;exact⟨-(w t*k),by grind⟩
   .exfalso;apply hl1.2.1;obtain⟨a,ha⟩:=hl.2.2 t1 hl1.1 hx;obtain⟨b,hb⟩:=h2.2.2 t1 hl1.1 hx;exact⟨a-w t*d*b,by grind⟩
  obtain⟨g,g1,u,g2,g3⟩:=ih t1 hlt _ hw1 hl1;exact⟨_,hV.add g1 hv,u,qA g2 (λs _=>⟨0,by grind⟩),g3⟩
 .exact⟨_,hV.zero,t,qA hl (λs _=>⟨0,by grind⟩),hd⟩
variable{n:Nat}
theorem Fr{τ:Type}(O:Od τ)(hp:Pr p){T:List τ}{V:(τ->Int)->Prop}(hV:jl p T V){w:τ->Int}(hw:¬V w)(hn:bC (Ld O p T V) n):bC (Ld O p T (qP p T V w)) (n+1):=by
 have hne:∃s∈T,¬p∣w s:=Oj λhc=>hw (hV.con (λs hs=>by
  have:p∣w s:=Oj λh=>hc ⟨s,hs,h⟩;simpa using this) hV.zero)
 obtain⟨t0,hl0⟩:=qO O hne;obtain⟨g0,g1,u,hu,hnu⟩:=Fq O hp hV t0 w hw hl0;obtain⟨l,l1,l2,l3⟩:=hn;refine⟨u::l,List.nodup_cons.2 ⟨λh=>hnu ((l2 u).1 h),l1⟩,λt=>?_,by simp[l3]⟩;rw[Og,l2];constructor
 .rintro (rfl|⟨f,h1,h2⟩)
  .exact⟨_,⟨1,_,hV.mul (-1) g1,λs _=>⟨0,by grind⟩⟩,hu⟩
  .exact⟨f,⟨0,f,h1,λs _=>⟨0,by grind⟩⟩,h2⟩
 .rintro ⟨f,⟨c,g,h1,h2⟩,h3⟩;have hg1:=hV.add h1 (hV.mul c g1);have hfe:∀s∈T,p∣f s-((g s+c*g0 s)+c*(w s-g0 s)):=λs hs=>by obtain⟨k,hk⟩:=h2 s hs;exact⟨k,by grind⟩
  by_cases hc:p∣c
  .right;refine⟨_,hg1,qA h3 λs hs=>?_⟩;obtain⟨k,hk⟩:=hfe s hs;obtain⟨m,hm⟩:=hc;exact⟨-k-m*(w s-g0 s),by grind⟩
  .by_cases hz:∃s∈T,¬p∣g s+c*g0 s
   .obtain⟨v,hv⟩:=qO O (f:=λs=>g s+c*g0 s) hz;have hvl:Ld O p T V v:=⟨_,hg1,hv⟩;rcases O.tri v u with hlt|e|hlt
    .left;refine qB h3 ⟨hu.1,λhd=>?_,λs hs hl=>?_⟩
     .apply hp.mul hc hu.2.1;obtain⟨a,ha⟩:=hd;obtain⟨b,hb⟩:=hfe u hu.1;obtain⟨k,hk⟩:=hv.2.2 u hu.1 hlt;exact⟨a-b-k,by grind⟩
     .obtain⟨b,hb⟩:=hfe s hs;obtain⟨k,hk⟩:=hv.2.2 s hs (O.trans hlt hl);obtain⟨m,hm⟩:=hu.2.2 s hs hl;exact⟨b+k+c*m,by grind⟩
    .exact absurd (e ▸ hvl) hnu
    .right;have:t=v:=qB h3 ⟨hv.1,λhd=>hv.2.1 (by
      obtain⟨a,ha⟩:=hd;obtain⟨b,hb⟩:=hfe v hv.1;obtain⟨m,hm⟩:=hu.2.2 v hv.1 hlt;exact⟨a-b-c*m,by grind⟩),λs hs hl=>by
      obtain⟨b,hb⟩:=hfe s hs;obtain⟨k,hk⟩:=hv.2.2 s hs hl;obtain⟨m,hm⟩:=hu.2.2 s hs (O.trans hlt hl);exact⟨b+k+c*m,by grind⟩⟩
     rw[this];exact hvl
   .left;have hz0:∀s∈T,p∣g s+c*g0 s:=λs hs=>Oj λh=>hz ⟨s,hs,h⟩;refine qB h3 ⟨hu.1,λhd=>?_,λs hs hl=>?_⟩
    .apply hp.mul hc hu.2.1;obtain⟨a,ha⟩:=hd;obtain⟨b,hb⟩:=hfe u hu.1;obtain⟨k,hk⟩:=hz0 u hu.1;exact⟨a-b-k,by grind⟩
    .obtain⟨b,hb⟩:=hfe s hs;obtain⟨k,hk⟩:=hz0 s hs;obtain⟨m,hm⟩:=hu.2.2 s hs hl;exact⟨b+k+c*m,by grind⟩
def sm{μ τ:Type}(l:List μ)(a:μ->Int)(φ:μ->τ->Int)(t:τ):Int:=(l.map λy=>a y*φ y t).sum
theorem fJ{μ τ:Type}(y:μ)(l:List μ)(a:μ->Int)(φ:μ->τ->Int)(t:τ):sm (y::l) a φ t=a y*φ y t+sm l a φ t:=by simp[sm]
theorem yV{μ τ:Type}(a b:μ->Int)(φ:μ->τ->Int)(t:τ):∀l,sm l (λy=>a y+b y) φ t=sm l a φ t+sm l b φ t
 |[]=>rfl
 |y::l=>by rw[fJ,fJ,fJ,yV a b φ t l];grind
theorem tV{μ τ:Type}(c:Int)(a:μ->Int)(φ:μ->τ->Int)(t:τ):∀l,sm l (λy=>c*a y) φ t=c*sm l a φ t
 |[]=>by simp[sm]
 |y::l=>by rw[fJ,fJ,tV c a φ t l];grind
theorem mU{μ τ:Type}{a b:μ->Int}(φ:μ->τ->Int)(t:τ):∀{l:List μ},(∀y∈l,a y=b y)->sm l a φ t=sm l b φ t
 |[],_=>rfl
 |y::l,h=>by rw[fJ,fJ,h y (by simp),mU φ t λz hz=>h z (List.mem_cons_of_mem _ hz)]
theorem kj{μ τ:Type}{a:μ->Int}(φ:μ->τ->Int)(t:τ):∀{l:List μ},(∀y∈l,a y=0)->sm l a φ t=0
 |[],_=>rfl
 |y::l,h=>by rw[fJ,h y (by simp),kj φ t λz hz=>h z (List.mem_cons_of_mem _ hz)];simp
def gr{τ:Type}(p:Int)(T:List τ):((τ->Int)->Prop)->List (τ->Int)->(τ->Int)->Prop
 |V,[]=>V
 |V,w::ws=>gr p T (qP p T V w) ws
theorem uq{τ:Type}{p:Int}{T:List τ}:∀{ws:List (τ->Int)} {V:(τ->Int)->Prop},jl p T V->jl p T (gr p T V ws)
 |[],_,h=>h
 |w::ws,_,h=>uq (ws:=ws) (h.plus w)
theorem nf{μ τ:Type}{p:Int}{T:List τ}(φ:μ->τ->Int):∀{l:List μ} {V:(τ->Int)->Prop},jl p T V->l.Nodup->∀f,gr p T V (l.map φ) f↔∃(a:μ->Int)(g:τ->Int),V g/\∀t∈T,p∣f t-(g t+sm l a φ t)
 |[],V,h,_,f=>by
  constructor
  .exact λhf=>⟨λ_=>0,f,hf,λt _=>⟨0,by simp[sm]⟩⟩
  .rintro ⟨a,g,h1,h2⟩;exact h.con (λt ht=>by have:=h2 t ht;simpa [sm] using this) h1
 |y::l,V,h,hn,f=>by
  have hnd:=List.nodup_cons.1 hn;show gr p T (qP p T V (φ y)) (l.map φ) f↔_;rw[nf φ (h.plus (φ y)) hnd.2 f];constructor
  .rintro ⟨a,g,⟨c,g2,h1,h2⟩,h3⟩;refine Oj λhc=>hc ?_;have:∃b:μ->Int,b y=c/\∀z∈l,b z=a z:=by refine⟨λz=>@ite _ (z=y) (Classical.propDecidable _) c (a z),by simp,λz hz=>?_⟩;have:z≠y:=λe=>hnd.1 (e ▸ hz);simp[this]
   obtain⟨b,b1,b2⟩:=this;refine⟨b,g2,h1,λt ht=>?_⟩;rw[fJ,b1,mU φ t b2];obtain⟨k,hk⟩:=h2 t ht;obtain⟨m,hm⟩:=h3 t ht;exact⟨k+m,by grind⟩
  .rintro ⟨a,g,h1,h2⟩;refine⟨a,λt=>g t+a y*φ y t,⟨a y,g,h1,λt _=>⟨0,by grind⟩⟩,λt ht=>?_⟩;obtain⟨k,hk⟩:=h2 t ht;rw[fJ] at hk;exact⟨k,by grind⟩
theorem zI{τ:Type}(O:Od τ){p:Int}(hp:Pr p){T:List τ}:∀{ws:List (τ->Int)} {V:(τ->Int)->Prop} {n:Nat},jl p T V->bC (Ld O p T V) n->(∀l w r,ws=l++w::r->¬gr p T V l w)->bC (Ld O p T (gr p T V ws)) (n+ws.length)
 |[],_,_,_,hn,_=>hn
 |w::ws,V,n,h,hn,hi=>by
  have h1:=Fr O hp h (hi [] w ws rfl) hn;have h2:=zI O hp (ws:=ws) (h.plus w) h1 λl v r e=>hi (w::l) v r (by rw[e];rfl);have e:n+1+ws.length=n+(w::ws).length:=by simp;omega
  rw[e] at h2;exact h2
theorem yW{μ τ:Type}(Y:List μ)(hY:Y.Nodup)(φ:μ->τ->Int)(r:List μ)(hr:r.Nodup)(hs:∀y∈r,y∈Y)(a:μ->Int):∃b:μ->Int,(∀y,y∉r->b y=0)/\(∀y∈r,b y=a y)/\∀t:τ,sm Y b φ t=sm r a φ t:=by
 refine⟨λy=>@ite _ (y∈r) (Classical.propDecidable _) (a y) 0,λy hy=>by simp[hy],λy hy=>by simp[hy],λt=>?_⟩;have gen:∀(Y r:List μ),Y.Nodup->r.Nodup->(∀y∈r,y∈Y)->sm Y (λy=>@ite _ (y∈r) (Classical.propDecidable _) (a y) 0) φ t=sm r a φ t:=by
  intro Y;induction Y with
  |nil=>
   intro r _ _ hs;have:r=[]:=List.eq_nil_iff_forall_not_mem.2 λy hy=>by have:=hs y hy;simp at this
   rw[this];rfl
  |cons z Y ih=>
   intro r hz hr hs;have hzn:=List.nodup_cons.1 hz;rw[fJ];by_cases hzr:z∈r
   .obtain⟨r1,r2,rfl⟩:=List.append_of_mem hzr;have hrn:=List.nodup_append.1 hr;have hr2:=List.nodup_cons.1 hrn.2.1;have hz1:z∉r1:=λh=>hrn.2.2 z h z (by simp) rfl;have hperm:(r1++r2).Nodup:=List.nodup_append.2 ⟨hrn.1,hr2.2,λu hu v hv=>hrn.2.2 u hu v (by simp[hv])⟩;have h:=ih (r1++r2) hzn.2 hperm λy hy=>by
     have hyz:y≠z:=λe=>by
      rcases N1.1 hy with h|h
      .exact hz1 (e ▸ h)
      .exact hr2.1 (e ▸ h)
     rcases Og.1 (hs y (by rcases N1.1 hy with h|h<;>simp[h])) with h|h
     .exact absurd h hyz
     .exact h
    have e1:sm Y (λy=>@ite _ (y∈r1++z::r2) (Classical.propDecidable _) (a y) 0) φ t=sm Y (λy=>@ite _ (y∈r1++r2) (Classical.propDecidable _) (a y) 0) φ t:=mU φ t λy hy=>by
     have hyz:y≠z:=λe=>hzn.1 (e ▸ hy);by_cases h9:y∈r1++r2
     .have h8:y∈r1++z::r2:=by rcases N1.1 h9 with h|h<;>simp[h]
      rw[Oe h8,Oe h9]
     .have h8:y∉r1++z::r2:=λh=>h9 (by
       rcases N1.1 h with h|h
       .simp[h]
       .rcases Og.1 h with h|h
        .exact absurd h hyz
        .simp[h])
      rw[Oc h8,Oc h9]
    rw[e1,h];simp only[sm,Oi,List.map_cons,List.sum_append,List.sum_cons,Oe hzr];omega
   .have h:=ih r hzn.2 hr λy hy=>by
     rcases Og.1 (hs y hy) with h|h
     .exact absurd (h ▸ hy) hzr
     .exact h
    rw[h,Oc hzr];simp
 exact gen Y r hY hr hs
theorem E6{μ τ:Type}(O:Od τ)(P:Od μ)(hp:Pr p)(hp1:¬p∣1){T:List τ}{V:(τ->Int)->Prop}(hV:jl p T V)(hn:bC (Ld O p T V) n)(Y:List μ)(hY:Y.Nodup)(φ:μ->τ->Int){k:Nat}(hk:bC (λy=>y∈Y/\¬Ld P p Y (λa=>V λt=>sm Y a φ t) y) k):bC (Ld O p T λf=>∃(a:μ->Int)(g:τ->Int),V g/\∀t∈T,p∣f t-(g t+sm Y a φ t)) (n+k):=by
 obtain⟨l,l1,l2,l3⟩:=hk;have ext:=λr hr hs a=>yW (τ:=τ) Y hY φ r hr hs a;have hlY:∀y∈l,y∈Y:=λy hy=>((l2 y).1 hy).1;have indep:∀r w s,l.map φ=r++w::s->¬gr p T V r w:=by
  intro r w s e hc;obtain⟨l',q,e1,e2,e3⟩:=List.map_eq_append_iff.1 e;obtain⟨y,m,e4,e5,e6⟩:=List.map_eq_cons_iff.1 e3;subst e2 e4 e5;have hnl:(l'++y::m).Nodup:=e1 ▸ l1;have hn1:=List.nodup_append.1 hnl;have hy1:y∉l':=λh=>hn1.2.2 y h y (by simp) rfl;obtain⟨a,g,g1,g2⟩:=(nf φ hV hn1.1 (φ y)).1 hc;have hyl:y∈l:=by rw[e1];simp
  have hl':∀z∈l',z∈l:=λz hz=>by rw[e1];simp[hz]
  have hnd:(y::l').Nodup:=List.nodup_cons.2 ⟨hy1,hn1.1⟩;have hcoef:∃c:μ->Int,c y=1/\∀z∈l',c z=-a z:=by refine⟨λz=>@ite _ (z=y) (Classical.propDecidable _) 1 (-a z),by simp,λz hz=>?_⟩;have:z≠y:=λe=>hy1 (e ▸ hz);simp[this]
  obtain⟨c,c1,c2⟩:=hcoef;obtain⟨b,b1,b2,b3⟩:=ext (y::l') hnd (λz hz=>by
   rcases Og.1 hz with rfl|hz
   .exact hlY _ hyl
   .exact hlY z (hl' z hz)) c
  have hJ:V λt=>sm Y b φ t:=hV.con (λt ht=>by
   rw[b3 t,fJ,c1,mU φ t c2];have e7:sm l' (λz=>-a z) φ t=-sm l' a φ t:=by have:=tV (-1) a φ t l';rw[<-show (-1)*sm l' a φ t=-sm l' a φ t by omega,<-this];exact mU φ t λz _=>by omega
   obtain⟨k,hk⟩:=g2 t ht;exact⟨k,by grind⟩) g1
  obtain⟨u,hu⟩:=qO P (f:=b) ⟨y,hlY y hyl,by rw[b2 y (by simp),c1];exact hp1⟩;have hul:u∈y::l':=Oj λh=>hu.2.1 (by rw[b1 u h];exact⟨0,by simp⟩);have hu2:u∈l:=by
   rcases Og.1 hul with rfl|h
   .exact hyl
   .exact hl' u h
  exact((l2 u).1 hu2).2 ⟨b,hJ,hu⟩
 have hN:=zI O hp hV hn indep;rw[Oa,l3] at hN;obtain⟨q,q1,q2,q3⟩:=hN;have all:∀y,y∈Y->gr p T V (l.map φ) (φ y):=by
  intro y;refine P.wf.induction (C:=λy=>y∈Y->gr p T V (l.map φ) (φ y)) y ?_;intro y ih hy;by_cases hl:y∈l
  .refine(nf φ hV l1 _).2 ?_;have hex:∃a:μ->Int,∀t,sm l a φ t=φ y t:=by
    obtain⟨r1,r2,e⟩:=List.append_of_mem hl;have hn1:=List.nodup_append.1 (e ▸ l1);have hy1:y∉r1:=λh=>hn1.2.2 y h y (by simp) rfl;have hy2:y∉r2:=(List.nodup_cons.1 hn1.2.1).1;refine⟨λz=>@ite _ (z=y) (Classical.propDecidable _) 1 0,λt=>?_⟩;rw[e];have z1:sm r1 (λz=>@ite _ (z=y) (Classical.propDecidable _) (1:Int) 0) φ t=0:=kj φ t λz hz=>by have:z≠y:=λe=>hy1 (e ▸ hz);simp[this]
    have z2:sm r2 (λz=>@ite _ (z=y) (Classical.propDecidable _) (1:Int) 0) φ t=0:=kj φ t λz hz=>by have:z≠y:=λe=>hy2 (e ▸ hz);simp[this]
    unfold sm at z1 z2⊢;rw[Oi,List.map_cons,List.sum_append,List.sum_cons,z1,z2];simp
   obtain⟨a,ha⟩:=hex;exact⟨a,_,hV.zero,λt _=>⟨0,by rw[ha];omega⟩⟩
  .have hld:Ld P p Y (λa=>V λt=>sm Y a φ t) y:=Oj λh=>hl ((l2 y).2 ⟨hy,h⟩);obtain⟨b,hb,hb2⟩:=hld;obtain⟨d,hd⟩:=hp _ hb2.2.1;have hS:=uq (ws:=l.map φ) hV;have rest:gr p T V (l.map φ) λt=>sm Y b φ t-b y*φ y t:=by
    obtain⟨r1,r2,e⟩:=List.append_of_mem hy;have hn1:=List.nodup_append.1 (e ▸ hY);have hy1:y∉r1:=λh=>hn1.2.2 y h y (by simp) rfl;have hy2:y∉r2:=(List.nodup_cons.1 hn1.2.1).1;have part:∀r:List μ,(∀z∈r,z∈Y/\z≠y)->gr p T V (l.map φ) λt=>sm r b φ t:=by
     intro r;induction r with
     |nil=>exact λ_=>hS.zero
     |cons z r ihr=>
      intro hz;have h1:=hz z (by simp);have h2:=ihr λv hv=>hz v (by simp[hv]);have h3:gr p T V (l.map φ) λt=>b z*φ z t:=by
       by_cases hzl:P.lt z y
       .exact hS.mul _ (ih z hzl h1.1)
       .have:P.lt y z:=by
         rcases P.tri z y with h|h|h
         .exact absurd h hzl
         .exact absurd h h1.2
         .exact h
        obtain⟨k,hk⟩:=hb2.2.2 z h1.1 this;exact hS.con (λt _=>⟨k*φ z t,by grind⟩) hS.zero
      exact hS.con (λt _=>⟨0,by rw[fJ];omega⟩) (hS.add h3 h2)
    refine hS.con (λt _=>⟨0,?_⟩) (hS.add (part r1 λz hz=>⟨by rw[e];simp[hz],λe=>hy1 (e ▸ hz)⟩) (part r2 λz hz=>⟨by rw[e];simp[hz],λe=>hy2 (e ▸ hz)⟩));rw[e];simp only[sm,Oi,List.map_cons,List.sum_append,List.sum_cons];omega
   have incl:gr p T V (l.map φ) λt=>sm Y b φ t:=(nf φ hV l1 _).2 ⟨λ_=>0,_,hb,λt _=>⟨0,by rw[kj φ t λ_ _=>rfl];omega⟩⟩;have h4:=hS.mul d (hS.add incl (hS.mul (-1) rest));refine hS.con (λt _=>?_) h4;obtain⟨k,hk⟩:=hd;exact⟨-(k*φ y t),by grind⟩
 refine⟨q,q1,λt=>?_,q3⟩;rw[q2];have same:∀f,gr p T V (l.map φ) f↔∃(a:μ->Int)(g:τ->Int),V g/\∀t∈T,p∣f t-(g t+sm Y a φ t):=by
  intro f;have hS:=uq (ws:=l.map φ) hV;constructor
  .intro h;obtain⟨a,g,g1,g2⟩:=(nf φ hV l1 f).1 h;obtain⟨b,_,_,b3⟩:=ext l l1 hlY a;exact⟨b,g,g1,λt ht=>by rw[b3];exact g2 t ht⟩
  .rintro ⟨a,g,g1,g2⟩;have hgv:gr p T V (l.map φ) g:=(nf φ hV l1 _).2 ⟨λ_=>0,g,g1,λt _=>⟨0,by rw[kj φ t λ_ _=>rfl];omega⟩⟩;have part:∀r:List μ,(∀z∈r,z∈Y)->gr p T V (l.map φ) λt=>sm r a φ t:=by
    intro r;induction r with
    |nil=>exact λ_=>hS.zero
    |cons z r ihr=>intro hz;exact hS.con (λt _=>⟨0,by rw[fJ];omega⟩) (hS.add (hS.mul (a z) (all z (hz z (by simp)))) (ihr λv hv=>hz v (by simp[hv])))
   exact hS.con g2 (hS.add hgv (part Y λz hz=>hz))
 constructor
 .rintro ⟨f,h1,h2⟩;exact⟨f,(same f).1 h1,h2⟩
 .rintro ⟨f,h1,h2⟩;exact⟨f,(same f).2 h1,h2⟩
variable{a b:Nat}
theorem bC.uniq{τ:Type}{A:τ->Prop}(h:bC A a)(k:bC A b):a=b:=by
 obtain⟨l,p1,p2,p3⟩:=h;obtain⟨m,q1,q2,q3⟩:=k;have:l.Perm m:=(List.perm_ext_iff_of_nodup p1 q1).2 λx=>by rw[p2,q2]
 rw[<-p3,<-q3,this.length_eq]
theorem bC.congr{τ:Type}{A B:τ->Prop}(h:bC A a)(e:∀t,A t↔B t):bC B a:=by obtain⟨l,p1,p2,p3⟩:=h;exact⟨l,p1,λt=>by rw[p2,e],p3⟩
theorem bC.none{τ:Type}{A:τ->Prop}(h:∀t,¬A t):bC A 0:=⟨[],List.Pairwise.nil,λt=>by simp[h t],rfl⟩
theorem bC.or{τ:Type}{A B:τ->Prop}(h:bC A a)(k:bC B b)(hd:∀t,A t->¬B t):bC (λt=>A t\/B t) (a+b):=by obtain⟨l,p1,p2,p3⟩:=h;obtain⟨m,q1,q2,q3⟩:=k;exact⟨l++m,List.nodup_append.2 ⟨p1,q1,λu hu v hv e=>hd u ((p2 u).1 hu) (e ▸ (q2 v).1 hv)⟩,λt=>by rw[N1,p2,q2],by simp[p3,q3]⟩
theorem bC.map{σ τ:Type}{A:σ->Prop}{B:τ->Prop}(h:bC A a)(f:σ->τ)(hf:∀x y,A x->A y->f x=f y->x=y)(e:∀t,B t↔∃s,A s/\f s=t):bC B a:=by
 obtain⟨l,p1,p2,p3⟩:=h;refine⟨l.map f,?_,λt=>?_,by simp[p3]⟩
 .refine List.pairwise_map.2 (p1.imp_of_mem λhx hy hne e=>hne (hf _ _ ((p2 _).1 hx) ((p2 _).1 hy) e))
 .rw[e,N9];exact⟨fun⟨s,h1,h2⟩=>⟨s,(p2 s).1 h1,h2⟩,fun⟨s,h1,h2⟩=>⟨s,(p2 s).2 h1,h2⟩⟩
end Go.Proofs.YtjkalahhpobefaaGreat.Cn
namespace Go.Proofs.YtjkalahhpobefaaGreat.C4
open Go.Proofs.Tryz
set_option linter.unusedSimpArgs false
set_option linter.unusedVariables false
open Cn (Od jl iV bC Pr sm kj yV tV yW mU fJ)
abbrev Mt:=Nat×Nat×Nat×Nat
abbrev Tt:=Nat×Mt
def aC(y:Mt):Nat:=y.1+y.2.1+y.2.2.1+y.2.2.2
def bK(x y:Mt):Mt:=(x.1+y.1,x.2.1+y.2.1,x.2.2.1+y.2.2.1,x.2.2.2+y.2.2.2)
def dJ(x y:Mt):Mt:=(y.1-x.1,y.2.1-x.2.1,y.2.2.1-x.2.2.1,y.2.2.2-x.2.2.2)
abbrev cl(x y:Mt):Prop:=x.1<=y.1/\x.2.1<=y.2.1/\x.2.2.1<=y.2.2.1/\x.2.2.2<=y.2.2.2
theorem lZ(x y:Mt):aC (bK x y)=aC x+aC y:=by simp only[aC,bK];omega
theorem oP(x y:Mt):dJ x (bK x y)=y:=by obtain⟨a,b,c,e⟩:=y;simp only[dJ,bK];refine Prod.ext ?_ (Prod.ext ?_ (Prod.ext ?_ ?_))<;>simp only<;>omega
variable{x y:Mt}
theorem oM(h:cl x y):bK x (dJ x y)=y:=by obtain⟨a,b,c,e⟩:=y;obtain⟨h1,h2,h3,h4⟩:=h;simp only[dJ,bK] at*;refine Prod.ext ?_ (Prod.ext ?_ (Prod.ext ?_ ?_))<;>simp only<;>omega
theorem qt(x y:Mt):cl x (bK x y):=by simp only[cl,bK];omega
theorem qq{z:Mt}(h:bK x y=bK x z):y=z:=by rw[<-oP x y,h,oP]
def Ys(s:Nat):List Mt:=(List.range (s+1)).flatMap λa=>(List.range (s-a+1)).flatMap λb=>(List.range (s-a-b+1)).map λc=>(a,b,c,s-a-b-c)
theorem jk{s:Nat}:y∈Ys s↔aC y=s:=by
 obtain⟨a,b,c,e⟩:=y;simp only[Ys,OB,N9,List.mem_range,aC,Prod.mk.injEq];constructor
 .rintro ⟨a',h1,b',h2,c',h3,rfl,rfl,rfl,rfl⟩;omega
 .intro h;exact⟨a,by omega,b,by omega,c,by omega,rfl,rfl,rfl,by omega⟩
theorem tU{α β:Type}{f:α->List β}(g:β->α)(hg:∀a,∀b∈f a,g b=a)(hf:∀a,(f a).Nodup):∀{l:List α},l.Nodup->(l.flatMap f).Nodup
 |[],_=>List.Pairwise.nil
 |a::l,h=>by have hn:=List.nodup_cons.1 h;rw[List.flatMap_cons,List.nodup_append];refine⟨hf a,tU g hg hf hn.2,λu hu v hv e=>hn.1 ?_⟩;obtain⟨a',h1,h2⟩:=OB.1 hv;rw[<-hg a u hu,e,hg a' v h2];exact h1
theorem mT(s:Nat):(Ys s).Nodup:=tU (λy=>y.1) (λa b hb=>by obtain⟨c,_,h⟩:=OB.1 hb;obtain⟨e,_,rfl⟩:=N9.1 h;rfl) (λa=>tU (λy=>y.2.1) (λb c hc=>by obtain⟨e,_,rfl⟩:=N9.1 hc;rfl) (λb=>List.Pairwise.map _ (λu v h e=>h (by simp at e;omega)) List.nodup_range) List.nodup_range) List.nodup_range
def Ts(R:Nat)(d:Nat->Nat)(t:Nat):List Tt:=(List.range R).flatMap λi=>if d i<=t then (Ys (t-d i)).map λy=>(i,y) else []
variable{s:Tt}{t R:Nat}{d:Nat->Nat}
theorem dk:s∈Ts R d t↔s.1<R/\d s.1+aC s.2=t:=by
 obtain⟨i,y⟩:=s;simp only[Ts,OB,List.mem_range];constructor
 .rintro ⟨j,h1,h2⟩;by_cases h:d j<=t
  .rw[Oe h] at h2;obtain⟨z,h3,h4⟩:=N9.1 h2;simp only[Prod.mk.injEq] at h4;obtain⟨rfl,rfl⟩:=h4;rw[jk] at h3;exact⟨h1,show d j+aC z=t by omega⟩
  .rw[Oc h] at h2;simp at h2
 .rintro ⟨h1,h2⟩;have h1:i<R:=h1;have h2:d i+aC y=t:=h2;exact⟨i,h1,by rw[Oe (by omega)];exact N9.2 ⟨y,jk.2 (by omega),rfl⟩⟩
def aw(x:Mt)(s:Tt):Tt:=(s.1,bK x s.2)
def cO(x:Mt)(g:Tt->Int)(s:Tt):Int:=if cl x s.2 then g (s.1,dJ x s.2) else 0
theorem gK(x:Mt)(g:Tt->Int)(s:Tt):cO x g (aw x s)=g s:=by show (if cl x (bK x s.2) then g (s.1,dJ x (bK x s.2)) else 0)=g s;rw[Oe (qt x s.2),oP]
theorem gk{g:Tt->Int}(h:¬cl x s.2):cO x g s=0:=Oc h
theorem ki(h:cl x s.2):aw x (s.1,dJ x s.2)=s:=by simp only[aw];rw[oM h]
theorem yU(x y:Mt)(g:Tt->Int)(s:Tt):cO x (cO y g) s=cO (bK x y) g s:=by
 by_cases h:cl x s.2
 .have e:=ki h;rw[<-e];generalize (s.1,dJ x s.2)=u;rw[gK];by_cases h2:cl y u.2
  .have e2:=ki h2;rw[<-e2];generalize (u.1,dJ y u.2)=v;rw[gK];have e3:aw x (aw y v)=aw (bK x y) v:=by simp only[aw,bK,Nat.add_assoc]
   rw[e3,gK]
  .rw[gk h2,gk];intro h3;apply h2;simp only[cl,bK,aw] at*;omega
 .rw[gk h,gk];intro h3;apply h;simp only[cl,bK] at*;omega
theorem lY:aw x s∈Ts R d (t+aC x)↔s∈Ts R d t:=by rw[dk,dk];simp only[aw];rw[lZ];omega
def Vm(p:Int)(R:Nat)(d:Nat->Nat):List (Nat×(Tt->Int))->Nat->(Tt->Int)->Prop
 |[],t,f=>∀s∈Ts R d t,p∣f s
 |(c,g)::G,t,f=>∃(a:Mt->Int)(h:Tt->Int),Vm p R d G t h/\∀s∈Ts R d t,p∣f s-(h s+if c<=t then sm (Ys (t-c)) a (λy=>cO y g) s else 0)
theorem mS(p:Int)(R:Nat)(d:Nat->Nat)(t:Nat):∀G,jl p (Ts R d t) (Vm p R d G t)
 |[]=>⟨λ_ _=>⟨0,by simp⟩,λh k s hs=>Int.dvd_add (h s hs) (k s hs),λc f h s hs=>Int.dvd_mul_of_dvd_right (h s hs),λe h s hs=>by
   obtain⟨a,ha⟩:=e s hs;obtain⟨b,hb⟩:=h s hs;exact⟨a+b,by grind⟩⟩
 |(c,g)::G=>by
  have ih:=mS p R d t G;refine⟨⟨λ_=>0,_,ih.zero,λs _=>⟨0,?_⟩⟩,?_,?_,?_⟩
  .have:(if c<=t then sm (Ys (t-c)) (λ_=>(0:Int)) (λy=>cO y g) s else 0)=0:=by
    split
    .exact kj _ _ λ_ _=>rfl
    .rfl
   rw[this];show (0:Int)-(0+0)=p*0;simp
  .rintro f f' ⟨a,h,h1,h2⟩ ⟨a',h',h1',h2'⟩;refine⟨λy=>a y+a' y,_,ih.add h1 h1',λs hs=>?_⟩;obtain⟨k,hk⟩:=h2 s hs;obtain⟨m,hm⟩:=h2' s hs;refine⟨k+m,?_⟩;by_cases hc:c<=t
   .rw[Oe hc] at hk hm⊢;rw[yV];grind
   .rw[Oc hc] at hk hm⊢;grind
  .rintro e f ⟨a,h,h1,h2⟩;refine⟨λy=>e*a y,_,ih.mul e h1,λs hs=>?_⟩;obtain⟨k,hk⟩:=h2 s hs;refine⟨e*k,?_⟩;by_cases hc:c<=t
   .rw[Oe hc] at hk⊢;rw[tV];grind
   .rw[Oc hc] at hk⊢;grind
  .rintro f f' e ⟨a,h,h1,h2⟩;refine⟨a,h,h1,λs hs=>?_⟩;obtain⟨k,hk⟩:=h2 s hs;obtain⟨m,hm⟩:=e s hs;exact⟨k+m,by grind⟩
theorem EV{μ ν τ:Type}(h:ν->μ)(a:μ->Int)(φ:μ->τ->Int)(t:τ)(l:List ν):sm (l.map h) a φ t=sm l (λy=>a (h y)) (λy=>φ (h y)) t:=by unfold sm;rw[List.map_map];rfl
theorem EW{μ τ τ':Type}{a:μ->Int}{φ:μ->τ->Int}{ψ:μ->τ'->Int}{t:τ}{u:τ'}(h:∀y,φ y t=ψ y u)(l:List μ):sm l a φ t=sm l a ψ u:=by unfold sm;congr 1;exact List.map_congr_left λy _=>by rw[h]
theorem EX(x:Mt)(l:List Mt)(a:Mt->Int)(g:Tt->Int)(s:Tt):sm l a (λy=>cO (bK x y) g) s=cO x (λu=>sm l a (λy=>cO y g) u) s:=by
 by_cases h:cl x s.2
 .have e:=ki h;rw[<-e];generalize (s.1,dJ x s.2)=u;rw[gK];exact EW (λy=>by rw[<-yU,gK]) l
 .rw[gk h];have:∀y,cO (bK x y) g s=0:=λy=>by rw[<-yU,gk h]
  unfold sm;rw[List.map_congr_left (g:=λ_=>(0:Int)) λy _=>by show a y*cO (bK x y) g s=0;rw[this];simp];clear this h;induction l with
  |nil=>rfl
  |cons y l ih=>simp[ih]
theorem EY(x:Mt)(k:Nat)(a:Mt->Int)(g:Tt->Int):∃b:Mt->Int,(∀y,b (bK x y)=if aC y=k then a y else 0)/\(∀z,¬cl x z->b z=0)/\∀s,sm (Ys (k+aC x)) b (λy=>cO y g) s=cO x (λu=>sm (Ys k) a (λy=>cO y g) u) s:=by
 have hnd:((Ys k).map (bK x)).Nodup:=List.Pairwise.map _ (λu v h e=>h (qq e)) (mT k);obtain⟨b,b1,b2,b3⟩:=yW (Ys (k+aC x)) (mT _) (λy=>cO y g) ((Ys k).map (bK x)) hnd (λy hy=>by
  obtain⟨z,hz,rfl⟩:=N9.1 hy;rw[jk] at hz⊢;rw[lZ];omega) λy=>a (dJ x y)
 refine⟨b,λy=>?_,λz hz=>b1 z λhc=>?_,λs=>?_⟩
 .by_cases h:aC y=k
  .rw[Oe h,b2 _ (N9.2 ⟨y,jk.2 h,rfl⟩),oP]
  .rw[Oc h];refine b1 _ λhc=>h ?_;obtain⟨z,hz,e⟩:=N9.1 hc;rw[<-qq e];exact jk.1 hz
 .obtain⟨y,_,rfl⟩:=N9.1 hc;exact hz (qt x y)
 .rw[b3,EV,<-EX];exact mU _ _ λy _=>by rw[oP]
theorem yX{p:Int}{R:Nat}{d:Nat->Nat}(x:Mt):∀(G:List (Nat×(Tt->Int))) (t:Nat) (f:Tt->Int),Vm p R d G t f->Vm p R d G (t+aC x) (cO x f)
 |[],t,f,h=>λs hs=>by
  by_cases hl:cl x s.2
  .have e:=ki hl;rw[<-e] at hs⊢;rw[gK];exact h _ (lY.1 hs)
  .rw[gk hl];exact⟨0,by simp⟩
 |(c,g)::G,t,f,⟨a,h,h1,h2⟩=>by
  have ih:=yX x G t h h1;by_cases hc:c<=t
  .obtain⟨b,_,_,b3⟩:=EY x (t-c) a g;refine⟨b,_,ih,λs hs=>?_⟩;rw[Oe (by omega),show t+aC x-c=t-c+aC x by omega,b3];by_cases hl:cl x s.2
   .have e:=ki hl;rw[<-e] at hs⊢;generalize (s.1,dJ x s.2)=u at hs⊢;have h3:=h2 u (lY.1 hs);rw[Oe hc] at h3;rw[gK,gK,gK];exact h3
   .rw[gk hl,gk hl,gk hl];exact⟨0,by simp⟩
  .refine⟨λ_=>0,_,ih,λs hs=>?_⟩;have hz:(if c<=t+aC x then sm (Ys (t+aC x-c)) (λ_=>(0:Int)) (λy=>cO y g) s else 0)=0:=by
    split
    .exact kj _ _ λ_ _=>rfl
    .rfl
   rw[hz];by_cases hl:cl x s.2
   .have e:=ki hl;rw[<-e] at hs⊢;generalize (s.1,dJ x s.2)=u at hs⊢;have h3:=h2 u (lY.1 hs);rw[Oc hc] at h3;rw[gK,gK];exact h3
   .rw[gk hl,gk hl];exact⟨0,by simp⟩
def LM(O:Od Tt)(p:Int)(R:Nat)(d:Nat->Nat)(G:List (Nat×(Tt->Int)))(s:Tt):Prop:=Cn.Ld O p (Ts R d (d s.1+aC s.2)) (Vm p R d G (d s.1+aC s.2)) s
theorem LM.up{O:Od Tt}(hO:∀x {s t},O.lt s t->O.lt (aw x s) (aw x t)){p:Int}{G:List (Nat×(Tt->Int))}(x:Mt)(h:LM O p R d G s):LM O p R d G (aw x s):=by
 obtain⟨f,h1,h2,h3,h4⟩:=h;have e:d (aw x s).1+aC (aw x s).2=d s.1+aC s.2+aC x:=by simp only[aw];rw[lZ];omega
 unfold LM;rw[e];refine⟨_,yX x G _ f h1,lY.2 h2,by rw[gK];exact h3,λu hu hl=>?_⟩;by_cases hle:cl x u.2
 .have e2:=ki hle;rw[<-e2] at hu hl⊢;generalize (u.1,dJ x u.2)=v at hu hl⊢;rw[gK];refine h4 v (lY.1 hu) ?_;rcases O.tri s v with h|h|h
  .exact h
  .rw[h] at hl;exact absurd hl (O.irr _)
  .exact absurd (O.trans hl (hO x h)) (O.irr _)
 .rw[gk hle];exact⟨0,by simp⟩
end Go.Proofs.YtjkalahhpobefaaGreat.C4
namespace Go.Proofs.YtjkalahhpobefaaGreat.C4
open Go.Proofs.Tryz
set_option linter.unusedSimpArgs false
set_option linter.unusedVariables false
open Cn (Od jl iV bC Pr sm kj yV tV yW mU fJ)
def gj(y:Mt):bp:=λi=>if i=0 then y.1 else if i=1 then y.2.1 else if i=2 then y.2.2.1 else if i=3 then y.2.2.2 else 0
def gI(m:bp):Mt:=(m 0,m 1,m 2,m 3)
theorem lV(y:Mt):gI (gj y)=y:=rfl
theorem qw{m:bp}(h:bX m [0,1,2,3]):gj (gI m)=m:=by
 funext i;by_cases hi:i=0\/i=1\/i=2\/i=3
 .rcases hi with rfl|rfl|rfl|rfl<;>rfl
 .rw[h i (by simp;omega)];simp only[gj];rw[Oc (by omega),Oc (by omega),Oc (by omega),Oc (by omega)]
theorem jJ(y:Mt):bX (gj y) [0,1,2,3]:=λi hi=>by simp at hi;simp only[gj];rw[Oc (by omega),Oc (by omega),Oc (by omega),Oc (by omega)]
theorem yq(y:Mt):deg (gj y)=aC y:=rfl
theorem lU(x y:Mt):bK x y=bK y x:=by simp only[bK,Nat.add_comm]
variable{k:Nat}
theorem qz{B:bp->Prop}(hs:∀m,B m->bX m [0,1,2,3]){s:Nat}(h:HF B s k):bC (λy=>aC y=s/\B (gj y)) k:=by
 have h2:bC (λm=>B m/\deg m=s) k:=h;refine h2.map gI (λx y hx hy e=>?_) λy=>?_
 .rw[<-qw (hs x hx.1),e,qw (hs y hy.1)]
 .exact⟨fun⟨h1,h2⟩=>⟨gj y,⟨h2,h1⟩,lV y⟩,fun⟨m,⟨h1,h2⟩,h3⟩=>by rw[<-h3,qw (hs m h1)];exact⟨h2,h1⟩⟩
theorem oO(s:Nat):bC (λy:Mt=>aC y=s) (nm 4 s):=
 (qz (B:=λm=>bX m [0,1,2,3]) (λm h=>h) (HF.all [0,1,2,3] (by decide) (by decide) s)).congr λy=>⟨λh=>h.1,λh=>⟨h,jJ y⟩⟩
theorem EZ{U Z:List Nat}(hz:Z.Nodup)(hs:∀x∈Z,x∈U)(hl:U.length<=Z.length):∀x∈U,x∈Z:=λx hx=>Oj λhc=>by
 have:=mM (x::Z) U (List.nodup_cons.2 ⟨hc,hz⟩) λy hy=>by
  rcases Og.1 hy with rfl|hy
  .exact hx
  .exact hs y hy
 simp at this;omega
variable{L:Mt->Prop}
theorem E0(hup:∀x {y},L y->L (bK x y)):∃Q,(∀s,bC (λy=>aC y=s/\¬L y) (ch Q s))/\eY 0 Q/\(∀q∈Q,q.2<=4)/\(∀q∈Q,q.2=4->q.1=0)/\∀g,L g->(∀x,aC x=1->cl x g->¬L (dJ x g))->aC g=0\/∃q∈Q,aC g<=q.1+1:=by
 by_cases hno:∀y,¬L y
 .refine⟨[(0,4)],λs=>?_,λq hq _=>?_,λq hq=>?_,λq hq _=>?_,λg hg=>absurd hg (hno g)⟩
  .have e:ch [(0,4)] s=nm 4 s:=by simp[ch,fR]
   rw[e];exact(oO s).congr λy=>⟨λh=>⟨h,hno y⟩,λh=>h.1⟩
  .rw[N2] at hq;subst hq;exact⟨NL _,λe _ he=>⟨_,by simp,by simp at he⊢;omega,NL _⟩⟩
  .rw[N2] at hq;rw[hq];exact NL _
  .rw[N2] at hq;rw[hq]
 by_cases h0:L (0,0,0,0)
 .have hall:∀y,L y:=λy=>by have:=hup y h0;rw[lU] at this;simpa [bK] using this
  refine⟨[],λs=>bC.none λy h=>h.2 (hall y),λq hq=>by simp at hq,λq hq=>by simp at hq,λq hq=>by simp at hq,λg _ hm=>?_⟩;left;apply Oj;intro hne;obtain⟨a,b,c,e⟩:=g;simp only[aC] at hne;rcases (show 0<a\/0<b\/0<c\/0<e by omega) with h|h|h|h
  .exact hm (1,0,0,0) rfl ⟨h,NS _,NS _,NS _⟩ (hall _)
  .exact hm (0,1,0,0) rfl ⟨NS _,h,NS _,NS _⟩ (hall _)
  .exact hm (0,0,1,0) rfl ⟨NS _,NS _,h,NS _⟩ (hall _)
  .exact hm (0,0,0,1) rfl ⟨NS _,NS _,NS _,h⟩ (hall _)
 .have hdown:jI λm=>bX m [0,1,2,3]/\¬L (gI m):=λa b hab hb=>⟨ji hab hb.1,λhl=>hb.2 (by
   have h:=hup (dJ (gI a) (gI b)) hl;rw[lU,oM ⟨hab 0,hab 1,hab 2,hab 3⟩] at h;exact h)⟩
  obtain⟨Q,d,D⟩:=Ey 4 [0,1,2,3] rfl (by decide) (by decide) ⟨λm=>bX m [0,1,2,3]/\¬L (gI m),hdown,λm h=>h.1⟩ (λm h=>h.1) ⟨λ_ _=>rfl,h0⟩;have hd3:d<=3:=by obtain⟨Z,z1,z2,z3,z4⟩:=D.dm;apply Nat.le_of_not_lt;intro hlt;have hz:=EZ z1 z2 (by rw[z3];exact hlt);refine hno λy hy=>(z4 (gj y) λi hi=>jJ y i λhc=>hi (hz i hc)).2 ?_;rw[lV];exact hy
  refine⟨Q,λs=>(qz (λm h=>h.1) (D.hf s)).congr λy=>?_,λq hq _=>⟨NS _,λe _ he=>D.std q hq e he⟩,λq hq=>by have:=D.le q hq;omega,λq hq h4=>by have:=D.le q hq;omega,λg hg hm=>Oy ?_⟩
  .show aC y=s/\bX (gj y) [0,1,2,3]/\¬L (gI (gj y))↔_;rw[lV];exact⟨λh=>⟨h.1,h.2.2⟩,λh=>⟨h.1,jJ y,h.2⟩⟩
  .obtain⟨q,h1,h2⟩:=D.gen (gj g) (jJ g) (λh=>h.2 (by rw[lV];exact hg)) λi hi=>by
    refine⟨ji (lR i _) (jJ g),?_⟩;by_cases hi3:i=0\/i=1\/i=2\/i=3
    .rcases hi3 with rfl|rfl|rfl|rfl
     .exact hm (1,0,0,0) rfl ⟨hi,NS _,NS _,NS _⟩
     .exact hm (0,1,0,0) rfl ⟨NS _,hi,NS _,NS _⟩
     .exact hm (0,0,1,0) rfl ⟨NS _,NS _,hi,NS _⟩
     .exact hm (0,0,0,1) rfl ⟨NS _,NS _,NS _,hi⟩
    .exact absurd (jJ g i (by simp;omega)) (by omega)
   exact⟨q,h1,h2⟩
def mV(c:Nat)(Q:List (Nat×Nat)):List (Nat×Nat):=Q.map λq=>(q.1+c,q.2)
theorem tW(c t:Nat):∀Q,ch (mV c Q) t=if c<=t then ch Q (t-c) else 0
 |[]=>by simp[mV,ch]
 |q::Q=>by
  show ch ((q.1+c,q.2)::mV c Q) t=_;rw[tT,tW c t Q,tT];show (if q.1+c<=t then nm q.2 (t-(q.1+c)) else 0)+_=if c<=t then (if q.1<=t-c then nm q.2 (t-c-q.1) else 0)+ch Q (t-c) else 0
  by_cases h:c<=t
  .rw[Oe h,Oe h];congr 1;by_cases h2:q.1+c<=t
   .rw[Oe h2,Oe (by omega)];congr 1;omega
   .rw[Oc h2,Oc (by omega)]
  .rw[Oc h,Oc h,Oc (by omega)]
variable{c:Nat}
theorem E3{Q:List (Nat×Nat)}(h:eY 0 Q):eY c (mV c Q):=λq hq h1=>by obtain⟨r,hr,rfl⟩:=N9.1 hq;refine⟨by simp,λe h2 h3=>?_⟩;obtain⟨q',a,b,c'⟩:=(h r hr h1).2 (e-c) (NS _) (by simp at h3;omega);exact⟨_,N9.2 ⟨q',a,rfl⟩,by simp only;omega,c'⟩
theorem E4(hup:∀x {y},L y->L (bK x y))(hc:c<=3):∃P,(∀t,c<=t->bC (λy=>aC y=t-c/\¬L y) (ch P t))/\(∀t,¬c<=t->ch P t=0)/\eY 3 P/\(∀q∈P,q.2<=4)/\(∀q∈P,q.2=4->q.1=3)/\∀g,L g->(∀x,aC x=1->cl x g->¬L (dJ x g))->aC g=0\/∃q∈P,aC g+c<=q.1+1:=by
 obtain⟨Q,h1,h2,h3,h5,h4⟩:=E0 hup;have hd:∀q∈mV c Q,q.2<=4:=λq hq=>by obtain⟨r,hr,rfl⟩:=N9.1 hq;exact h3 r hr
 have hf:∀q∈mV c Q,q.2=4->q.1=c:=λq hq e=>by obtain⟨r,hr,rfl⟩:=N9.1 hq;have:=h5 r hr e;simp only;omega
 obtain⟨P,p1,p2,p3,p4,p5⟩:=(E3 (c:=c) h2).later hd hf (3-c);rw[show c+(3-c)=3 by omega] at p1 p5;refine⟨P,λt ht=>?_,λt ht=>?_,p1,p4,p5,λg hg hm=>?_⟩
 .rw[p2,tW,Oe ht];exact h1 (t-c)
 .rw[p2,tW,Oc ht]
 .rcases h4 g hg hm with h|⟨q,a,b⟩
  .exact Ox h
  .obtain⟨r,r1,r2⟩:=p3 (q.1+c,q.2) (N9.2 ⟨q,a,rfl⟩);exact Oy ⟨r,r1,by simp only at r2;omega⟩
variable{p:Int}
theorem yY{τ:Type}{O:Od τ}{T:List τ}{V W:(τ->Int)->Prop}(h:∀f,V f↔W f)(t:τ):Cn.Ld O p T V t↔Cn.Ld O p T W t:=
 ⟨fun⟨f,h1,h2⟩=>⟨f,(h f).1 h1,h2⟩,fun⟨f,h1,h2⟩=>⟨f,(h f).2 h1,h2⟩⟩
def iD(c t:Nat):Nat:=if c<=t then nm 4 (t-c) else 0
def Un(p:Int)(d:Nat->Nat):List Nat->List (Nat×(Tt->Int))->Prop
 |[],[]=>True
 |u::us,g::G=>d u=g.1/\(∀y,p∣g.2 (u,y)-if y=(0,0,0,0) then 1 else 0)/\(∀h∈G,∀y,p∣h.2 (u,y))/\Un p d us G
 |_,_=>False
theorem tX{μ τ:Type}{p:Int}{a:μ->Int}{φ:μ->τ->Int}{t:τ}:∀{l:List μ},(∀y∈l,p∣φ y t)->p∣sm l a φ t
 |[],_=>⟨0,by simp[sm]⟩
 |y::l,h=>by rw[fJ];exact Int.dvd_add (Int.dvd_mul_of_dvd_right (h y (by simp))) (tX λz hz=>h z (by simp[hz]))
theorem E5{g:Tt->Int}{u:Nat}(h:∀y,p∣g (u,y))(x z:Mt):p∣cO x g (u,z):=by
 unfold cO;split
 .exact h _
 .exact⟨0,by simp⟩
theorem yZ{p:Int}{R:Nat}{d:Nat->Nat}{u t:Nat}:∀{G:List (Nat×(Tt->Int))} {f:Tt->Int},(∀h∈G,∀y,p∣h.2 (u,y))->Vm p R d G t f->∀y,(u,y)∈Ts R d t->p∣f (u,y)
 |[],f,_,hf,y,hy=>hf _ hy
 |(c,g)::G,f,hG,⟨a,h,h1,h2⟩,y,hy=>by
  have i1:=yZ (λk hk=>hG k (by simp[hk])) h1 y hy;have i2:p∣if c<=t then sm (Ys (t-c)) a (λy=>cO y g) (u,y) else 0:=by
   split
   .exact tX λx _=>E5 (hG (c,g) (by simp)) x y
   .exact⟨0,by simp⟩
  obtain⟨k,hk⟩:=h2 _ hy;obtain⟨m,hm⟩:=Int.dvd_add i1 i2;exact⟨k+m,by rw[Int.mul_add];omega⟩
theorem zd{μ τ:Type}{p:Int}{a:μ->Int}{φ:μ->τ->Int}{t:τ}{y:μ}(h1:p∣φ y t-1):∀{l:List μ},l.Nodup->y∈l->(∀z∈l,z≠y->φ z t=0)->p∣sm l a φ t-a y
 |z::l,hn,hy,h=>by
  have hnd:=List.nodup_cons.1 hn;rw[fJ];by_cases e:z=y
  .subst e;have:p∣sm l a φ t:=tX λx hx=>by rw[h x (by simp[hx]) λe=>hnd.1 (e ▸ hx)];exact⟨0,by simp⟩
   obtain⟨k,hk⟩:=h1;obtain⟨m,hm⟩:=this;exact⟨a z*k+m,by grind⟩
  .rw[h z (by simp) e];have:=zd (a:=a) h1 hnd.2 ((Og.1 hy).resolve_left λe2=>e e2.symm) λx hx=>h x (by simp[hx]);simpa using this
theorem tO(O:Od Tt)(P:Od Mt){p:Int}(hp:Pr p)(hp1:¬p∣1)(R:Nat)(d:Nat->Nat)(t:Nat):∀(us:List Nat) (G:List (Nat×(Tt->Int))),(∀u∈us,u<R)->Un p d us G->bC (Cn.Ld O p (Ts R d t) (Vm p R d G t)) ((us.map λu=>iD (d u) t).sum)
 |[],[],_,_=>bC.none λs ⟨f,h1,h2⟩=>h2.2.1 (h1 s h2.1)
 |[],_::_,_,h=>h.elim
 |_::_,[],_,h=>h.elim
 |u::us,(c,g)::G,hR,⟨hu1,hu2,hu3,hu4⟩=>by
  have ih:=tO O P hp hp1 R d t us G (λv hv=>hR v (by simp[hv])) hu4;have hu1:d u=c:=hu1;have hu2:∀y,p∣g (u,y)-if y=(0,0,0,0) then 1 else 0:=hu2
  rw[List.map_cons,List.sum_cons,Nat.add_comm];unfold iD;rw[hu1];by_cases ht:c<=t
  .rw[Oe ht];have hk:bC (λy=>y∈Ys (t-c)/\¬Cn.Ld P p (Ys (t-c)) (λa=>Vm p R d G t λs=>sm (Ys (t-c)) a (λy=>cO y g) s) y) (nm 4 (t-c)):=(oO (t-c)).congr λy=>by
    rw[jk];refine⟨λh=>⟨h,fun⟨a,h1,h2,h3,_⟩=>h3 ?_⟩,λh=>h.1⟩;have hT:(u,y)∈Ts R d t:=dk.2 ⟨hR u (by simp),show d u+aC y=t by omega⟩;have i1:=yZ hu3 h1 y hT;have i2:p∣sm (Ys (t-c)) a (λy=>cO y g) (u,y)-a y:=by
     refine zd (φ:=λy=>cO y g) ?_ (mT _) (jk.2 h) λz hz hne=>?_
     .have e:cO y g (u,y)=g (u,(0,0,0,0)):=by unfold cO;rw[Oe ⟨NL _,NL _,NL _,NL _⟩];simp[dJ]
      show p∣cO y g (u,y)-1;rw[e];simpa using hu2 (0,0,0,0)
     .show cO z g (u,y)=0;refine gk λhle=>hne ?_;have e:=oM hle;have hz:=jk.1 hz;obtain⟨z1,z2,z3,z4⟩:=z;obtain⟨y1,y2,y3,y4⟩:=y;have hle:z1<=y1/\z2<=y2/\z3<=y3/\z4<=y4:=hle;have hz:z1+z2+z3+z4=t-c:=hz;have hy:y1+y2+y3+y4=t-c:=h;simp only[Prod.mk.injEq];omega
    obtain⟨k,hk⟩:=i1;obtain⟨m,hm⟩:=i2;exact⟨k-m,by rw[Int.mul_sub];omega⟩
   have hn:=Cn.E6 O P hp hp1 (mS p R d t G) ih (Ys (t-c)) (mT _) (λy=>cO y g) hk;refine hn.congr λs=>yY (λf=>?_) s;show _↔∃(a:Mt->Int)(h:Tt->Int),Vm p R d G t h/\∀s∈Ts R d t,p∣f s-(h s+if c<=t then sm (Ys (t-c)) a (λy=>cO y g) s else 0);simp only[Oe ht]
  .rw[Oc ht];refine ih.congr λs=>yY (λf=>?_) s;show _↔∃(a:Mt->Int)(h:Tt->Int),Vm p R d G t h/\∀s∈Ts R d t,p∣f s-(h s+if c<=t then sm (Ys (t-c)) a (λy=>cO y g) s else 0);simp only[Oc ht];exact⟨λh=>⟨λ_=>0,f,h,λs _=>⟨0,by simp⟩⟩,fun⟨_,h,h1,h2⟩=>(mS p R d t G).con (λs hs=>by have:=h2 s hs;simpa using this) h1⟩
theorem tJ{A:Mt->Prop}{i:Nat}(h:bC A k):bC (λs:Tt=>s.1=i/\A s.2) k:=
 h.map (λy=>(i,y)) (λx y _ _ e=>by simpa using e) λs=>⟨fun⟨h1,h2⟩=>⟨s.2,h2,by rw[<-h1]⟩,fun⟨y,h1,h2⟩=>by rw[<-h2];exact⟨rfl,h1⟩⟩
theorem yx(O:Od Tt)(hO:∀x {s t},O.lt s t->O.lt (aw x s) (aw x t))(P:Od Mt)(hp:Pr p)(hp1:¬p∣1){w n:Nat}(hw:w<=3){d:Nat->Nat}(hd0:∀i,i<w->d i=0)(hd:∀i,i<w+n->d i<=3){G:List (Nat×(Tt->Int))}{us:List Nat}(hus:us.Perm ((List.range n).map (w+·)))(hG:Un p d us G){s:Tt}(hs:s.1<w+n)(hl:LM O p (w+n) d G s)(hm:∀x,aC x=1->cl x s.2->¬LM O p (w+n) d G (s.1,dJ x s.2)):aC s.2+d s.1<=4801:=by
 obtain⟨R,hRR⟩:∃R,R=w+n:=⟨_,rfl⟩;rw[<-hRR] at hd hs hl hm;have c3:=λt=>tO O P hp hp1 R d t _ G (λu hu=>by obtain⟨k,hk,rfl⟩:=N9.1 (hus.mem_iff.1 hu);have:=List.mem_range.1 hk;omega) hG;simp only[λt=>(hus.map λu=>iD (d u) t).sum_nat] at c3;have places:∀r,r<=R->∃QB,eY 3 QB/\(∀q∈QB,q.2<=4)/\(∀q∈QB,q.2=4->q.1=3)/\(∀t,bC (λu:Tt=>u.1<r/\u∈Ts R d t/\¬LM O p R d G u) (ch QB t))/\(∀t,bC (λu:Tt=>u.1<r/\u∈Ts R d t) (((List.range r).map λi=>iD (d i) t).sum))/\
   ∀u:Tt,u.1<r->LM O p R d G u->(∀x,aC x=1->cl x u.2->¬LM O p R d G (u.1,dJ x u.2))->aC u.2=0\/∃q∈QB,aC u.2+d u.1<=q.1+1:=by
  intro r;induction r with
  |zero=>exact λ_=>⟨[],λq hq=>by simp at hq,λq hq=>by simp at hq,λq hq=>by simp at hq,λt=>bC.none λu h=>by omega,λt=>bC.none λu h=>by omega,λu h=>by omega⟩
  |succ r ih=>
   intro hr;obtain⟨QB,a1,a2,a3,a5,a6,a7⟩:=ih (by omega);have hdr:=hd r (by omega);obtain⟨K,k1,k2,k3,k4,k6,k5⟩:=E4 (L:=λy=>LM O p R d G (r,y)) (λx {y} h=>LM.up hO x h) (c:=d r) (by omega);refine⟨QB++K,a1.app k3,λq hq=>(N1.1 hq).elim (a2 q) (k4 q),λq hq=>(N1.1 hq).elim (a3 q) (k6 q),λt=>?_,λt=>?_,λu hu hlu hmu=>?_⟩
   .rw[qn];have hk:bC (λu:Tt=>u.1=r/\(u∈Ts R d t/\¬LM O p R d G u)) (ch K t):=by
     by_cases ht:d r<=t
     .refine(tJ (i:=r) (k1 t ht)).congr λu=>?_;obtain⟨i,y⟩:=u;rw[dk];constructor
      .rintro ⟨h0,h1,h2⟩;have h0:i=r:=h0;have h1:aC y=t-d r:=h1;subst h0;exact⟨rfl,⟨show i<R by omega,show d i+aC y=t by omega⟩,h2⟩
      .rintro ⟨h0,⟨_,h1⟩,h2⟩;have h0:i=r:=h0;have h1:d i+aC y=t:=h1;subst h0;exact⟨rfl,show aC y=t-d i by omega,h2⟩
     .rw[k2 t ht];refine bC.none λu ⟨h1,h2,_⟩=>?_;have:=(dk.1 h2).2;rw[h1] at this;omega
    refine((a5 t).or hk λu h1 h2=>by omega).congr λu=>?_;constructor
    .rintro (⟨h1,h2⟩|⟨h1,h2⟩)
     .exact⟨by omega,h2⟩
     .exact⟨by omega,h2⟩
    .rintro ⟨h1,h2⟩;by_cases h:u.1<r
     .exact Ox ⟨h,h2⟩
     .exact Oy ⟨by omega,h2⟩
   .rw[List.range_succ,Oi,List.sum_append,List.map_cons,List.map_nil,List.sum_cons,List.sum_nil,Nat.add_zero];have hk:bC (λu:Tt=>u.1=r/\u∈Ts R d t) (iD (d r) t):=by
     unfold iD;by_cases ht:d r<=t
     .rw[Oe ht];refine(tJ (i:=r) (oO (t-d r))).congr λu=>?_;obtain⟨i,y⟩:=u;rw[dk];constructor
      .rintro ⟨h0,h1⟩;have h0:i=r:=h0;have h1:aC y=t-d r:=h1;subst h0;exact⟨rfl,show i<R by omega,show d i+aC y=t by omega⟩
      .rintro ⟨h0,_,h1⟩;have h0:i=r:=h0;have h1:d i+aC y=t:=h1;subst h0;exact⟨rfl,show aC y=t-d i by omega⟩
     .rw[Oc ht];refine bC.none λu ⟨h1,h2⟩=>?_;have:=(dk.1 h2).2;rw[h1] at this;omega
    refine((a6 t).or hk λu h1 h2=>by omega).congr λu=>?_;constructor
    .rintro (⟨h1,h2⟩|⟨h1,h2⟩)
     .exact⟨by omega,h2⟩
     .exact⟨by omega,h2⟩
    .rintro ⟨h1,h2⟩;by_cases h:u.1<r
     .exact Ox ⟨h,h2⟩
     .exact Oy ⟨by omega,h2⟩
   .by_cases h:u.1<r
    .rcases a7 u h hlu hmu with h|⟨q,b1,b2⟩
     .exact Ox h
     .exact Oy ⟨q,N1.2 (Ox b1),b2⟩
    .have e:u.1=r:=by omega
     obtain⟨i,y⟩:=u;simp only at e;subst e;rcases k5 y hlu hmu with h|⟨q,b1,b2⟩
     .exact Ox h
     .exact Oy ⟨q,N1.2 (Oy b1),b2⟩
 obtain⟨QB,a1,a2,a3,a5,a6,a7⟩:=places R (NL _);have he:∀t,ch QB t=w*nm 4 t:=λt=>by
  have h:=bC.uniq (((c3 t).or (a5 t) λu h1 h2=>h2.2.2 (by
   have e:=(dk.1 h2.2.1).2;unfold LM;rw[e];exact h1)).congr λu=>by
    constructor
    .rintro (h|⟨h1,h2,_⟩)
     .obtain⟨f,_,h2,_⟩:=h;exact⟨(dk.1 h2).1,h2⟩
     .exact⟨h1,h2⟩
    .rintro ⟨h1,h2⟩;by_cases h:Cn.Ld O p (Ts R d t) (Vm p R d G t) u
     .exact Ox h
     .refine Oy ⟨h1,h2,λhc=>h ?_⟩;unfold LM at hc;rw[(dk.1 h2).2] at hc;exact hc) (a6 t)
  rw[hRR,List.range_add,Oi,List.sum_append,List.map_map] at h;have e0:((List.range w).map λi=>iD (d i) t).sum=w*nm 4 t:=by
   rw[List.map_congr_left (g:=λ_=>nm 4 t) λi hi=>by
    have:=hd0 i (List.mem_range.1 hi);unfold iD;rw[this,Oe (NS _),Nat.sub_zero]]
   have z:∀k,((List.range k).map λ_=>nm 4 t).sum=k*nm 4 t:=λk=>by
    induction k with
    |zero=>simp
    |succ k ih=>rw[List.range_succ,Oi,List.sum_append,ih,List.map_cons,List.map_nil,List.sum_cons,List.sum_nil,Nat.succ_mul];omega
   exact z w
  rw[e0] at h;omega
 have hb:=EU a1 a2 a3 hw he;have hds:=hd s.1 hs;rcases a7 s hs hl hm with h|⟨q,b1,b2⟩
 .omega
 .have:=hb q b1;omega
end Go.Proofs.YtjkalahhpobefaaGreat.C4
