/- How many leads there. -/
import Derived.Test.YtjkalahhpobefaaGreatDA
namespace Go.Proofs.YtjkalahhpobefaaGreat.Cn
open Go.Proofs.Tryz
set_option linter.unusedSimpArgs false
set_option linter.unusedVariables false
structure Od(τ:Type) where
 lt:τ->τ->Prop
 wf:WellFounded lt
 tri:∀s t,lt s t\/s=t\/lt t s
 trans:∀{a b c},lt a b->lt b c->lt a c
theorem Od.irr{τ:Type}(O:Od τ)(t:τ):¬O.lt t t:=O.wf.induction (C:=λt=>¬O.lt t t) t λx ih h=>ih x h h
structure jq{τ:Type}(p:Int)(T:List τ)(V:(τ->Int)->Prop):Prop where
 zero:V λ_=>0
 add:∀{f g},V f->V g->V λt=>f t+g t
 mul:∀(c:Int){f},V f->V λt=>c*f t
 con:∀{f g},(∀t∈T,p∣g t-f t)->V f->V g
def iW{τ:Type}(O:Od τ)(p:Int)(T:List τ)(f:τ->Int)(t:τ):Prop:=t∈T/\¬p∣f t/\∀s∈T,O.lt t s->p∣f s
def Ld{τ:Type}(O:Od τ)(p:Int)(T:List τ)(V:(τ->Int)->Prop)(t:τ):Prop:=∃f,V f/\iW O p T f t
def bw{τ:Type}(P:τ->Prop)(n:Nat):Prop:=∃l:List τ,l.Nodup/\(∀t,t∈l↔P t)/\l.length=n
def Pr(p:Int):Prop:=∀c,¬p∣c->∃d,p∣c*d-1
variable{p:Int}
theorem Pr.mul(h:Pr p){c x:Int}(hc:¬p∣c)(hx:¬p∣x):¬p∣c*x:=λhd=>hx (by
 obtain⟨d,k,hk⟩:=h c hc;obtain⟨m,hm⟩:=hd;exact⟨m*d-k*x,by grind⟩)
theorem yI{τ:Type}(O:Od τ):∀(l:List τ),l≠[]->∃m∈l,∀s∈l,¬O.lt m s
 |[],h=>absurd rfl h
 |[a],_=>⟨a,by simp,λs hs=>by rw[OL] at hs;rw[hs];exact O.irr a⟩
 |a::b::l,_=>by
  obtain⟨m,h1,h2⟩:=yI O (b::l) (by simp);by_cases h:O.lt m a
  .refine⟨a,by simp,λs hs=>?_⟩;rcases OY.1 hs with rfl|hs
   .exact O.irr _
   .exact λhc=>h2 s hs (O.trans h hc)
  .refine⟨m,List.mem_cons_of_mem _ h1,λs hs=>?_⟩;rcases OY.1 hs with rfl|hs
   .exact h
   .exact h2 s hs
theorem qJ{τ:Type}(O:Od τ){T:List τ}{f:τ->Int}(h:∃t∈T,¬p∣f t):∃t,iW O p T f t:=by
 obtain⟨t0,h1,h2⟩:=h;obtain⟨m,h3,h4⟩:=yI O (T.filter λt=>decide (¬p∣f t)) (λe=>by
  have:t0∈T.filter λt=>decide (¬p∣f t):=O5.2 ⟨h1,by simpa using h2⟩;rw[e] at this;simp at this)
 obtain⟨h5,h6⟩:=O5.1 h3;refine⟨m,h5,by simpa using h6,λs hs hlt=>?_⟩;apply O3;intro hn;exact h4 s (O5.2 ⟨hs,by simpa using hn⟩) hlt
theorem qF{τ:Type}{O:Od τ}{T:List τ}{f:τ->Int}{s t:τ}(h:iW O p T f s)(k:iW O p T f t):s=t:=by
 rcases O.tri s t with hl|e|hl
 .exact absurd (h.2.2 t k.1 hl) k.2.1
 .exact e
 .exact absurd (k.2.2 s h.1 hl) h.2.1
theorem qE{τ:Type}{O:Od τ}{T:List τ}{f g:τ->Int}{t:τ}(h:iW O p T f t)(e:∀t∈T,p∣g t-f t):iW O p T g t:=by
 have back:∀s∈T,p∣g s->p∣f s:=λs hs ⟨k,hk⟩=>by obtain⟨m,hm⟩:=e s hs;exact⟨k-m,by rw[Int.mul_sub];omega⟩
 have fwd:∀s∈T,p∣f s->p∣g s:=λs hs ⟨k,hk⟩=>by obtain⟨m,hm⟩:=e s hs;exact⟨k+m,by rw[Int.mul_add];omega⟩
 exact⟨h.1,λhd=>h.2.1 (back t h.1 hd),λs hs hl=>fwd s hs (h.2.2 s hs hl)⟩
def qK{τ:Type}(p:Int)(T:List τ)(V:(τ->Int)->Prop)(w f:τ->Int):Prop:=∃(c:Int)(g:τ->Int),V g/\∀t∈T,p∣f t-(g t+c*w t)
theorem jq.plus{τ:Type}{T:List τ}{V:(τ->Int)->Prop}(h:jq p T V)(w:τ->Int):jq p T (qK p T V w) where
 zero:=⟨0,_,h.zero,λt _=>⟨0,by grind⟩⟩
 add:=fun⟨c,g,h1,h2⟩ ⟨d,k,h3,h4⟩=>⟨c+d,_,h.add h1 h3,λt ht=>by
  obtain⟨a,ha⟩:=h2 t ht;obtain⟨b,hb⟩:=h4 t ht;exact⟨a+b,by grind⟩⟩
 mul:=λe {f} ⟨c,g,h1,h2⟩=>⟨e*c,_,h.mul e h1,λt ht=>by
  obtain⟨a,ha⟩:=h2 t ht;exact⟨e*a,by grind⟩⟩
 con:=λhc ⟨c,g,h1,h2⟩=>⟨c,g,h1,λt ht=>by
  obtain⟨a,ha⟩:=h2 t ht;obtain⟨b,hb⟩:=hc t ht;exact⟨a+b,by grind⟩⟩
theorem Fe{τ:Type}(O:Od τ)(hp:Pr p){T:List τ}{V:(τ->Int)->Prop}(hV:jq p T V)(t:τ):∀w,¬V w->iW O p T w t->∃g,V g/\∃u,iW O p T (λs=>w s-g s) u/\¬Ld O p T V u:=by
 refine O.wf.induction (C:=λt=>∀w,¬V w->iW O p T w t->∃g,V g/\∃u,iW O p T (λs=>w s-g s) u/\¬Ld O p T V u) t ?_;intro t ih w hw hl;by_cases hd:Ld O p T V t
 .obtain⟨h,h1,h2⟩:=hd;obtain⟨d,hdv⟩:=hp _ h2.2.1;have hv:=hV.mul (w t*d) h1;have hw1:¬V λs=>w s-w t*d*h s:=λhc=>hw (hV.con (λs _=>⟨0,by grind⟩) (hV.add hc hv));have hne:∃s∈T,¬p∣w s-w t*d*h s:=O3 λhc=>hw1 (hV.con (λs hs=>by
   have:p∣w s-w t*d*h s:=O3 λh=>hc ⟨s,hs,h⟩;simpa using this) hV.zero)
  obtain⟨t1,hl1⟩:=qJ O (f:=λs=>w s-w t*d*h s) hne;have hlt:O.lt t1 t:=by
   rcases O.tri t1 t with hx|e|hx
   .exact hx
   .exfalso;apply hl1.2.1;rw[e];obtain⟨k,hk⟩:=hdv;exact⟨-(w t*k),by grind⟩
   .exfalso;apply hl1.2.1;obtain⟨a,ha⟩:=hl.2.2 t1 hl1.1 hx;obtain⟨b,hb⟩:=h2.2.2 t1 hl1.1 hx;exact⟨a-w t*d*b,by grind⟩
  obtain⟨g,g1,u,g2,g3⟩:=ih t1 hlt _ hw1 hl1;exact⟨_,hV.add g1 hv,u,qE g2 (λs _=>⟨0,by grind⟩),g3⟩
 .exact⟨_,hV.zero,t,qE hl (λs _=>⟨0,by grind⟩),hd⟩
variable{n:Nat}
theorem Ff{τ:Type}(O:Od τ)(hp:Pr p){T:List τ}{V:(τ->Int)->Prop}(hV:jq p T V){w:τ->Int}(hw:¬V w)(hn:bw (Ld O p T V) n):bw (Ld O p T (qK p T V w)) (n+1):=by
 have hne:∃s∈T,¬p∣w s:=O3 λhc=>hw (hV.con (λs hs=>by
  have:p∣w s:=O3 λh=>hc ⟨s,hs,h⟩;simpa using this) hV.zero)
 obtain⟨t0,hl0⟩:=qJ O hne;obtain⟨g0,g1,u,hu,hnu⟩:=Fe O hp hV t0 w hw hl0;obtain⟨l,l1,l2,l3⟩:=hn;refine⟨u::l,List.nodup_cons.2 ⟨λh=>hnu ((l2 u).1 h),l1⟩,λt=>?_,by simp[l3]⟩;rw[OY,l2];constructor
 .rintro (rfl|⟨f,h1,h2⟩)
  .exact⟨_,⟨1,_,hV.mul (-1) g1,λs _=>⟨0,by grind⟩⟩,hu⟩
  .exact⟨f,⟨0,f,h1,λs _=>⟨0,by grind⟩⟩,h2⟩
 .rintro ⟨f,⟨c,g,h1,h2⟩,h3⟩;have hg1:=hV.add h1 (hV.mul c g1);have hfe:∀s∈T,p∣f s-((g s+c*g0 s)+c*(w s-g0 s)):=λs hs=>by obtain⟨k,hk⟩:=h2 s hs;exact⟨k,by grind⟩
  by_cases hc:p∣c
  .right;refine⟨_,hg1,qE h3 λs hs=>?_⟩;obtain⟨k,hk⟩:=hfe s hs;obtain⟨m,hm⟩:=hc;exact⟨-k-m*(w s-g0 s),by grind⟩
  .by_cases hz:∃s∈T,¬p∣g s+c*g0 s
   .obtain⟨v,hv⟩:=qJ O (f:=λs=>g s+c*g0 s) hz;have hvl:Ld O p T V v:=⟨_,hg1,hv⟩;rcases O.tri v u with hlt|e|hlt
    .left;refine qF h3 ⟨hu.1,λhd=>?_,λs hs hl=>?_⟩
     .apply hp.mul hc hu.2.1;obtain⟨a,ha⟩:=hd;obtain⟨b,hb⟩:=hfe u hu.1;obtain⟨k,hk⟩:=hv.2.2 u hu.1 hlt;exact⟨a-b-k,by grind⟩
     .obtain⟨b,hb⟩:=hfe s hs;obtain⟨k,hk⟩:=hv.2.2 s hs (O.trans hlt hl);obtain⟨m,hm⟩:=hu.2.2 s hs hl;exact⟨b+k+c*m,by grind⟩
    .exact absurd (e ▸ hvl) hnu
    .right;have:t=v:=qF h3 ⟨hv.1,λhd=>hv.2.1 (by
      obtain⟨a,ha⟩:=hd;obtain⟨b,hb⟩:=hfe v hv.1;obtain⟨m,hm⟩:=hu.2.2 v hv.1 hlt;exact⟨a-b-c*m,by grind⟩),λs hs hl=>by
      obtain⟨b,hb⟩:=hfe s hs;obtain⟨k,hk⟩:=hv.2.2 s hs hl;obtain⟨m,hm⟩:=hu.2.2 s hs (O.trans hlt hl);exact⟨b+k+c*m,by grind⟩⟩
     rw[this];exact hvl
   .left;have hz0:∀s∈T,p∣g s+c*g0 s:=λs hs=>O3 λh=>hz ⟨s,hs,h⟩;refine qF h3 ⟨hu.1,λhd=>?_,λs hs hl=>?_⟩
    .apply hp.mul hc hu.2.1;obtain⟨a,ha⟩:=hd;obtain⟨b,hb⟩:=hfe u hu.1;obtain⟨k,hk⟩:=hz0 u hu.1;exact⟨a-b-k,by grind⟩
    .obtain⟨b,hb⟩:=hfe s hs;obtain⟨k,hk⟩:=hz0 s hs;obtain⟨m,hm⟩:=hu.2.2 s hs hl;exact⟨b+k+c*m,by grind⟩
def sm{μ τ:Type}(l:List μ)(a:μ->Int)(φ:μ->τ->Int)(t:τ):Int:=(l.map λy=>a y*φ y t).sum
theorem fK{μ τ:Type}(y:μ)(l:List μ)(a:μ->Int)(φ:μ->τ->Int)(t:τ):sm (y::l) a φ t=a y*φ y t+sm l a φ t:=by simp[sm]
theorem yJ{μ τ:Type}(a b:μ->Int)(φ:μ->τ->Int)(t:τ):∀l,sm l (λy=>a y+b y) φ t=sm l a φ t+sm l b φ t
 |[]=>rfl
 |y::l=>by rw[fK,fK,fK,yJ a b φ t l];grind
theorem tX{μ τ:Type}(c:Int)(a:μ->Int)(φ:μ->τ->Int)(t:τ):∀l,sm l (λy=>c*a y) φ t=c*sm l a φ t
 |[]=>by simp[sm]
 |y::l=>by rw[fK,fK,tX c a φ t l];grind
theorem mZ{μ τ:Type}{a b:μ->Int}(φ:μ->τ->Int)(t:τ):∀{l:List μ},(∀y∈l,a y=b y)->sm l a φ t=sm l b φ t
 |[],_=>rfl
 |y::l,h=>by rw[fK,fK,h y (by simp),mZ φ t λz hz=>h z (List.mem_cons_of_mem _ hz)]
theorem kn{μ τ:Type}{a:μ->Int}(φ:μ->τ->Int)(t:τ):∀{l:List μ},(∀y∈l,a y=0)->sm l a φ t=0
 |[],_=>rfl
 |y::l,h=>by rw[fK,h y (by simp),kn φ t λz hz=>h z (List.mem_cons_of_mem _ hz)];simp
def gm{τ:Type}(p:Int)(T:List τ):((τ->Int)->Prop)->List (τ->Int)->(τ->Int)->Prop
 |V,[]=>V
 |V,w::ws=>gm p T (qK p T V w) ws
theorem tY{τ:Type}{p:Int}{T:List τ}:∀{ws:List (τ->Int)} {V:(τ->Int)->Prop},jq p T V->jq p T (gm p T V ws)
 |[],_,h=>h
 |w::ws,_,h=>tY (ws:=ws) (h.plus w)
theorem m5{μ τ:Type}{p:Int}{T:List τ}(φ:μ->τ->Int):∀{l:List μ} {V:(τ->Int)->Prop},jq p T V->l.Nodup->∀f,gm p T V (l.map φ) f↔∃(a:μ->Int)(g:τ->Int),V g/\∀t∈T,p∣f t-(g t+sm l a φ t)
 |[],V,h,_,f=>by
  constructor
  .exact λhf=>⟨λ_=>0,f,hf,λt _=>⟨0,by simp[sm]⟩⟩
  .rintro ⟨a,g,h1,h2⟩;exact h.con (λt ht=>by have:=h2 t ht;simpa [sm] using this) h1
 |y::l,V,h,hn,f=>by
  have hnd:=List.nodup_cons.1 hn;show gm p T (qK p T V (φ y)) (l.map φ) f↔_;rw[m5 φ (h.plus (φ y)) hnd.2 f];constructor
  .rintro ⟨a,g,⟨c,g2,h1,h2⟩,h3⟩;refine O3 λhc=>hc ?_;have:∃b:μ->Int,b y=c/\∀z∈l,b z=a z:=by refine⟨λz=>@ite _ (z=y) (Classical.propDecidable _) c (a z),by simp,λz hz=>?_⟩;have:z≠y:=λe=>hnd.1 (e ▸ hz);simp[this]
   obtain⟨b,b1,b2⟩:=this;refine⟨b,g2,h1,λt ht=>?_⟩;rw[fK,b1,mZ φ t b2];obtain⟨k,hk⟩:=h2 t ht;obtain⟨m,hm⟩:=h3 t ht;exact⟨k+m,by grind⟩
  .rintro ⟨a,g,h1,h2⟩;refine⟨a,λt=>g t+a y*φ y t,⟨a y,g,h1,λt _=>⟨0,by grind⟩⟩,λt ht=>?_⟩;obtain⟨k,hk⟩:=h2 t ht;rw[fK] at hk;exact⟨k,by grind⟩
theorem yK{τ:Type}(O:Od τ){p:Int}(hp:Pr p){T:List τ}:∀{ws:List (τ->Int)} {V:(τ->Int)->Prop} {n:Nat},jq p T V->bw (Ld O p T V) n->(∀l w r,ws=l++w::r->¬gm p T V l w)->bw (Ld O p T (gm p T V ws)) (n+ws.length)
 |[],_,_,_,hn,_=>hn
 |w::ws,V,n,h,hn,hi=>by
  have h1:=Ff O hp h (hi [] w ws rfl) hn;have h2:=yK O hp (ws:=ws) (h.plus w) h1 λl v r e=>hi (w::l) v r (by rw[e];rfl);have e:n+1+ws.length=n+(w::ws).length:=by simp;omega
  rw[e] at h2;exact h2
theorem yL{μ τ:Type}(Y:List μ)(hY:Y.Nodup)(φ:μ->τ->Int)(r:List μ)(hr:r.Nodup)(hs:∀y∈r,y∈Y)(a:μ->Int):∃b:μ->Int,(∀y,y∉r->b y=0)/\(∀y∈r,b y=a y)/\∀t:τ,sm Y b φ t=sm r a φ t:=by
 refine⟨λy=>@ite _ (y∈r) (Classical.propDecidable _) (a y) 0,λy hy=>by simp[hy],λy hy=>by simp[hy],λt=>?_⟩;have gen:∀(Y r:List μ),Y.Nodup->r.Nodup->(∀y∈r,y∈Y)->sm Y (λy=>@ite _ (y∈r) (Classical.propDecidable _) (a y) 0) φ t=sm r a φ t:=by
  intro Y;induction Y with
  |nil=>
   intro r _ _ hs;have:r=[]:=List.eq_nil_iff_forall_not_mem.2 λy hy=>by have:=hs y hy;simp at this
   rw[this];rfl
  |cons z Y ih=>
   intro r hz hr hs;have hzn:=List.nodup_cons.1 hz;rw[fK];by_cases hzr:z∈r
   .obtain⟨r1,r2,rfl⟩:=List.append_of_mem hzr;have hrn:=List.nodup_append.1 hr;have hr2:=List.nodup_cons.1 hrn.2.1;have hz1:z∉r1:=λh=>hrn.2.2 z h z (by simp) rfl;have hperm:(r1++r2).Nodup:=List.nodup_append.2 ⟨hrn.1,hr2.2,λu hu v hv=>hrn.2.2 u hu v (by simp[hv])⟩;have h:=ih (r1++r2) hzn.2 hperm λy hy=>by
     have hyz:y≠z:=λe=>by
      rcases OK.1 hy with h|h
      .exact hz1 (e ▸ h)
      .exact hr2.1 (e ▸ h)
     rcases OY.1 (hs y (by rcases OK.1 hy with h|h<;>simp[h])) with h|h
     .exact absurd h hyz
     .exact h
    have e1:sm Y (λy=>@ite _ (y∈r1++z::r2) (Classical.propDecidable _) (a y) 0) φ t=sm Y (λy=>@ite _ (y∈r1++r2) (Classical.propDecidable _) (a y) 0) φ t:=mZ φ t λy hy=>by
     have hyz:y≠z:=λe=>hzn.1 (e ▸ hy);by_cases h9:y∈r1++r2
     .have h8:y∈r1++z::r2:=by rcases OK.1 h9 with h|h<;>simp[h]
      rw[OW h8,OW h9]
     .have h8:y∉r1++z::r2:=λh=>h9 (by
       rcases OK.1 h with h|h
       .simp[h]
       .rcases OY.1 h with h|h
        .exact absurd h hyz
        .simp[h])
      rw[OV h8,OV h9]
    rw[e1,h];simp only[sm,O0,List.map_cons,List.sum_append,List.sum_cons,OW hzr];omega
   .have h:=ih r hzn.2 hr λy hy=>by
     rcases OY.1 (hs y hy) with h|h
     .exact absurd (h ▸ hy) hzr
     .exact h
    rw[h,OV hzr];simp
 exact gen Y r hY hr hs
theorem Fg{μ τ:Type}(O:Od τ)(P:Od μ)(hp:Pr p)(hp1:¬p∣1){T:List τ}{V:(τ->Int)->Prop}(hV:jq p T V)(hn:bw (Ld O p T V) n)(Y:List μ)(hY:Y.Nodup)(φ:μ->τ->Int){k:Nat}(hk:bw (λy=>y∈Y/\¬Ld P p Y (λa=>V λt=>sm Y a φ t) y) k):bw (Ld O p T λf=>∃(a:μ->Int)(g:τ->Int),V g/\∀t∈T,p∣f t-(g t+sm Y a φ t)) (n+k):=by
 obtain⟨l,l1,l2,l3⟩:=hk;have ext:=λr hr hs a=>yL (τ:=τ) Y hY φ r hr hs a;have hlY:∀y∈l,y∈Y:=λy hy=>((l2 y).1 hy).1;have indep:∀r w s,l.map φ=r++w::s->¬gm p T V r w:=by
  intro r w s e hc;obtain⟨l',q,e1,e2,e3⟩:=List.map_eq_append_iff.1 e;obtain⟨y,m,e4,e5,e6⟩:=List.map_eq_cons_iff.1 e3;subst e2 e4 e5;have hnl:(l'++y::m).Nodup:=e1 ▸ l1;have hn1:=List.nodup_append.1 hnl;have hy1:y∉l':=λh=>hn1.2.2 y h y (by simp) rfl;obtain⟨a,g,g1,g2⟩:=(m5 φ hV hn1.1 (φ y)).1 hc;have hyl:y∈l:=by rw[e1];simp
  have hl':∀z∈l',z∈l:=λz hz=>by rw[e1];simp[hz]
  have hnd:(y::l').Nodup:=List.nodup_cons.2 ⟨hy1,hn1.1⟩;have hcoef:∃c:μ->Int,c y=1/\∀z∈l',c z=-a z:=by refine⟨λz=>@ite _ (z=y) (Classical.propDecidable _) 1 (-a z),by simp,λz hz=>?_⟩;have:z≠y:=λe=>hy1 (e ▸ hz);simp[this]
  obtain⟨c,c1,c2⟩:=hcoef;obtain⟨b,b1,b2,b3⟩:=ext (y::l') hnd (λz hz=>by
   rcases OY.1 hz with rfl|hz
   .exact hlY _ hyl
   .exact hlY z (hl' z hz)) c
  have hJ:V λt=>sm Y b φ t:=hV.con (λt ht=>by
   rw[b3 t,fK,c1,mZ φ t c2];have e7:sm l' (λz=>-a z) φ t=-sm l' a φ t:=by have:=tX (-1) a φ t l';rw[<-show (-1)*sm l' a φ t=-sm l' a φ t by omega,<-this];exact mZ φ t λz _=>by omega
   obtain⟨k,hk⟩:=g2 t ht;exact⟨k,by grind⟩) g1
  obtain⟨u,hu⟩:=qJ P (f:=b) ⟨y,hlY y hyl,by rw[b2 y (by simp),c1];exact hp1⟩;have hul:u∈y::l':=O3 λh=>hu.2.1 (by rw[b1 u h];exact⟨0,by simp⟩);have hu2:u∈l:=by
   rcases OY.1 hul with rfl|h
   .exact hyl
   .exact hl' u h
  exact((l2 u).1 hu2).2 ⟨b,hJ,hu⟩
 have hN:=yK O hp hV hn indep;rw[OS,l3] at hN;obtain⟨q,q1,q2,q3⟩:=hN;have all:∀y,y∈Y->gm p T V (l.map φ) (φ y):=by
  intro y;refine P.wf.induction (C:=λy=>y∈Y->gm p T V (l.map φ) (φ y)) y ?_;intro y ih hy;by_cases hl:y∈l
  .refine(m5 φ hV l1 _).2 ?_;have hex:∃a:μ->Int,∀t,sm l a φ t=φ y t:=by
    obtain⟨r1,r2,e⟩:=List.append_of_mem hl;have hn1:=List.nodup_append.1 (e ▸ l1);have hy1:y∉r1:=λh=>hn1.2.2 y h y (by simp) rfl;have hy2:y∉r2:=(List.nodup_cons.1 hn1.2.1).1;refine⟨λz=>@ite _ (z=y) (Classical.propDecidable _) 1 0,λt=>?_⟩;rw[e];have z1:sm r1 (λz=>@ite _ (z=y) (Classical.propDecidable _) (1:Int) 0) φ t=0:=kn φ t λz hz=>by have:z≠y:=λe=>hy1 (e ▸ hz);simp[this]
    have z2:sm r2 (λz=>@ite _ (z=y) (Classical.propDecidable _) (1:Int) 0) φ t=0:=kn φ t λz hz=>by have:z≠y:=λe=>hy2 (e ▸ hz);simp[this]
    unfold sm at z1 z2⊢;rw[O0,List.map_cons,List.sum_append,List.sum_cons,z1,z2];simp
   obtain⟨a,ha⟩:=hex;exact⟨a,_,hV.zero,λt _=>⟨0,by rw[ha];omega⟩⟩
  .have hld:Ld P p Y (λa=>V λt=>sm Y a φ t) y:=O3 λh=>hl ((l2 y).2 ⟨hy,h⟩);obtain⟨b,hb,hb2⟩:=hld;obtain⟨d,hd⟩:=hp _ hb2.2.1;have hS:=tY (ws:=l.map φ) hV;have rest:gm p T V (l.map φ) λt=>sm Y b φ t-b y*φ y t:=by
    obtain⟨r1,r2,e⟩:=List.append_of_mem hy;have hn1:=List.nodup_append.1 (e ▸ hY);have hy1:y∉r1:=λh=>hn1.2.2 y h y (by simp) rfl;have hy2:y∉r2:=(List.nodup_cons.1 hn1.2.1).1;have part:∀r:List μ,(∀z∈r,z∈Y/\z≠y)->gm p T V (l.map φ) λt=>sm r b φ t:=by
     intro r;induction r with
     |nil=>exact λ_=>hS.zero
     |cons z r ihr=>
      intro hz;have h1:=hz z (by simp);have h2:=ihr λv hv=>hz v (by simp[hv]);have h3:gm p T V (l.map φ) λt=>b z*φ z t:=by
       by_cases hzl:P.lt z y
       .exact hS.mul _ (ih z hzl h1.1)
       .have:P.lt y z:=by
         rcases P.tri z y with h|h|h
         .exact absurd h hzl
         .exact absurd h h1.2
         .exact h
        obtain⟨k,hk⟩:=hb2.2.2 z h1.1 this;exact hS.con (λt _=>⟨k*φ z t,by grind⟩) hS.zero
      exact hS.con (λt _=>⟨0,by rw[fK];omega⟩) (hS.add h3 h2)
    refine hS.con (λt _=>⟨0,?_⟩) (hS.add (part r1 λz hz=>⟨by rw[e];simp[hz],λe=>hy1 (e ▸ hz)⟩) (part r2 λz hz=>⟨by rw[e];simp[hz],λe=>hy2 (e ▸ hz)⟩));rw[e];simp only[sm,O0,List.map_cons,List.sum_append,List.sum_cons];omega
   have incl:gm p T V (l.map φ) λt=>sm Y b φ t:=(m5 φ hV l1 _).2 ⟨λ_=>0,_,hb,λt _=>⟨0,by rw[kn φ t λ_ _=>rfl];omega⟩⟩;have h4:=hS.mul d (hS.add incl (hS.mul (-1) rest));refine hS.con (λt _=>?_) h4;obtain⟨k,hk⟩:=hd;exact⟨-(k*φ y t),by grind⟩
 refine⟨q,q1,λt=>?_,q3⟩;rw[q2];have same:∀f,gm p T V (l.map φ) f↔∃(a:μ->Int)(g:τ->Int),V g/\∀t∈T,p∣f t-(g t+sm Y a φ t):=by
  intro f;have hS:=tY (ws:=l.map φ) hV;constructor
  .intro h;obtain⟨a,g,g1,g2⟩:=(m5 φ hV l1 f).1 h;obtain⟨b,_,_,b3⟩:=ext l l1 hlY a;exact⟨b,g,g1,λt ht=>by rw[b3];exact g2 t ht⟩
  .rintro ⟨a,g,g1,g2⟩;have hgv:gm p T V (l.map φ) g:=(m5 φ hV l1 _).2 ⟨λ_=>0,g,g1,λt _=>⟨0,by rw[kn φ t λ_ _=>rfl];omega⟩⟩;have part:∀r:List μ,(∀z∈r,z∈Y)->gm p T V (l.map φ) λt=>sm r a φ t:=by
    intro r;induction r with
    |nil=>exact λ_=>hS.zero
    |cons z r ihr=>intro hz;exact hS.con (λt _=>⟨0,by rw[fK];omega⟩) (hS.add (hS.mul (a z) (all z (hz z (by simp)))) (ihr λv hv=>hz v (by simp[hv])))
   exact hS.con g2 (hS.add hgv (part Y λz hz=>hz))
 constructor
 .rintro ⟨f,h1,h2⟩;exact⟨f,(same f).1 h1,h2⟩
 .rintro ⟨f,h1,h2⟩;exact⟨f,(same f).2 h1,h2⟩
variable{a b:Nat}
theorem bw.uniq{τ:Type}{A:τ->Prop}(h:bw A a)(k:bw A b):a=b:=by
 obtain⟨l,p1,p2,p3⟩:=h;obtain⟨m,q1,q2,q3⟩:=k;have:l.Perm m:=(List.perm_ext_iff_of_nodup p1 q1).2 λx=>by rw[p2,q2]
 rw[<-p3,<-q3,this.length_eq]
theorem bw.congr{τ:Type}{A B:τ->Prop}(h:bw A a)(e:∀t,A t↔B t):bw B a:=by obtain⟨l,p1,p2,p3⟩:=h;exact⟨l,p1,λt=>by rw[p2,e],p3⟩
theorem bw.none{τ:Type}{A:τ->Prop}(h:∀t,¬A t):bw A 0:=⟨[],List.Pairwise.nil,λt=>by simp[h t],rfl⟩
theorem bw.or{τ:Type}{A B:τ->Prop}(h:bw A a)(k:bw B b)(hd:∀t,A t->¬B t):bw (λt=>A t\/B t) (a+b):=by obtain⟨l,p1,p2,p3⟩:=h;obtain⟨m,q1,q2,q3⟩:=k;exact⟨l++m,List.nodup_append.2 ⟨p1,q1,λu hu v hv e=>hd u ((p2 u).1 hu) (e ▸ (q2 v).1 hv)⟩,λt=>by rw[OK,p2,q2],by simp[p3,q3]⟩
theorem bw.map{σ τ:Type}{A:σ->Prop}{B:τ->Prop}(h:bw A a)(f:σ->τ)(hf:∀x y,A x->A y->f x=f y->x=y)(e:∀t,B t↔∃s,A s/\f s=t):bw B a:=by
 obtain⟨l,p1,p2,p3⟩:=h;refine⟨l.map f,?_,λt=>?_,by simp[p3]⟩
 .refine List.pairwise_map.2 (p1.imp_of_mem λhx hy hne e=>hne (hf _ _ ((p2 _).1 hx) ((p2 _).1 hy) e))
 .rw[e,OR];exact⟨fun⟨s,h1,h2⟩=>⟨s,(p2 s).1 h1,h2⟩,fun⟨s,h1,h2⟩=>⟨s,(p2 s).2 h1,h2⟩⟩
end Go.Proofs.YtjkalahhpobefaaGreat.Cn
namespace Go.Proofs.YtjkalahhpobefaaGreat.C4
open Go.Proofs.Tryz
set_option linter.unusedSimpArgs false
set_option linter.unusedVariables false
open Cn (Od jq iW bw Pr sm kn yJ tX yL mZ fK)
abbrev Mt:=Nat×Nat×Nat×Nat
abbrev Tt:=Nat×Mt
def aC(y:Mt):Nat:=y.1+y.2.1+y.2.2.1+y.2.2.2
def bH(x y:Mt):Mt:=(x.1+y.1,x.2.1+y.2.1,x.2.2.1+y.2.2.1,x.2.2.2+y.2.2.2)
def dH(x y:Mt):Mt:=(y.1-x.1,y.2.1-x.2.1,y.2.2.1-x.2.2.1,y.2.2.2-x.2.2.2)
abbrev cj(x y:Mt):Prop:=x.1<=y.1/\x.2.1<=y.2.1/\x.2.2.1<=y.2.2.1/\x.2.2.2<=y.2.2.2
theorem l7(x y:Mt):aC (bH x y)=aC x+aC y:=by simp only[aC,bH];omega
theorem oX(x y:Mt):dH x (bH x y)=y:=by obtain⟨a,b,c,e⟩:=y;simp only[dH,bH];refine Prod.ext ?_ (Prod.ext ?_ (Prod.ext ?_ ?_))<;>simp only<;>omega
variable{x y:Mt}
theorem oU(h:cj x y):bH x (dH x y)=y:=by obtain⟨a,b,c,e⟩:=y;obtain⟨h1,h2,h3,h4⟩:=h;simp only[dH,bH] at*;refine Prod.ext ?_ (Prod.ext ?_ (Prod.ext ?_ ?_))<;>simp only<;>omega
theorem qA(x y:Mt):cj x (bH x y):=by simp only[cj,bH];omega
theorem qy{z:Mt}(h:bH x y=bH x z):y=z:=by rw[<-oX x y,h,oX]
def Ys(s:Nat):List Mt:=(List.range (s+1)).flatMap λa=>(List.range (s-a+1)).flatMap λb=>(List.range (s-a-b+1)).map λc=>(a,b,c,s-a-b-c)
theorem jm{s:Nat}:y∈Ys s↔aC y=s:=by
 obtain⟨a,b,c,e⟩:=y;simp only[Ys,Pk,OR,List.mem_range,aC,Prod.mk.injEq];constructor
 .rintro ⟨a',h1,b',h2,c',h3,rfl,rfl,rfl,rfl⟩;omega
 .intro h;exact⟨a,by omega,b,by omega,c,by omega,rfl,rfl,rfl,by omega⟩
theorem tZ{α β:Type}{f:α->List β}(g:β->α)(hg:∀a,∀b∈f a,g b=a)(hf:∀a,(f a).Nodup):∀{l:List α},l.Nodup->(l.flatMap f).Nodup
 |[],_=>List.Pairwise.nil
 |a::l,h=>by have hn:=List.nodup_cons.1 h;rw[List.flatMap_cons,List.nodup_append];refine⟨hf a,tZ g hg hf hn.2,λu hu v hv e=>hn.1 ?_⟩;obtain⟨a',h1,h2⟩:=Pk.1 hv;rw[<-hg a u hu,e,hg a' v h2];exact h1
theorem mW(s:Nat):(Ys s).Nodup:=tZ (λy=>y.1) (λa b hb=>by obtain⟨c,_,h⟩:=Pk.1 hb;obtain⟨e,_,rfl⟩:=OR.1 h;rfl) (λa=>tZ (λy=>y.2.1) (λb c hc=>by obtain⟨e,_,rfl⟩:=OR.1 hc;rfl) (λb=>List.Pairwise.map _ (λu v h e=>h (by simp at e;omega)) List.nodup_range) List.nodup_range) List.nodup_range
def Ts(R:Nat)(d:Nat->Nat)(t:Nat):List Tt:=(List.range R).flatMap λi=>if d i<=t then (Ys (t-d i)).map λy=>(i,y) else []
variable{s:Tt}{t R:Nat}{d:Nat->Nat}
theorem de:s∈Ts R d t↔s.1<R/\d s.1+aC s.2=t:=by
 obtain⟨i,y⟩:=s;simp only[Ts,Pk,List.mem_range];constructor
 .rintro ⟨j,h1,h2⟩;by_cases h:d j<=t
  .rw[OW h] at h2;obtain⟨z,h3,h4⟩:=OR.1 h2;simp only[Prod.mk.injEq] at h4;obtain⟨rfl,rfl⟩:=h4;rw[jm] at h3;exact⟨h1,show d j+aC z=t by omega⟩
  .rw[OV h] at h2;simp at h2
 .rintro ⟨h1,h2⟩;have h1:i<R:=h1;have h2:d i+aC y=t:=h2;exact⟨i,h1,by rw[OW (by omega)];exact OR.2 ⟨y,jm.2 (by omega),rfl⟩⟩
def aw(x:Mt)(s:Tt):Tt:=(s.1,bH x s.2)
def cI(x:Mt)(g:Tt->Int)(s:Tt):Int:=if cj x s.2 then g (s.1,dH x s.2) else 0
theorem gK(x:Mt)(g:Tt->Int)(s:Tt):cI x g (aw x s)=g s:=by show (if cj x (bH x s.2) then g (s.1,dH x (bH x s.2)) else 0)=g s;rw[OW (qA x s.2),oX]
theorem gk{g:Tt->Int}(h:¬cj x s.2):cI x g s=0:=OV h
theorem km(h:cj x s.2):aw x (s.1,dH x s.2)=s:=by simp only[aw];rw[oU h]
theorem yM(x y:Mt)(g:Tt->Int)(s:Tt):cI x (cI y g) s=cI (bH x y) g s:=by
 by_cases h:cj x s.2
 .have e:=km h;rw[<-e];generalize (s.1,dH x s.2)=u;rw[gK];by_cases h2:cj y u.2
  .have e2:=km h2;rw[<-e2];generalize (u.1,dH y u.2)=v;rw[gK];have e3:aw x (aw y v)=aw (bH x y) v:=by simp only[aw,bH,Nat.add_assoc]
   rw[e3,gK]
  .rw[gk h2,gk];intro h3;apply h2;simp only[cj,bH,aw] at*;omega
 .rw[gk h,gk];intro h3;apply h;simp only[cj,bH] at*;omega
theorem l6:aw x s∈Ts R d (t+aC x)↔s∈Ts R d t:=by rw[de,de];simp only[aw];rw[l7];omega
def Vm(p:Int)(R:Nat)(d:Nat->Nat):List (Nat×(Tt->Int))->Nat->(Tt->Int)->Prop
 |[],t,f=>∀s∈Ts R d t,p∣f s
 |(c,g)::G,t,f=>∃(a:Mt->Int)(h:Tt->Int),Vm p R d G t h/\∀s∈Ts R d t,p∣f s-(h s+if c<=t then sm (Ys (t-c)) a (λy=>cI y g) s else 0)
theorem mV(p:Int)(R:Nat)(d:Nat->Nat)(t:Nat):∀G,jq p (Ts R d t) (Vm p R d G t)
 |[]=>⟨λ_ _=>⟨0,by simp⟩,λh k s hs=>Int.dvd_add (h s hs) (k s hs),λc f h s hs=>Int.dvd_mul_of_dvd_right (h s hs),λe h s hs=>by
   obtain⟨a,ha⟩:=e s hs;obtain⟨b,hb⟩:=h s hs;exact⟨a+b,by grind⟩⟩
 |(c,g)::G=>by
  have ih:=mV p R d t G;refine⟨⟨λ_=>0,_,ih.zero,λs _=>⟨0,?_⟩⟩,?_,?_,?_⟩
  .have:(if c<=t then sm (Ys (t-c)) (λ_=>(0:Int)) (λy=>cI y g) s else 0)=0:=by
    split
    .exact kn _ _ λ_ _=>rfl
    .rfl
   rw[this];show (0:Int)-(0+0)=p*0;simp
  .rintro f f' ⟨a,h,h1,h2⟩ ⟨a',h',h1',h2'⟩;refine⟨λy=>a y+a' y,_,ih.add h1 h1',λs hs=>?_⟩;obtain⟨k,hk⟩:=h2 s hs;obtain⟨m,hm⟩:=h2' s hs;refine⟨k+m,?_⟩;by_cases hc:c<=t
   .rw[OW hc] at hk hm⊢;rw[yJ];grind
   .rw[OV hc] at hk hm⊢;grind
  .rintro e f ⟨a,h,h1,h2⟩;refine⟨λy=>e*a y,_,ih.mul e h1,λs hs=>?_⟩;obtain⟨k,hk⟩:=h2 s hs;refine⟨e*k,?_⟩;by_cases hc:c<=t
   .rw[OW hc] at hk⊢;rw[tX];grind
   .rw[OV hc] at hk⊢;grind
  .rintro f f' e ⟨a,h,h1,h2⟩;refine⟨a,h,h1,λs hs=>?_⟩;obtain⟨k,hk⟩:=h2 s hs;obtain⟨m,hm⟩:=e s hs;exact⟨k+m,by grind⟩
theorem Fh{μ ν τ:Type}(h:ν->μ)(a:μ->Int)(φ:μ->τ->Int)(t:τ)(l:List ν):sm (l.map h) a φ t=sm l (λy=>a (h y)) (λy=>φ (h y)) t:=by unfold sm;rw[List.map_map];rfl
theorem Fi{μ τ τ':Type}{a:μ->Int}{φ:μ->τ->Int}{ψ:μ->τ'->Int}{t:τ}{u:τ'}(h:∀y,φ y t=ψ y u)(l:List μ):sm l a φ t=sm l a ψ u:=by unfold sm;congr 1;exact List.map_congr_left λy _=>by rw[h]
theorem Fj(x:Mt)(l:List Mt)(a:Mt->Int)(g:Tt->Int)(s:Tt):sm l a (λy=>cI (bH x y) g) s=cI x (λu=>sm l a (λy=>cI y g) u) s:=by
 by_cases h:cj x s.2
 .have e:=km h;rw[<-e];generalize (s.1,dH x s.2)=u;rw[gK];exact Fi (λy=>by rw[<-yM,gK]) l
 .rw[gk h];have:∀y,cI (bH x y) g s=0:=λy=>by rw[<-yM,gk h]
  unfold sm;rw[List.map_congr_left (g:=λ_=>(0:Int)) λy _=>by show a y*cI (bH x y) g s=0;rw[this];simp];clear this h;induction l with
  |nil=>rfl
  |cons y l ih=>simp[ih]
theorem Fk(x:Mt)(k:Nat)(a:Mt->Int)(g:Tt->Int):∃b:Mt->Int,(∀y,b (bH x y)=if aC y=k then a y else 0)/\(∀z,¬cj x z->b z=0)/\∀s,sm (Ys (k+aC x)) b (λy=>cI y g) s=cI x (λu=>sm (Ys k) a (λy=>cI y g) u) s:=by
 have hnd:((Ys k).map (bH x)).Nodup:=List.Pairwise.map _ (λu v h e=>h (qy e)) (mW k);obtain⟨b,b1,b2,b3⟩:=yL (Ys (k+aC x)) (mW _) (λy=>cI y g) ((Ys k).map (bH x)) hnd (λy hy=>by
  obtain⟨z,hz,rfl⟩:=OR.1 hy;rw[jm] at hz⊢;rw[l7];omega) λy=>a (dH x y)
 refine⟨b,λy=>?_,λz hz=>b1 z λhc=>?_,λs=>?_⟩
 .by_cases h:aC y=k
  .rw[OW h,b2 _ (OR.2 ⟨y,jm.2 h,rfl⟩),oX]
  .rw[OV h];refine b1 _ λhc=>h ?_;obtain⟨z,hz,e⟩:=OR.1 hc;rw[<-qy e];exact jm.1 hz
 .obtain⟨y,_,rfl⟩:=OR.1 hc;exact hz (qA x y)
 .rw[b3,Fh,<-Fj];exact mZ _ _ λy _=>by rw[oX]
theorem yN{p:Int}{R:Nat}{d:Nat->Nat}(x:Mt):∀(G:List (Nat×(Tt->Int))) (t:Nat) (f:Tt->Int),Vm p R d G t f->Vm p R d G (t+aC x) (cI x f)
 |[],t,f,h=>λs hs=>by
  by_cases hl:cj x s.2
  .have e:=km hl;rw[<-e] at hs⊢;rw[gK];exact h _ (l6.1 hs)
  .rw[gk hl];exact⟨0,by simp⟩
 |(c,g)::G,t,f,⟨a,h,h1,h2⟩=>by
  have ih:=yN x G t h h1;by_cases hc:c<=t
  .obtain⟨b,_,_,b3⟩:=Fk x (t-c) a g;refine⟨b,_,ih,λs hs=>?_⟩;rw[OW (by omega),show t+aC x-c=t-c+aC x by omega,b3];by_cases hl:cj x s.2
   .have e:=km hl;rw[<-e] at hs⊢;generalize (s.1,dH x s.2)=u at hs⊢;have h3:=h2 u (l6.1 hs);rw[OW hc] at h3;rw[gK,gK,gK];exact h3
   .rw[gk hl,gk hl,gk hl];exact⟨0,by simp⟩
  .refine⟨λ_=>0,_,ih,λs hs=>?_⟩;have hz:(if c<=t+aC x then sm (Ys (t+aC x-c)) (λ_=>(0:Int)) (λy=>cI y g) s else 0)=0:=by
    split
    .exact kn _ _ λ_ _=>rfl
    .rfl
   rw[hz];by_cases hl:cj x s.2
   .have e:=km hl;rw[<-e] at hs⊢;generalize (s.1,dH x s.2)=u at hs⊢;have h3:=h2 u (l6.1 hs);rw[OV hc] at h3;rw[gK,gK];exact h3
   .rw[gk hl,gk hl];exact⟨0,by simp⟩
def LM(O:Od Tt)(p:Int)(R:Nat)(d:Nat->Nat)(G:List (Nat×(Tt->Int)))(s:Tt):Prop:=Cn.Ld O p (Ts R d (d s.1+aC s.2)) (Vm p R d G (d s.1+aC s.2)) s
theorem LM.up{O:Od Tt}(hO:∀x {s t},O.lt s t->O.lt (aw x s) (aw x t)){p:Int}{G:List (Nat×(Tt->Int))}(x:Mt)(h:LM O p R d G s):LM O p R d G (aw x s):=by
 obtain⟨f,h1,h2,h3,h4⟩:=h;have e:d (aw x s).1+aC (aw x s).2=d s.1+aC s.2+aC x:=by simp only[aw];rw[l7];omega
 unfold LM;rw[e];refine⟨_,yN x G _ f h1,l6.2 h2,by rw[gK];exact h3,λu hu hl=>?_⟩;by_cases hle:cj x u.2
 .have e2:=km hle;rw[<-e2] at hu hl⊢;generalize (u.1,dH x u.2)=v at hu hl⊢;rw[gK];refine h4 v (l6.1 hu) ?_;rcases O.tri s v with h|h|h
  .exact h
  .rw[h] at hl;exact absurd hl (O.irr _)
  .exact absurd (O.trans hl (hO x h)) (O.irr _)
 .rw[gk hle];exact⟨0,by simp⟩
end Go.Proofs.YtjkalahhpobefaaGreat.C4
namespace Go.Proofs.YtjkalahhpobefaaGreat.C4
open Go.Proofs.Tryz
set_option linter.unusedSimpArgs false
set_option linter.unusedVariables false
open Cn (Od jq iW bw Pr sm kn yJ tX yL mZ fK)
def gj(y:Mt):bo:=λi=>if i=0 then y.1 else if i=1 then y.2.1 else if i=2 then y.2.2.1 else if i=3 then y.2.2.2 else 0
def gI(m:bo):Mt:=(m 0,m 1,m 2,m 3)
theorem l5(y:Mt):gI (gj y)=y:=rfl
theorem qP{m:bo}(h:bW m [0,1,2,3]):gj (gI m)=m:=by
 funext i;by_cases hi:i=0\/i=1\/i=2\/i=3
 .rcases hi with rfl|rfl|rfl|rfl<;>rfl
 .rw[h i (by simp;omega)];simp only[gj];rw[OV (by omega),OV (by omega),OV (by omega),OV (by omega)]
theorem jM(y:Mt):bW (gj y) [0,1,2,3]:=λi hi=>by simp at hi;simp only[gj];rw[OV (by omega),OV (by omega),OV (by omega),OV (by omega)]
theorem zf(y:Mt):deg (gj y)=aC y:=rfl
theorem lZ(x y:Mt):bH x y=bH y x:=by simp only[bH,Nat.add_comm]
variable{k:Nat}
theorem qD{B:bo->Prop}(hs:∀m,B m->bW m [0,1,2,3]){s:Nat}(h:HF B s k):bw (λy=>aC y=s/\B (gj y)) k:=by
 have h2:bw (λm=>B m/\deg m=s) k:=h;refine h2.map gI (λx y hx hy e=>?_) λy=>?_
 .rw[<-qP (hs x hx.1),e,qP (hs y hy.1)]
 .exact⟨fun⟨h1,h2⟩=>⟨gj y,⟨h2,h1⟩,l5 y⟩,fun⟨m,⟨h1,h2⟩,h3⟩=>by rw[<-h3,qP (hs m h1)];exact⟨h2,h1⟩⟩
theorem oV(s:Nat):bw (λy:Mt=>aC y=s) (nm 4 s):=
 (qD (B:=λm=>bW m [0,1,2,3]) (λm h=>h) (HF.all [0,1,2,3] (by decide) (by decide) s)).congr λy=>⟨λh=>h.1,λh=>⟨h,jM y⟩⟩
theorem Fo{U Z:List Nat}(hz:Z.Nodup)(hs:∀x∈Z,x∈U)(hl:U.length<=Z.length):∀x∈U,x∈Z:=λx hx=>O3 λhc=>by
 have:=mY (x::Z) U (List.nodup_cons.2 ⟨hc,hz⟩) λy hy=>by
  rcases OY.1 hy with rfl|hy
  .exact hx
  .exact hs y hy
 simp at this;omega
variable{L:Mt->Prop}
theorem Fp(hup:∀x {y},L y->L (bH x y)):∃Q,(∀s,bw (λy=>aC y=s/\¬L y) (cd Q s))/\eX 0 Q/\(∀q∈Q,q.2<=4)/\(∀q∈Q,q.2=4->q.1=0)/\∀g,L g->(∀x,aC x=1->cj x g->¬L (dH x g))->aC g=0\/∃q∈Q,aC g<=q.1+1:=by
 by_cases hno:∀y,¬L y
 .refine⟨[(0,4)],λs=>?_,λq hq _=>?_,λq hq=>?_,λq hq _=>?_,λg hg=>absurd hg (hno g)⟩
  .have e:cd [(0,4)] s=nm 4 s:=by simp[cd,fT]
   rw[e];exact(oV s).congr λy=>⟨λh=>⟨h,hno y⟩,λh=>h.1⟩
  .rw[OL] at hq;subst hq;exact⟨Ou _,λe _ he=>⟨_,by simp,by simp at he⊢;omega,Ou _⟩⟩
  .rw[OL] at hq;rw[hq];exact Ou _
  .rw[OL] at hq;rw[hq]
 by_cases h0:L (0,0,0,0)
 .have hall:∀y,L y:=λy=>by have:=hup y h0;rw[lZ] at this;simpa [bH] using this
  refine⟨[],λs=>bw.none λy h=>h.2 (hall y),λq hq=>by simp at hq,λq hq=>by simp at hq,λq hq=>by simp at hq,λg _ hm=>?_⟩;left;apply O3;intro hne;obtain⟨a,b,c,e⟩:=g;simp only[aC] at hne;rcases (show 0<a\/0<b\/0<c\/0<e by omega) with h|h|h|h
  .exact hm (1,0,0,0) rfl ⟨h,OB _,OB _,OB _⟩ (hall _)
  .exact hm (0,1,0,0) rfl ⟨OB _,h,OB _,OB _⟩ (hall _)
  .exact hm (0,0,1,0) rfl ⟨OB _,OB _,h,OB _⟩ (hall _)
  .exact hm (0,0,0,1) rfl ⟨OB _,OB _,OB _,h⟩ (hall _)
 .have hdown:jN λm=>bW m [0,1,2,3]/\¬L (gI m):=λa b hab hb=>⟨jo hab hb.1,λhl=>hb.2 (by
   have h:=hup (dH (gI a) (gI b)) hl;rw[lZ,oU ⟨hab 0,hab 1,hab 2,hab 3⟩] at h;exact h)⟩
  obtain⟨Q,d,D⟩:=Fd 4 [0,1,2,3] rfl (by decide) (by decide) ⟨λm=>bW m [0,1,2,3]/\¬L (gI m),hdown,λm h=>h.1⟩ (λm h=>h.1) ⟨λ_ _=>rfl,h0⟩;have hd3:d<=3:=by obtain⟨Z,z1,z2,z3,z4⟩:=D.dm;apply Nat.le_of_not_lt;intro hlt;have hz:=Fo z1 z2 (by rw[z3];exact hlt);refine hno λy hy=>(z4 (gj y) λi hi=>jM y i λhc=>hi (hz i hc)).2 ?_;rw[l5];exact hy
  refine⟨Q,λs=>(qD (λm h=>h.1) (D.hf s)).congr λy=>?_,λq hq _=>⟨OB _,λe _ he=>D.std q hq e he⟩,λq hq=>by have:=D.le q hq;omega,λq hq h4=>by have:=D.le q hq;omega,λg hg hm=>Pg ?_⟩
  .show aC y=s/\bW (gj y) [0,1,2,3]/\¬L (gI (gj y))↔_;rw[l5];exact⟨λh=>⟨h.1,h.2.2⟩,λh=>⟨h.1,jM y,h.2⟩⟩
  .obtain⟨q,h1,h2⟩:=D.gen (gj g) (jM g) (λh=>h.2 (by rw[l5];exact hg)) λi hi=>by
    refine⟨jo (l8 i _) (jM g),?_⟩;by_cases hi3:i=0\/i=1\/i=2\/i=3
    .rcases hi3 with rfl|rfl|rfl|rfl
     .exact hm (1,0,0,0) rfl ⟨hi,OB _,OB _,OB _⟩
     .exact hm (0,1,0,0) rfl ⟨OB _,hi,OB _,OB _⟩
     .exact hm (0,0,1,0) rfl ⟨OB _,OB _,hi,OB _⟩
     .exact hm (0,0,0,1) rfl ⟨OB _,OB _,OB _,hi⟩
    .exact absurd (jM g i (by simp;omega)) (by omega)
   exact⟨q,h1,h2⟩
def m6(c:Nat)(Q:List (Nat×Nat)):List (Nat×Nat):=Q.map λq=>(q.1+c,q.2)
theorem ud(c t:Nat):∀Q,cd (m6 c Q) t=if c<=t then cd Q (t-c) else 0
 |[]=>by simp[m6,cd]
 |q::Q=>by
  show cd ((q.1+c,q.2)::m6 c Q) t=_;rw[t9,ud c t Q,t9];show (if q.1+c<=t then nm q.2 (t-(q.1+c)) else 0)+_=if c<=t then (if q.1<=t-c then nm q.2 (t-c-q.1) else 0)+cd Q (t-c) else 0
  by_cases h:c<=t
  .rw[OW h,OW h];congr 1;by_cases h2:q.1+c<=t
   .rw[OW h2,OW (by omega)];congr 1;omega
   .rw[OV h2,OV (by omega)]
  .rw[OV h,OV h,OV (by omega)]
variable{c:Nat}
theorem Fq{Q:List (Nat×Nat)}(h:eX 0 Q):eX c (m6 c Q):=λq hq h1=>by obtain⟨r,hr,rfl⟩:=OR.1 hq;refine⟨by simp,λe h2 h3=>?_⟩;obtain⟨q',a,b,c'⟩:=(h r hr h1).2 (e-c) (OB _) (by simp at h3;omega);exact⟨_,OR.2 ⟨q',a,rfl⟩,by simp only;omega,c'⟩
theorem Fr(hup:∀x {y},L y->L (bH x y))(hc:c<=3):∃P,(∀t,c<=t->bw (λy=>aC y=t-c/\¬L y) (cd P t))/\(∀t,¬c<=t->cd P t=0)/\eX 3 P/\(∀q∈P,q.2<=4)/\(∀q∈P,q.2=4->q.1=3)/\∀g,L g->(∀x,aC x=1->cj x g->¬L (dH x g))->aC g=0\/∃q∈P,aC g+c<=q.1+1:=by
 obtain⟨Q,h1,h2,h3,h5,h4⟩:=Fp hup;have hd:∀q∈m6 c Q,q.2<=4:=λq hq=>by obtain⟨r,hr,rfl⟩:=OR.1 hq;exact h3 r hr
 have hf:∀q∈m6 c Q,q.2=4->q.1=c:=λq hq e=>by obtain⟨r,hr,rfl⟩:=OR.1 hq;have:=h5 r hr e;simp only;omega
 obtain⟨P,p1,p2,p3,p4,p5⟩:=(Fq (c:=c) h2).later hd hf (3-c);rw[show c+(3-c)=3 by omega] at p1 p5;refine⟨P,λt ht=>?_,λt ht=>?_,p1,p4,p5,λg hg hm=>?_⟩
 .rw[p2,ud,OW ht];exact h1 (t-c)
 .rw[p2,ud,OV ht]
 .rcases h4 g hg hm with h|⟨q,a,b⟩
  .exact Pf h
  .obtain⟨r,r1,r2⟩:=p3 (q.1+c,q.2) (OR.2 ⟨q,a,rfl⟩);exact Pg ⟨r,r1,by simp only at r2;omega⟩
variable{p:Int}
theorem zg{τ:Type}{O:Od τ}{T:List τ}{V W:(τ->Int)->Prop}(h:∀f,V f↔W f)(t:τ):Cn.Ld O p T V t↔Cn.Ld O p T W t:=
 ⟨fun⟨f,h1,h2⟩=>⟨f,(h f).1 h1,h2⟩,fun⟨f,h1,h2⟩=>⟨f,(h f).2 h1,h2⟩⟩
def iC(c t:Nat):Nat:=if c<=t then nm 4 (t-c) else 0
def Un(p:Int)(d:Nat->Nat):List Nat->List (Nat×(Tt->Int))->Prop
 |[],[]=>True
 |u::us,g::G=>d u=g.1/\(∀y,p∣g.2 (u,y)-if y=(0,0,0,0) then 1 else 0)/\(∀h∈G,∀y,p∣h.2 (u,y))/\Un p d us G
 |_,_=>False
theorem ug{μ τ:Type}{p:Int}{a:μ->Int}{φ:μ->τ->Int}{t:τ}:∀{l:List μ},(∀y∈l,p∣φ y t)->p∣sm l a φ t
 |[],_=>⟨0,by simp[sm]⟩
 |y::l,h=>by rw[fK];exact Int.dvd_add (Int.dvd_mul_of_dvd_right (h y (by simp))) (ug λz hz=>h z (by simp[hz]))
theorem Fs{g:Tt->Int}{u:Nat}(h:∀y,p∣g (u,y))(x z:Mt):p∣cI x g (u,z):=by
 unfold cI;split
 .exact h _
 .exact⟨0,by simp⟩
theorem zh{p:Int}{R:Nat}{d:Nat->Nat}{u t:Nat}:∀{G:List (Nat×(Tt->Int))} {f:Tt->Int},(∀h∈G,∀y,p∣h.2 (u,y))->Vm p R d G t f->∀y,(u,y)∈Ts R d t->p∣f (u,y)
 |[],f,_,hf,y,hy=>hf _ hy
 |(c,g)::G,f,hG,⟨a,h,h1,h2⟩,y,hy=>by
  have i1:=zh (λk hk=>hG k (by simp[hk])) h1 y hy;have i2:p∣if c<=t then sm (Ys (t-c)) a (λy=>cI y g) (u,y) else 0:=by
   split
   .exact ug λx _=>Fs (hG (c,g) (by simp)) x y
   .exact⟨0,by simp⟩
  obtain⟨k,hk⟩:=h2 _ hy;obtain⟨m,hm⟩:=Int.dvd_add i1 i2;exact⟨k+m,by rw[Int.mul_add];omega⟩
theorem zi{μ τ:Type}{p:Int}{a:μ->Int}{φ:μ->τ->Int}{t:τ}{y:μ}(h1:p∣φ y t-1):∀{l:List μ},l.Nodup->y∈l->(∀z∈l,z≠y->φ z t=0)->p∣sm l a φ t-a y
 |z::l,hn,hy,h=>by
  have hnd:=List.nodup_cons.1 hn;rw[fK];by_cases e:z=y
  .subst e;have:p∣sm l a φ t:=ug λx hx=>by rw[h x (by simp[hx]) λe=>hnd.1 (e ▸ hx)];exact⟨0,by simp⟩
   obtain⟨k,hk⟩:=h1;obtain⟨m,hm⟩:=this;exact⟨a z*k+m,by grind⟩
  .rw[h z (by simp) e];have:=zi (a:=a) h1 hnd.2 ((OY.1 hy).resolve_left λe2=>e e2.symm) λx hx=>h x (by simp[hx]);simpa using this
theorem tQ(O:Od Tt)(P:Od Mt){p:Int}(hp:Pr p)(hp1:¬p∣1)(R:Nat)(d:Nat->Nat)(t:Nat):∀(us:List Nat) (G:List (Nat×(Tt->Int))),(∀u∈us,u<R)->Un p d us G->bw (Cn.Ld O p (Ts R d t) (Vm p R d G t)) ((us.map λu=>iC (d u) t).sum)
 |[],[],_,_=>bw.none λs ⟨f,h1,h2⟩=>h2.2.1 (h1 s h2.1)
 |[],_::_,_,h=>h.elim
 |_::_,[],_,h=>h.elim
 |u::us,(c,g)::G,hR,⟨hu1,hu2,hu3,hu4⟩=>by
  have ih:=tQ O P hp hp1 R d t us G (λv hv=>hR v (by simp[hv])) hu4;have hu1:d u=c:=hu1;have hu2:∀y,p∣g (u,y)-if y=(0,0,0,0) then 1 else 0:=hu2
  rw[List.map_cons,List.sum_cons,Nat.add_comm];unfold iC;rw[hu1];by_cases ht:c<=t
  .rw[OW ht];have hk:bw (λy=>y∈Ys (t-c)/\¬Cn.Ld P p (Ys (t-c)) (λa=>Vm p R d G t λs=>sm (Ys (t-c)) a (λy=>cI y g) s) y) (nm 4 (t-c)):=(oV (t-c)).congr λy=>by
    rw[jm];refine⟨λh=>⟨h,fun⟨a,h1,h2,h3,_⟩=>h3 ?_⟩,λh=>h.1⟩;have hT:(u,y)∈Ts R d t:=de.2 ⟨hR u (by simp),show d u+aC y=t by omega⟩;have i1:=zh hu3 h1 y hT;have i2:p∣sm (Ys (t-c)) a (λy=>cI y g) (u,y)-a y:=by
     refine zi (φ:=λy=>cI y g) ?_ (mW _) (jm.2 h) λz hz hne=>?_
     .have e:cI y g (u,y)=g (u,(0,0,0,0)):=by unfold cI;rw[OW ⟨Ou _,Ou _,Ou _,Ou _⟩];simp[dH]
      show p∣cI y g (u,y)-1;rw[e];simpa using hu2 (0,0,0,0)
     .show cI z g (u,y)=0;refine gk λhle=>hne ?_;have e:=oU hle;have hz:=jm.1 hz;obtain⟨z1,z2,z3,z4⟩:=z;obtain⟨y1,y2,y3,y4⟩:=y;have hle:z1<=y1/\z2<=y2/\z3<=y3/\z4<=y4:=hle;have hz:z1+z2+z3+z4=t-c:=hz;have hy:y1+y2+y3+y4=t-c:=h;simp only[Prod.mk.injEq];omega
    obtain⟨k,hk⟩:=i1;obtain⟨m,hm⟩:=i2;exact⟨k-m,by rw[Int.mul_sub];omega⟩
   have hn:=Cn.Fg O P hp hp1 (mV p R d t G) ih (Ys (t-c)) (mW _) (λy=>cI y g) hk;refine hn.congr λs=>zg (λf=>?_) s;show _↔∃(a:Mt->Int)(h:Tt->Int),Vm p R d G t h/\∀s∈Ts R d t,p∣f s-(h s+if c<=t then sm (Ys (t-c)) a (λy=>cI y g) s else 0);simp only[OW ht]
  .rw[OV ht];refine ih.congr λs=>zg (λf=>?_) s;show _↔∃(a:Mt->Int)(h:Tt->Int),Vm p R d G t h/\∀s∈Ts R d t,p∣f s-(h s+if c<=t then sm (Ys (t-c)) a (λy=>cI y g) s else 0);simp only[OV ht];exact⟨λh=>⟨λ_=>0,f,h,λs _=>⟨0,by simp⟩⟩,fun⟨_,h,h1,h2⟩=>(mV p R d t G).con (λs hs=>by have:=h2 s hs;simpa using this) h1⟩
theorem uh{A:Mt->Prop}{i:Nat}(h:bw A k):bw (λs:Tt=>s.1=i/\A s.2) k:=
 h.map (λy=>(i,y)) (λx y _ _ e=>by simpa using e) λs=>⟨fun⟨h1,h2⟩=>⟨s.2,h2,by rw[<-h1]⟩,fun⟨y,h1,h2⟩=>by rw[<-h2];exact⟨rfl,h1⟩⟩
theorem yv(O:Od Tt)(hO:∀x {s t},O.lt s t->O.lt (aw x s) (aw x t))(P:Od Mt)(hp:Pr p)(hp1:¬p∣1){w n:Nat}(hw:w<=3){d:Nat->Nat}(hd0:∀i,i<w->d i=0)(hd:∀i,i<w+n->d i<=3){G:List (Nat×(Tt->Int))}{us:List Nat}(hus:us.Perm ((List.range n).map (w+·)))(hG:Un p d us G){s:Tt}(hs:s.1<w+n)(hl:LM O p (w+n) d G s)(hm:∀x,aC x=1->cj x s.2->¬LM O p (w+n) d G (s.1,dH x s.2)):aC s.2+d s.1<=4801:=by
 obtain⟨R,hRR⟩:∃R,R=w+n:=⟨_,rfl⟩;rw[<-hRR] at hd hs hl hm;have c3:=λt=>tQ O P hp hp1 R d t _ G (λu hu=>by obtain⟨k,hk,rfl⟩:=OR.1 (hus.mem_iff.1 hu);have:=List.mem_range.1 hk;omega) hG;simp only[λt=>(hus.map λu=>iC (d u) t).sum_nat] at c3;have places:∀r,r<=R->∃QB,eX 3 QB/\(∀q∈QB,q.2<=4)/\(∀q∈QB,q.2=4->q.1=3)/\(∀t,bw (λu:Tt=>u.1<r/\u∈Ts R d t/\¬LM O p R d G u) (cd QB t))/\(∀t,bw (λu:Tt=>u.1<r/\u∈Ts R d t) (((List.range r).map λi=>iC (d i) t).sum))/\
   ∀u:Tt,u.1<r->LM O p R d G u->(∀x,aC x=1->cj x u.2->¬LM O p R d G (u.1,dH x u.2))->aC u.2=0\/∃q∈QB,aC u.2+d u.1<=q.1+1:=by
  intro r;induction r with
  |zero=>exact λ_=>⟨[],λq hq=>by simp at hq,λq hq=>by simp at hq,λq hq=>by simp at hq,λt=>bw.none λu h=>by omega,λt=>bw.none λu h=>by omega,λu h=>by omega⟩
  |succ r ih=>
   intro hr;obtain⟨QB,a1,a2,a3,a5,a6,a7⟩:=ih (by omega);have hdr:=hd r (by omega);obtain⟨K,k1,k2,k3,k4,k6,k5⟩:=Fr (L:=λy=>LM O p R d G (r,y)) (λx {y} h=>LM.up hO x h) (c:=d r) (by omega);refine⟨QB++K,a1.app k3,λq hq=>(OK.1 hq).elim (a2 q) (k4 q),λq hq=>(OK.1 hq).elim (a3 q) (k6 q),λt=>?_,λt=>?_,λu hu hlu hmu=>?_⟩
   .rw[qH];have hk:bw (λu:Tt=>u.1=r/\(u∈Ts R d t/\¬LM O p R d G u)) (cd K t):=by
     by_cases ht:d r<=t
     .refine(uh (i:=r) (k1 t ht)).congr λu=>?_;obtain⟨i,y⟩:=u;rw[de];constructor
      .rintro ⟨h0,h1,h2⟩;have h0:i=r:=h0;have h1:aC y=t-d r:=h1;subst h0;exact⟨rfl,⟨show i<R by omega,show d i+aC y=t by omega⟩,h2⟩
      .rintro ⟨h0,⟨_,h1⟩,h2⟩;have h0:i=r:=h0;have h1:d i+aC y=t:=h1;subst h0;exact⟨rfl,show aC y=t-d i by omega,h2⟩
     .rw[k2 t ht];refine bw.none λu ⟨h1,h2,_⟩=>?_;have:=(de.1 h2).2;rw[h1] at this;omega
    refine((a5 t).or hk λu h1 h2=>by omega).congr λu=>?_;constructor
    .rintro (⟨h1,h2⟩|⟨h1,h2⟩)
     .exact⟨by omega,h2⟩
     .exact⟨by omega,h2⟩
    .rintro ⟨h1,h2⟩;by_cases h:u.1<r
     .exact Pf ⟨h,h2⟩
     .exact Pg ⟨by omega,h2⟩
   .rw[List.range_succ,O0,List.sum_append,List.map_cons,List.map_nil,List.sum_cons,List.sum_nil,Nat.add_zero];have hk:bw (λu:Tt=>u.1=r/\u∈Ts R d t) (iC (d r) t):=by
     unfold iC;by_cases ht:d r<=t
     .rw[OW ht];refine(uh (i:=r) (oV (t-d r))).congr λu=>?_;obtain⟨i,y⟩:=u;rw[de];constructor
      .rintro ⟨h0,h1⟩;have h0:i=r:=h0;have h1:aC y=t-d r:=h1;subst h0;exact⟨rfl,show i<R by omega,show d i+aC y=t by omega⟩
      .rintro ⟨h0,_,h1⟩;have h0:i=r:=h0;have h1:d i+aC y=t:=h1;subst h0;exact⟨rfl,show aC y=t-d i by omega⟩
     .rw[OV ht];refine bw.none λu ⟨h1,h2⟩=>?_;have:=(de.1 h2).2;rw[h1] at this;omega
    refine((a6 t).or hk λu h1 h2=>by omega).congr λu=>?_;constructor
    .rintro (⟨h1,h2⟩|⟨h1,h2⟩)
     .exact⟨by omega,h2⟩
     .exact⟨by omega,h2⟩
    .rintro ⟨h1,h2⟩;by_cases h:u.1<r
     .exact Pf ⟨h,h2⟩
     .exact Pg ⟨by omega,h2⟩
   .by_cases h:u.1<r
    .rcases a7 u h hlu hmu with h|⟨q,b1,b2⟩
     .exact Pf h
     .exact Pg ⟨q,OK.2 (Pf b1),b2⟩
    .have e:u.1=r:=by omega
     obtain⟨i,y⟩:=u;simp only at e;subst e;rcases k5 y hlu hmu with h|⟨q,b1,b2⟩
     .exact Pf h
     .exact Pg ⟨q,OK.2 (Pg b1),b2⟩
 obtain⟨QB,a1,a2,a3,a5,a6,a7⟩:=places R (Ou _);have he:∀t,cd QB t=w*nm 4 t:=λt=>by
  have h:=bw.uniq (((c3 t).or (a5 t) λu h1 h2=>h2.2.2 (by
   have e:=(de.1 h2.2.1).2;unfold LM;rw[e];exact h1)).congr λu=>by
    constructor
    .rintro (h|⟨h1,h2,_⟩)
     .obtain⟨f,_,h2,_⟩:=h;exact⟨(de.1 h2).1,h2⟩
     .exact⟨h1,h2⟩
    .rintro ⟨h1,h2⟩;by_cases h:Cn.Ld O p (Ts R d t) (Vm p R d G t) u
     .exact Pf h
     .refine Pg ⟨h1,h2,λhc=>h ?_⟩;unfold LM at hc;rw[(de.1 h2).2] at hc;exact hc) (a6 t)
  rw[hRR,List.range_add,O0,List.sum_append,List.map_map] at h;have e0:((List.range w).map λi=>iC (d i) t).sum=w*nm 4 t:=by
   rw[List.map_congr_left (g:=λ_=>nm 4 t) λi hi=>by
    have:=hd0 i (List.mem_range.1 hi);unfold iC;rw[this,OW (OB _),Nat.sub_zero]]
   have z:∀k,((List.range k).map λ_=>nm 4 t).sum=k*nm 4 t:=λk=>by
    induction k with
    |zero=>simp
    |succ k ih=>rw[List.range_succ,O0,List.sum_append,ih,List.map_cons,List.map_nil,List.sum_cons,List.sum_nil,Nat.succ_mul];omega
   exact z w
  rw[e0] at h;omega
 have hb:=Fm a1 a2 a3 hw he;have hds:=hd s.1 hs;rcases a7 s hs hl hm with h|⟨q,b1,b2⟩
 .omega
 .have:=hb q b1;omega
end Go.Proofs.YtjkalahhpobefaaGreat.C4
