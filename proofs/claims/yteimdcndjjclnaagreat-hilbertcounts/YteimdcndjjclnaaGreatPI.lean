/- Steps of regions that draw; merge. -/
import Derived.Test.YteimdcndjjclnaaGreatPF
import Derived.Test.YteimdcndjjclnaaGreatM
import Derived.Deep.RegionLaw
import Derived.Test.YteimdcndjjclnaaGreatFN
import Derived.Deep.CutBlock
namespace Go.Proofs.YteimdcndjjclnaaGreat
set_option linter.all false
open Go.Proofs.Tryz Go.RowKit
theorem B7{P:Program}{ops:Array Oper}{o:Oper}{a:Act}{w:World}{K:Act->World->Prop}{Q:Exit->Act->World->Prop}{E:Prop}(hg:o.guard=none)(s x:Operand)(t:TypeId)(hop:o.op=Op.call {callee:=Callee.builtin Builtin.append,args:=#[s,x],argTypes:=#[t,t]})(base:Nat)(e:TypeId)(i:TypeInfo)(size:Nat)(h1:P.underlying t=some (.slice e))(h2:P.info? e=some i)(h4:i.size=size)(g k cap:Nat)(xs:List Value)(hs:a.eval s=.slice (some ⟨g,0,none⟩) k cap)(hown:w.ownsRow base e size (.slice (some ⟨g,0,none⟩) k cap) k xs)(ad:Addr)(m c:Nat)(news:List Value)(hx:a.eval x=.slice (some ad) m c)(hn:news.length=m*size)(hc:∀j u,news[j]?=some u->w.cell? (ad.add j)=some u)(h1c:∀u∈news,u.oneCell'=true)(b1:k+m<=cap)(hK:∀w',w'.ownsRow base e size (.slice (some ⟨g,0,none⟩) (k+m) cap) (k+m) (xs++news)->w.grownBy w' (some g)->K (a.put o.dst (.slice (some ⟨g,0,none⟩) (k+m) cap)) w'):if Region.wanted o (yielded ops a.tmps)=true then Oper.wp P o a w K Q else E:=by
 have hw:Region.wanted o (yielded ops a.tmps)=true:=by simp[Region.wanted,hg]
 rw[M9 hw];obtain⟨w',hrun,r1,r2⟩:=run_append_fits (P:=P) w base t o.type e i size h1 h2 h4 g k cap xs hown ad m c news hn hc h1c b1;unfold Oper.wp;simp[execOp,hop,resolve,invoke,builtin,hs,hx,hrun,Result.andThen];exact hK w' r1 r2
theorem zE{P:Program}{ops:Array Oper}{o:Oper}{a:Act}{w:World}{K:Act->World->Prop}{Q:Exit->Act->World->Prop}{E:Prop}(hg:o.guard=none)(s x:Operand)(t:TypeId)(hop:o.op=Op.call {callee:=Callee.builtin Builtin.append,args:=#[s,x],argTypes:=#[t,t]})(base:Nat)(e:TypeId)(i:TypeInfo)(z:Value)(size bytes:Nat)(ht:P.underlying t=some (.slice e))(hi:P.info? e=some i)(hz:i.zero=some z)(hsize:i.size=size)(hby:i.bytes=bytes)(hzs:z.cells.size=size)(hsz:0<size)(v:Value)(n:Nat)(xs:List Value)(hs:a.eval s=v)(hown:w.ownsRow base e size v n xs)(ad:Addr)(m c:Nat)(news:List Value)(hx:a.eval x=.slice (some ad) m c)(hl:news.length=m*size)(hnews:∀j u,news[j]?=some u->w.cell? (ad.add j)=some u)(h1:∀u∈news,u.oneCell'=true)(h63:n+m<=maxLen)(hbytes:(n+m)*bytes<=140737488355328)(hbase:base<=w.heap.size)(hK:∀v' w',w'.ownsRow base e size v' (n+m) (xs++news)->w.grownBy w' v.ownBlock->(v'=.slice none 0 0↔v=.slice none 0 0/\m=0)->K (a.put o.dst v') w'):if Region.wanted o (yielded ops a.tmps)=true then Oper.wp P o a w K Q else E:=by
 have hw:Region.wanted o (yielded ops a.tmps)=true:=by simp[Region.wanted,hg]
 rw[M9 hw];obtain⟨v',w',hr,h2,h3,h4⟩:=run_append_own (P:=P) w base t o.type e i z size bytes ht hi hz hsize hby hzs hsz v n xs hown ad m c news hl hnews h1 h63 hbytes hbase;unfold Oper.wp execOp;simp only[hop,resolve,invoke,builtin,Sem.run_bind,Sem.run_pure,Result.andThen_ok,List.map_toArray,List.map_cons,List.map_nil,hs,hx,hr];exact hK v' w' h2 h3 h4
def iZ(p:Int)(N:Nat)(t:Tm):Prop:=t.2.length=N/\(∀x∈t.2,0<=x/\x<=40000)/\0<=t.1/\t.1<p
def ox:Value->Nat
 | .slice _ n _=>n
 |_=>0
structure gD(p o:Int)(N C:Nat)(w1 wr:World)(g:Nat)(L:List Tm)(fv gv:Value)(fs gs:List Tm)(ds:List TV):Prop where
 pf:Pl w1 fv fs
 pg:Pl w1 gv gs
 tf:∀t∈fs,iZ p N t
 tg:∀t∈gs,iZ p N t
 own:wr.ownsRow w1.heap.size 57 2 (.slice (some ⟨g,0,none⟩) ds.length C) ds.length (au ds)
 es:Es w1 ds
 below:Below w1.heap.size w1 wr
 eq:L=ds.map tm++cS p o fs gs
 room:ds.length+fs.length+gs.length<=C
theorem Pl.head{w:World}{v:Value}{t:Tm}{ts:List Tm}(h:Pl w v (t::ts)):∃b off cap ev,v=.slice (some ⟨b,off,none⟩) (ts.length+1) cap/\ts.length+1<=cap/\b<w.heap.size/\w.cell? ⟨b,off,none⟩=some (.int .i64 t.1)/\w.cell? ⟨b,off+1,none⟩=some ev/\Sl w ev t.2/\(cap=1->ts=[])/\Pl w (.slice (some ⟨b,off+2,none⟩) ts.length (cap-1)) ts:=by
 obtain⟨a,cap,rfl,hcap,h⟩:=h;obtain⟨b,off,rfl,hlt,hc⟩:=h (by simp);obtain⟨c0,ev,c1,hs⟩:=hc 0 (by simp);simp only[Nc] at hcap;refine⟨b,off,cap,ev,rfl,hcap,hlt,by simpa using c0,by simpa using c1,by simpa using hs,λe=>Nk.1 (by omega),_,_,rfl,by omega,λhp=>⟨b,off+2,rfl,hlt,λi hi=>?_⟩⟩;obtain⟨d0,ew,d1,ds⟩:=hc (i+1) (by simp only[Nc];omega);have e1:off+(i+1)*2=off+2+i*2:=by omega
 rw[e1] at d0 d1;exact⟨by simpa using d0,ew,d1,by simpa using ds⟩
theorem Pl.tail{w:World}{b off cap:Nat}{ts:List Tm}(h:(cap=1->ts=[])/\Pl w (.slice (some ⟨b,off+2,none⟩) ts.length (cap-1)) ts):∃A,(if cap=1 then (some ⟨b,off,none⟩:Option Addr) else some ⟨b,off+2,none⟩)=some A/\Pl w (.slice (some A) ts.length (cap-1)) ts:=by
 by_cases hc:cap=1
 .have e:=h.1 hc;subst e;exact⟨⟨b,off,none⟩,M9 hc,_,_,rfl,MP _,λh=>absurd h (by simp)⟩
 .exact⟨⟨b,off+2,none⟩,M8 hc,h.2⟩
theorem af{W W2:World}{a:Addr}{x:Value}(h:W.cell? a=some x)(hb:Below W.heap.size W W2):W2.cell? a=some x:=by rw[hb.cell (nl h)];exact h
theorem B8{w W W2:World}{B:Nat}{Q:Prop}(h:Nw (Below B w W)/\Q)(hb:Below W.heap.size W W2)(hB:B<=w.heap.size):Below B w W2:=h.1.o.trans (hb.mono (MO hB h.1.o.size))
theorem gD.next{p o:Int}{N C:Nat}{w1 wr w':World}{g:Nat}{L:List Tm}{fv gv:Value}{fs gs:List Tm}{ds:List TV}(h:gD p o N C w1 wr g L fv gv fs gs ds)(hb:Below wr.heap.size wr w'):gD p o N C w1 w' g L fv gv fs gs ds:=
 ⟨h.pf,h.pg,h.tf,h.tg,aI h.own hb,h.es,h.below.trans (hb.mono h.below.size),h.eq,h.room⟩
theorem gD.takeF{p o:Int}{N C:Nat}{w1 wr w2 w':World}{g:Nat}{L:List Tm}{fv gv fv' ev:Value}{tc:Int}{te:List Int}{u:Tm}{fs gs:List Tm}{ds:List TV}(h:gD p o N C w1 wr g L fv gv ((tc,te)::fs) (u::gs) ds)(hb:Below wr.heap.size wr w2)(ho:0<aX o te u.2)(hown:w'.ownsRow w1.heap.size 57 2 (.slice (some ⟨g,0,none⟩) (ds.length+1) C) (ds.length+1) (au ds++[.int .i64 tc,ev]))(hg:w2.grownBy w' (some g))(hgw:w1.heap.size<=g)(hs:Sl w1 ev te)(hf:Pl w1 fv' fs):gD p o N C w1 w' g L fv' gv fs (u::gs) (ds++[(tc,ev,te)]):=by
 refine⟨hf,h.pg,λt ht=>h.tf t (by simp[ht]),h.tg,?_,?_,?_,?_,?_⟩
 .rw[km,M0];exact hown
 .intro t ht;rcases MY.1 ht with ht|ht
  .exact h.es t ht
  .rw[MZ] at ht;subst ht;exact hs
 .have h2:=h.below.trans (hb.mono h.below.size);exact h2.trans (dI hg hgw h2.size)
 .rw[h.eq,ol (by exact ho),Nd];simp[tm]
 .have:=h.room;simp only[M0,Nc,List.length_nil] at this⊢;omega
theorem gD.takeG{p o:Int}{N C:Nat}{w1 wr w2 w':World}{g:Nat}{L:List Tm}{fv gv gv' ev:Value}{uc:Int}{ue:List Int}{t:Tm}{fs gs:List Tm}{ds:List TV}(h:gD p o N C w1 wr g L fv gv (t::fs) ((uc,ue)::gs) ds)(hb:Below wr.heap.size wr w2)(ho:aX o t.2 ue<0)(hown:w'.ownsRow w1.heap.size 57 2 (.slice (some ⟨g,0,none⟩) (ds.length+1) C) (ds.length+1) (au ds++[.int .i64 uc,ev]))(hg:w2.grownBy w' (some g))(hgw:w1.heap.size<=g)(hs:Sl w1 ev ue)(hf:Pl w1 gv' gs):gD p o N C w1 w' g L fv gv' (t::fs) gs (ds++[(uc,ev,ue)]):=by
 refine⟨h.pf,hf,h.tf,λt ht=>h.tg t (by simp[ht]),?_,?_,?_,?_,?_⟩
 .rw[km,M0];exact hown
 .intro t ht;rcases MY.1 ht with ht|ht
  .exact h.es t ht
  .rw[MZ] at ht;subst ht;exact hs
 .have h2:=h.below.trans (hb.mono h.below.size);exact h2.trans (dI hg hgw h2.size)
 .rw[h.eq,om (by exact ho),Nd];simp[tm]
 .have:=h.room;simp only[M0,Nc,List.length_nil] at this⊢;omega
theorem gD.both{p o:Int}{N C:Nat}{w1 wr w2 w':World}{g:Nat}{L:List Tm}{fv gv fv' gv' ev:Value}{tc uc:Int}{te ue:List Int}{fs gs:List Tm}{ds:List TV}(h:gD p o N C w1 wr g L fv gv ((tc,te)::fs) ((uc,ue)::gs) ds)(hb:Below wr.heap.size wr w2)(ho:aX o te ue=0)(hc:(tc+uc)%p≠0)(hown:w'.ownsRow w1.heap.size 57 2 (.slice (some ⟨g,0,none⟩) (ds.length+1) C) (ds.length+1) (au ds++[.int .i64 ((tc+uc)%p),ev]))(hg:w2.grownBy w' (some g))(hgw:w1.heap.size<=g)(hs:Sl w1 ev te)(hf:Pl w1 fv' fs)(hf2:Pl w1 gv' gs):gD p o N C w1 w' g L fv' gv' fs gs (ds++[((tc+uc)%p,ev,te)]):=by
 refine⟨hf,hf2,λt ht=>h.tf t (by simp[ht]),λt ht=>h.tg t (by simp[ht]),?_,?_,?_,?_,?_⟩
 .rw[km,M0];exact hown
 .intro t ht;rcases MY.1 ht with ht|ht
  .exact h.es t ht
  .rw[MZ] at ht;subst ht;exact hs
 .have h2:=h.below.trans (hb.mono h.below.size);exact h2.trans (dI hg hgw h2.size)
 .rw[h.eq,oo (by exact ho) (by exact hc),Nd];simp[tm]
 .have:=h.room;simp only[M0,Nc,List.length_nil] at this⊢;omega
theorem gD.drop{p o:Int}{N C:Nat}{w1 wr w2:World}{g:Nat}{L:List Tm}{fv gv fv' gv':Value}{tc uc:Int}{te ue:List Int}{fs gs:List Tm}{ds:List TV}(h:gD p o N C w1 wr g L fv gv ((tc,te)::fs) ((uc,ue)::gs) ds)(hb:Below wr.heap.size wr w2)(ho:aX o te ue=0)(hc:(tc+uc)%p=0)(hf:Pl w1 fv' fs)(hf2:Pl w1 gv' gs):gD p o N C w1 w2 g L fv' gv' fs gs ds:=by
 have k:=h.next hb;refine⟨hf,hf2,λt ht=>h.tf t (by simp[ht]),λt ht=>h.tg t (by simp[ht]),k.own,k.es,k.below,?_,?_⟩
 .rw[h.eq,oq (by exact ho) (by exact hc)]
 .have:=h.room;simp only[Nc] at this⊢;omega
theorem gD.finish{p o:Int}{N C:Nat}{w1 wr w2 w3:World}{g:Nat}{L:List Tm}{fv gv:Value}{fs gs:List Tm}{ds us vs:List TV}(h:gD p o N C w1 wr g L fv gv fs gs ds)(hus:us.map tm=fs)(hvs:vs.map tm=gs)(hu:Es w1 us)(hv:Es w1 vs)(hgw:w1.heap.size<=g)(he:fs=[]\/gs=[])(g2:wr.grownBy w2 (some g))(g3:w2.grownBy w3 (some g))(hown:w3.ownsRow w1.heap.size 57 2 (.slice (some ⟨g,0,none⟩) (ds.length+us.length+vs.length) C) (ds.length+us.length+vs.length) (au ds++au us++au vs)):Pl w3 (.slice (some ⟨g,0,none⟩) (ds.length+us.length+vs.length) C) L/\Below w1.heap.size w1 w3:=by
 have hb:Below w1.heap.size w1 w3:=h.below.trans (dI (cN g2 g3) hgw h.below.size);refine⟨?_,hb⟩;have e1:(ds++us++vs).length=ds.length+us.length+vs.length:=by simp only[M0]
 have e2:au (ds++us++vs)=au ds++au us++au vs:=by rw[km,km]
 have k:=ow (w:=w3) (B:=w1.heap.size) (v:=.slice (some ⟨g,0,none⟩) (ds.length+us.length+vs.length) C) (ts:=ds++us++vs) (by rw[e1,e2];exact hown) (by
  intro t ht;rcases MY.1 ht with ht|ht
  .rcases MY.1 ht with ht|ht
   .exact(h.es t ht).below hb
   .exact(hu t ht).below hb
  .exact(hv t ht).below hb)
 have e3:(ds++us++vs).map tm=L:=by
  rw[h.eq,Nd,Nd,hus,hvs];rcases he with he|he
  .subst he;rw[oh];simp
  .subst he;rw[oj];simp
 rw[e3] at k;exact k
def Bd(ts:List Tm):Prop:=∀t∈ts,∀x∈t.2,0<=x/\x<=40000
theorem Bd.merge{p o:Int}{f g:List Tm}(hf:Bd f)(hg:Bd g):Bd (cS p o f g):=by intro x hx;obtain⟨t,ht,e⟩:=pS f g x hx;rw[e];exact(MY.1 ht).elim (hf t) (hg t)
structure mV(p o:Int)(N:Nat)(F:Nat->List Tm)(a k:Nat)(w':World)(u:Value)(ts:List Tm):Prop where
 pl:Pl w' u ts
 canon:eB p o N ts
 same:dy p ts (kT F a k)
 len:ts.length<=(kT F a k).length
 bd:Bd ts
theorem mV.below{p o:Int}{N:Nat}{F:Nat->List Tm}{a k:Nat}{w' w2:World}{u:Value}{ts:List Tm}(h:mV p o N F a k w' u ts)(hb:Below w'.heap.size w' w2):mV p o N F a k w2 u ts:=⟨h.pl.below hb,h.canon,h.same,h.len,h.bd⟩
theorem mV.merge{p o:Int}{N:Nat}{F:Nat->List Tm}{a m b:Nat}{w' w2:World}{u u1 u2:Value}{ts us:List Tm}(hp:2<=p)(hm:a<=m)(hb:m<=b)(h:mV p o N F a (m-a) w' u1 ts)(k:mV p o N F m (b-m) w' u2 us)(hu:Pl w2 u (cS p o ts us)):mV p o N F a (b-a) w2 u (cS p o ts us):=by
 have e:kT F a (b-a)=kT F a (m-a)++kT F m (b-m):=by rw[show b-a=(m-a)+(b-m) by omega,Kj,show a+(m-a)=m by omega]
 refine⟨hu,Kh hp ts us h.canon k.canon,?_,?_,h.bd.merge k.bd⟩
 .rw[e];exact(Kg ts us h.canon.len k.canon.len).trans (h.same.append k.same)
 .rw[e,M0];have:=Kf (p:=p) (o:=o) ts us;have:=h.len;have:=k.len;omega
theorem iq{α:Type}(xs:List (List α))(k:Nat)(h:k<xs.length):xs.getD k []∈xs:=by rw[MV,MW h];simp
def mW(ts:List Tm):Prop:=∀t∈ts,∀x∈t.2,0<=x/\x<=20000
theorem mW.bd{ts:List Tm}(h:mW ts):Bd ts:=λt ht x hx=>by have:=h t ht x hx;omega
theorem iK(ts:List Tm)(k:Nat)(h:k<ts.length):ts.getD k bi∈ts:=by rw[MV,MW h];simp
theorem B9:∀(a b:List Int),(∀x∈a,0<=x/\x<=20000)->(∀x∈b,0<=x/\x<=20000)->∀x∈aY (·+·) a b,0<=x/\x<=40000
 |[],_,_,_,x,hx=>by simp[aY] at hx
 |_::_,[],_,_,x,hx=>by simp[aY] at hx
 |a::ar,b::br,ha,hb,x,hx=>by
  simp only[aY,Nb] at hx;rcases hx with rfl|hx
  .have:=ha a (by simp);have:=hb b (by simp);omega
  .exact B9 ar br (λy hy=>ha y (by simp[hy])) (λy hy=>hb y (by simp[hy])) x hx
theorem vY(p o:Int)(t:Tm)(post:List Tm):∀pre:List Tm,(∀u∈pre,0<aX o u.2 t.2)->bK p o (pre++post) t=pre++bK p o post t
 |[],_=>rfl
 |u::pre,h=>by simp only[List.cons_append,bK];rw[M9 (h u (by simp)),vY p o t post pre (λx hx=>h x (by simp[hx]))]
theorem Ca{p o:Int}{t:Tm}:∀out:List Tm,(bK p o out t).length<=out.length+1
 |[]=>by simp[bK]
 |u::out=>by
  simp only[bK];split
  .have:=Ca (p:=p) (o:=o) (t:=t) out;simp only[Nc];omega
  .split<;>simp only[Nc]<;>omega
theorem vZ{p o:Int}:∀(l out:List Tm),(l.foldl (bK p o) out).length<=out.length+l.length
 |[],out=>by simp
 |t::l,out=>by simp only[List.foldl_cons,Nc];have h1:=vZ (p:=p) (o:=o) l (bK p o out t);have h2:=Ca (p:=p) (o:=o) (t:=t) out;omega
theorem Ko{p o:Int}{N:Nat}(hp:2<=p){t:Tm}(ht:iZ p N t){out:List Tm}(h:∀u∈out,iZ p N u):∀x∈bK p o out t,iZ p N x:=by
 intro x hx;have hr:=vW (o:=o) hp (t:=t) ht.2.2 (out:=out) (λu hu=>(h u hu).2.2) x hx;rcases pQ hx with e|⟨u,hu,e⟩
 .exact⟨by rw[e];exact ht.1,by rw[e];exact ht.2.1,hr⟩
 .exact⟨by rw[e];exact(h u hu).1,by rw[e];exact(h u hu).2.1,hr⟩
theorem Cb{p o:Int}{N:Nat}(hp:2<=p):∀(l out:List Tm),(∀u∈l,iZ p N u)->(∀u∈out,iZ p N u)->∀x∈l.foldl (bK p o) out,iZ p N x
 |[],out,_,ho=>ho
 |t::l,out,hl,ho=>Cb hp l (bK p o out t) (λx hx=>hl x (by simp[hx])) (Ko hp (hl t (by simp)) ho)
structure gX(Φ:Value->Prop)(p o:Int)(w1 wr:World)(ts:List Tm)(k:Nat)(v:Value)(outs:List TV):Prop where
 own:wr.ownsRow w1.heap.size 57 2 v outs.length (au outs)
 es:Es w1 outs
 below:Below w1.heap.size w1 wr
 eq:outs.map tm=(ts.take k).foldl (bK p o) []
 nil:outs=[]->v=.slice none 0 0
 ap:∀t∈outs,Φ t.2.1
theorem gX.next{Φ:Value->Prop}{p o:Int}{w1 wr w':World}{ts:List Tm}{k:Nat}{v:Value}{outs:List TV}(h:gX Φ p o w1 wr ts k v outs)(hb:Below wr.heap.size wr w'):gX Φ p o w1 w' ts k v outs:=
 ⟨aI h.own hb,h.es,h.below.trans (hb.mono h.below.size),h.eq,h.nil,h.ap⟩
theorem gX.len{Φ:Value->Prop}{p o:Int}{w1 wr:World}{ts:List Tm}{k:Nat}{v:Value}{outs:List TV}(h:gX Φ p o w1 wr ts k v outs):outs.length<=k:=by have h1:=vZ (p:=p) (o:=o) (ts.take k) [];rw[<-h.eq] at h1;rw[M6] at h1;have h2:=List.length_take_le k ts;simp only[List.length_nil] at h1;omega
theorem gX.tok{Φ:Value->Prop}{p o:Int}{N:Nat}{w1 wr:World}{ts:List Tm}{k:Nat}{v:Value}{outs:List TV}(h:gX Φ p o w1 wr ts k v outs)(hp:2<=p)(ht:∀t∈ts,iZ p N t):∀t∈outs,iZ p N (tm t):=by intro t hm;have h1:tm t∈outs.map tm:=List.mem_map_of_mem hm;rw[h.eq] at h1;exact Cb hp _ [] (λu hu=>ht u (Ns hu)) (λu hu=>by simp at hu) _ h1
theorem gX.at{Φ:Value->Prop}{p o:Int}{w1 wr:World}{ts:List Tm}{k:Nat}{v:Value}{outs:List TV}(h:gX Φ p o w1 wr ts k v outs)(h0:0<outs.length):∃g cap,v=.slice (some ⟨g,0,none⟩) outs.length cap/\outs.length<=cap/\w1.heap.size<=g/\g<wr.heap.size/\(∀j,wr.frozen? ⟨g,j,none⟩=false)/\∀j u,(au outs)[j]?=some u->wr.cell? ⟨g,j,none⟩=some u:=by
 rcases h.own.2 with ⟨h1,h2⟩|⟨g,cap,ag,rfl,hg,hh,hn,hm,hcs,ht⟩
 .omega
 .have hlt:=MH h.own g rfl;refine⟨g,cap,rfl,hn,hlt.1,hlt.2,λj=>h.own.frozenAt j,λj u hj=>?_⟩;have hjl:j<outs.length*2:=by rw[<-kU];apply M7;intro hle;rw[MX hle] at hj;simp at hj
  rw[h.own.cellAt j hjl];exact hj
theorem lR{n m:Nat}(h:n+m<=2400000000000):n+m<=maxLen/\(n+m)*32<=140737488355328:=⟨by unfold maxLen;omega,by omega⟩
theorem Cc{P:Program}(w:World)(base:Nat)(t ty e:TypeId)(i:TypeInfo)(z:Value)(ht:P.underlying t=some (.slice e))(hi:P.info? e=some i)(hz:i.zero=some z)(hsize:i.size=2)(hby:i.bytes=32)(hzs:z.cells.size=2)(v:Value)(n:Nat)(xs:List Value)(hown:w.ownsRow base e 2 v n xs)(us:List TV)(m:Nat)(hm:us.length=m)(ua:Option Addr)(uc:Nat)(hcs:0<m->∃b off,ua=some ⟨b,off,none⟩/\∀j u,(au us)[j]?=some u->w.cell? ⟨b,off+j,none⟩=some u)(hone:∀u∈au us,u.oneCell'=true)(hb:n+m<=2400000000000)(hbase:base<=w.heap.size):∃v' w',(Builtin.append_ #[t,t] ty #[v,.slice ua m uc]).run P w=.ok v' w'/\w'.ownsRow base e 2 v' (n+m) (xs++au us)/\w.grownBy w' v.ownBlock:=by
 subst hm;by_cases h0:0<us.length
 .obtain⟨b,off,rfl,hc⟩:=hcs h0;obtain⟨v',w',hr,h2,h3,_⟩:=run_append_own (P:=P) w base t ty e i z 2 32 ht hi hz hsize hby hzs (by decide) v n xs hown ⟨b,off,none⟩ us.length uc (au us) (kU us) (λj u hj=>by
   have:=hc j u hj;by_cases hj0:j=0
   .subst hj0;simpa [Addr.add] using this
   .simpa [Addr.add,hj0] using this) hone (lR hb).1 (lR hb).2 hbase
  exact⟨v',w',hr,h2,h3⟩
 .have e0:us=[]:=Nk.1 (by omega);subst e0;cases ua with
  |none=>exact⟨v,w,qJ w base t ty e i 2 ht hi v n uc xs hown,by simpa [au] using hown,qB _ _⟩
  |some ad=>obtain⟨v',w',hr,h2,h3,_⟩:=run_append_own (P:=P) w base t ty e i z 2 32 ht hi hz hsize hby hzs (by decide) v n xs hown ad 0 uc [] (by simp) (λj u hj=>by simp at hj) (λu hu=>by simp at hu) (lR hb).1 (lR hb).2 hbase;exact⟨v',w',hr,h2,h3⟩
theorem v8{P:Program}{w:World}{ops:Array Oper}{rest:List Oper}{o:Oper}{a:Act}{Q:Exit->Act->World->Prop}(hgd:o.guard=none)(s x:Operand)(t:TypeId)(ho:o.op=.call {callee:=.builtin .append,args:=#[s,x],argTypes:=#[t,t]})(base:Nat)(e:TypeId)(i:TypeInfo)(z:Value)(ht:P.underlying t=some (.slice e))(hi:P.info? e=some i)(hz:i.zero=some z)(hsize:i.size=2)(hby:i.bytes=32)(hzs:z.cells.size=2)(v:Value)(n:Nat)(xs:List Value)(hs:a.eval s=v)(hown:w.ownsRow base e 2 v n xs)(us:List TV)(m:Nat)(hm:us.length=m)(ua:Option Addr)(uc:Nat)(hx:a.eval x=.slice ua m uc)(hcs:0<m->∃b off,ua=some ⟨b,off,none⟩/\∀j u,(au us)[j]?=some u->w.cell? ⟨b,off+j,none⟩=some u)(hone:∀u∈au us,u.oneCell'=true)(hb:n+m<=2400000000000)(hbase:base<=w.heap.size)(hK:∀v' w',w'.ownsRow base e 2 v' (n+m) (xs++au us)->w.grownBy w' v.ownBlock->wpList P ops Q rest (a.put o.dst v') w'):wpList P ops Q (o::rest) a w:=by refine wpList_plain hgd λK hK'=>?_;obtain⟨v',w',hr,h2,h3⟩:=Cc (P:=P) w base t o.type e i z ht hi hz hsize hby hzs v n xs hown us m hm ua uc hcs hone hb hbase;unfold Oper.wp execOp;simp only[ho,resolve,invoke,builtin,Sem.run_bind,Sem.run_pure,Result.andThen_ok,List.map_toArray,List.map_cons,List.map_nil,hs,hx,hr];exact hK' _ _ (hK v' w' h2 h3)
theorem iL{P:Program}{ops:Array Oper}{o:Oper}{a:Act}{w:World}{K:Act->World->Prop}{Q:Exit->Act->World->Prop}{E:Prop}(hgd:o.guard=none)(s x:Operand)(t:TypeId)(ho:o.op=.call {callee:=.builtin .append,args:=#[s,x],argTypes:=#[t,t]})(base:Nat)(e:TypeId)(i:TypeInfo)(z:Value)(ht:P.underlying t=some (.slice e))(hi:P.info? e=some i)(hz:i.zero=some z)(hsize:i.size=2)(hby:i.bytes=32)(hzs:z.cells.size=2)(v:Value)(n:Nat)(xs:List Value)(hs:a.eval s=v)(hown:w.ownsRow base e 2 v n xs)(us:List TV)(m:Nat)(hm:us.length=m)(ua:Option Addr)(uc:Nat)(hx:a.eval x=.slice ua m uc)(hcs:0<m->∃b off,ua=some ⟨b,off,none⟩/\∀j u,(au us)[j]?=some u->w.cell? ⟨b,off+j,none⟩=some u)(hone:∀u∈au us,u.oneCell'=true)(hb:n+m<=2400000000000)(hbase:base<=w.heap.size)(hK:∀v' w',w'.ownsRow base e 2 v' (n+m) (xs++au us)->w.grownBy w' v.ownBlock->K (a.put o.dst v') w'):if Region.wanted o (yielded ops a.tmps)=true then Oper.wp P o a w K Q else E:=by
 have hw:Region.wanted o (yielded ops a.tmps)=true:=by simp[Region.wanted,hgd]
 rw[M9 hw];obtain⟨v',w',hr,h2,h3⟩:=Cc (P:=P) w base t o.type e i z ht hi hz hsize hby hzs v n xs hown us m hm ua uc hcs hone hb hbase;unfold Oper.wp execOp;simp only[ho,resolve,invoke,builtin,Sem.run_bind,Sem.run_pure,Result.andThen_ok,List.map_toArray,List.map_cons,List.map_nil,hs,hx,hr];exact hK v' w' h2 h3
theorem Cd:∀(j:Nat)(ts:List TV),au (ts.drop j)=(au ts).drop (j*2)
 |0,ts=>by simp
 |j+1,[]=>by simp[au]
 |j+1,t::ts=>by rw[lQ,show (j+1)*2=j*2+1+1 by omega];simp only[List.drop_succ_cons];exact Cd j ts
theorem Ce:∀(j:Nat)(ts:List TV),au (ts.take j)=(au ts).take (j*2)
 |0,ts=>by simp[au]
 |j+1,[]=>by simp[au]
 |j+1,t::ts=>by rw[lQ,show (j+1)*2=j*2+1+1 by omega];simp only[List.take_succ_cons,lQ];rw[Ce j ts]
theorem Cf:∀(j:Nat)(ts:List TV)(c:Int),j<ts.length->(au ts).set (j*2) (.int .i64 c)=au (ts.set j (c,(ts.getD j ci).2))
 |_,[],c,h=>by simp at h
 |0,t::ts,c,_=>by simp[lQ]
 |j+1,t::ts,c,h=>by rw[lQ,show (j+1)*2=j*2+1+1 by omega];simp only[List.set_cons_succ,lQ];rw[Cf j ts c (by simpa using h)];simp
theorem Kp{p o:Int}{outs:List TV}{j:Nat}{t:TV}(hm:∀u∈outs.take j,0<aX o u.2.2 t.2.2)(hn:j<outs.length->¬0<aX o (outs.getD j ci).2.2 t.2.2)(hs:¬(j<outs.length/\(outs.getD j ci).2.2=t.2.2)):bK p o (outs.map tm) (tm t)=(outs.take j++[t]++outs.drop j).map tm:=by
 have e:outs.map tm=(outs.take j).map tm++(outs.drop j).map tm:=by rw[<-Nd,List.take_append_drop]
 rw[e,vY _ _ _ _ _ (λu hu=>by
  obtain⟨x,hx,rfl⟩:=M5.1 hu;exact hm x hx)]
 rw[List.append_assoc,Nd];congr 1;by_cases hj:j<outs.length
 .have e2:outs.drop j=outs.getD j ci::outs.drop (j+1):=by rw[Nn hj];simp[MV,hj]
  rw[e2];simp only[List.map_cons,List.singleton_append,bK];rw[M8 (by exact hn hj),M8 (by exact λh=>hs ⟨hj,h⟩)]
 .rw[No (by omega)];rfl
theorem Kq{p o:Int}{outs:List TV}{j:Nat}{t:TV}(hm:∀u∈outs.take j,0<aX o u.2.2 t.2.2)(hj:j<outs.length)(hs:(outs.getD j ci).2.2=t.2.2)(hn:¬0<aX o (outs.getD j ci).2.2 t.2.2):bK p o (outs.map tm) (tm t)=(outs.set j (((outs.getD j ci).1+t.1)%p,(outs.getD j ci).2)).map tm:=by
 have e:outs.map tm=(outs.take j).map tm++(outs.drop j).map tm:=by rw[<-Nd,List.take_append_drop]
 have e3:outs.set j (((outs.getD j ci).1+t.1)%p,(outs.getD j ci).2)=outs.take j++(((outs.getD j ci).1+t.1)%p,(outs.getD j ci).2)::outs.drop (j+1):=by rw[List.set_eq_take_append_cons_drop,M9 hj]
 rw[e,vY _ _ _ _ _ (λu hu=>by
  obtain⟨x,hx,rfl⟩:=M5.1 hu;exact hm x hx),e3,Nd]
 congr 1;have e2:outs.drop j=outs.getD j ci::outs.drop (j+1):=by rw[Nn hj];simp[MV,hj]
 rw[e2];simp only[List.map_cons,bK];rw[M8 (by exact hn),M9 (by exact hs)];rfl
theorem gX.grow{Φ:Value->Prop}{p o:Int}{w1 wr w':World}{ts:List Tm}{k j:Nat}{v v':Value}{outs:List TV}{t:TV}(h:gX Φ p o w1 wr ts k v outs)(ht:ts.take (k+1)=ts.take k++[tm t])(hs:Sl w1 t.2.1 t.2.2)(hΦ:Φ t.2.1)(hj:j<=outs.length)(hm:∀u∈outs.take j,0<aX o u.2.2 t.2.2)(hn:j<outs.length->¬0<aX o (outs.getD j ci).2.2 t.2.2)(hsm:¬(j<outs.length/\(outs.getD j ci).2.2=t.2.2))(hb:Below wr.heap.size wr w')(hown:w'.ownsRow w1.heap.size 57 2 v' (j+1+(outs.length-j)) (au (outs.take j)++au [t]++au (outs.drop j))):gX Φ p o w1 w' ts (k+1) v' (outs.take j++[t]++outs.drop j):=by
 have el:(outs.take j++[t]++outs.drop j).length=j+1+(outs.length-j):=by simp only[M0,Nj,List.length_drop,Nc,List.length_nil];omega
 refine⟨?_,?_,h.below.trans (hb.mono h.below.size),?_,λe=>?_,?_⟩
 .rw[el,km,km];exact hown
 .intro u hu;rcases MY.1 hu with hu|hu
  .rcases MY.1 hu with hu|hu
   .exact h.es u (Ns hu)
   .rw[MZ] at hu;subst hu;exact hs
  .exact h.es u (List.mem_of_mem_drop hu)
 .rw[ht,List.foldl_append,<-h.eq];simp only[List.foldl_cons,List.foldl_nil];exact(Kp hm hn hsm).symm
 .have:(outs.take j++[t]++outs.drop j).length=0:=by rw[e];rfl
  omega
 .intro u hu;rcases MY.1 hu with hu|hu
  .rcases MY.1 hu with hu|hu
   .exact h.ap u (Ns hu)
   .rw[MZ] at hu;subst hu;exact hΦ
  .exact h.ap u (List.mem_of_mem_drop hu)
theorem gX.put{Φ:Value->Prop}{p o:Int}{w1 wr:World}{ts:List Tm}{k j g cap:Nat}{outs:List TV}{t:TV}{c:Int}(h:gX Φ p o w1 wr ts k (.slice (some ⟨g,0,none⟩) outs.length cap) outs)(ht:ts.take (k+1)=ts.take k++[tm t])(hj:j<outs.length)(hm:∀u∈outs.take j,0<aX o u.2.2 t.2.2)(hn:¬0<aX o (outs.getD j ci).2.2 t.2.2)(hs:(outs.getD j ci).2.2=t.2.2)(hc:c=((outs.getD j ci).1+t.1)%p)(hg:w1.heap.size<=g):gX Φ p o w1 (wr.setCell ⟨g,j*2,none⟩ (.int .i64 c)) ts (k+1) (.slice (some ⟨g,0,none⟩) outs.length cap) (outs.set j (c,(outs.getD j ci).2)):=by
 have s1:=h.own.stored (j*2) (.int .i64 c);rw[Cf j outs c hj] at s1;refine⟨?_,?_,h.below.trans (dI s1.2 hg h.below.size),?_,λe=>?_,?_⟩
 .rw[List.length_set];exact s1.1
 .intro u hu;rcases List.mem_or_eq_of_mem_set hu with hu|hu
  .exact h.es u hu
  .subst hu;have h1:=h.es _ (iI outs j hj);exact h1
 .rw[ht,List.foldl_append,<-h.eq];simp only[List.foldl_cons,List.foldl_nil];rw[hc];exact(Kq hm hj hs hn).symm
 .have:(outs.set j (c,(outs.getD j ci).2)).length=0:=by rw[e];rfl
  rw[List.length_set] at this;omega
 .intro u hu;rcases List.mem_or_eq_of_mem_set hu with hu|hu
  .exact h.ap u hu
  .subst hu;have h1:=h.ap _ (iI outs j hj);exact h1
theorem r7{w:World}{B B':Nat}{T:TypeId}{s:Nat}{v:Value}{n:Nat}{xs:List Value}(h:w.ownsRow B' T s v n xs)(hb:B<=B'):w.ownsRow B T s v n xs:=by
 obtain⟨h1,h2⟩:=h;refine⟨h1,?_⟩;rcases h2 with h2|⟨g,c,ag,e,hg,r⟩
 .exact Np h2
 .exact Nq ⟨g,c,ag,e,MO hb hg,r⟩
theorem dE{w W w':World}{B:Nat}{T:TypeId}{s:Nat}{v:Value}{n:Nat}{xs:List Value}(h:W.ownsRow B T s v n xs)(hb:Below B w W)(hg:W.grownBy w' v.ownBlock)(hB:B<=w.heap.size):Below B w w':=
 hb.grown hg (MO hB hb.size) (λk hk=>(MH h k hk).1)
theorem Cg{w W:World}{B:Nat}{T:TypeId}{ra:Option Addr}{n rc:Nat}{us:List TV}(h:w.ownsRow B T 2 (.slice ra n rc) n (au us))(hl:us.length=n)(hb:Below w.heap.size w W)(h0:0<n):∃b off,ra=some ⟨b,off,none⟩/\∀i u,(au us)[i]?=some u->W.cell? ⟨b,off+i,none⟩=some u:=by
 rcases h.2 with ⟨h1,h2⟩|⟨g,cap,ag,hv,hg,hh,hn,hm,hcs,ht⟩
 .omega
 .simp only[M4] at hv;obtain⟨rfl,_,_⟩:=hv;refine⟨g,0,rfl,λi u hi=>?_⟩;have hjl:i<n*2:=by rw[<-hl,<-kU];apply M7;intro hle;rw[MX hle] at hi;simp at hi
  rw[M1];exact af (by rw[h.cellAt i hjl];exact hi) hb
theorem lS(w:World)(tc:Int)(ev:Value)(te:List Int)(T:TypeId):∀i u,(au [(tc,ev,te)])[i]?=some u->(w.alloc (.cells #[.int .i64 tc,ev] T)).cell? ⟨w.heap.size,0+i,none⟩=some u:=by
 intro i u hi;rcases i with _|_|i
 .simp[au] at hi;subst hi;simp[go_sem]
 .simp[au] at hi;subst hi;simp[go_sem]
 .simp[au] at hi
end Go.Proofs.YteimdcndjjclnaaGreat
