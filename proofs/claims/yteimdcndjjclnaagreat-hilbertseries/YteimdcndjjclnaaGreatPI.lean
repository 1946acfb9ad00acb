/- Steps of regions that draw; merge. -/
import Derived.Test.YteimdcndjjclnaaGreatPF
import Derived.Test.YteimdcndjjclnaaGreatM
import Derived.Deep.RegionLaw
import Derived.Test.YteimdcndjjclnaaGreatFN
import Derived.Deep.CutBlock
namespace Go.Proofs.YteimdcndjjclnaaGreat
set_option linter.all false
open Go.Proofs.Tryz Go.RowKit
theorem Bb{P:Program}{ops:Array Oper}{o:Oper}{a:Act}{w:World}{K:Act->World->Prop}{Q:Exit->Act->World->Prop}{E:Prop}(hg:o.guard=none)(s x:Operand)(t:TypeId)(hop:o.op=Op.call {callee:=Callee.builtin Builtin.append,args:=#[s,x],argTypes:=#[t,t]})(base:Nat)(e:TypeId)(i:TypeInfo)(size:Nat)(h1:P.underlying t=some (.slice e))(h2:P.info? e=some i)(h4:i.size=size)(g k cap:Nat)(xs:List Value)(hs:a.eval s=.slice (some ⟨g,0,none⟩) k cap)(hown:w.ownsRow base e size (.slice (some ⟨g,0,none⟩) k cap) k xs)(ad:Addr)(m c:Nat)(news:List Value)(hx:a.eval x=.slice (some ad) m c)(hn:news.length=m*size)(hc:∀j u,news[j]?=some u->w.cell? (ad.add j)=some u)(h1c:∀u∈news,u.oneCell'=true)(b1:k+m<=cap)(hK:∀w',w'.ownsRow base e size (.slice (some ⟨g,0,none⟩) (k+m) cap) (k+m) (xs++news)->w.grownBy w' (some g)->K (a.put o.dst (.slice (some ⟨g,0,none⟩) (k+m) cap)) w'):if Region.wanted o (yielded ops a.tmps)=true then Oper.wp P o a w K Q else E:=by
 have hw:Region.wanted o (yielded ops a.tmps)=true:=by simp[Region.wanted,hg]
 rw[LI hw];obtain⟨w',hrun,r1,r2⟩:=run_append_fits (P:=P) w base t o.type e i size h1 h2 h4 g k cap xs hown ad m c news hn hc h1c b1;unfold Oper.wp;simp[execOp,hop,resolve,invoke,builtin,hs,hx,hrun,Result.andThen];exact hK w' r1 r2
theorem yg{P:Program}{ops:Array Oper}{o:Oper}{a:Act}{w:World}{K:Act->World->Prop}{Q:Exit->Act->World->Prop}{E:Prop}(hg:o.guard=none)(s x:Operand)(t:TypeId)(hop:o.op=Op.call {callee:=Callee.builtin Builtin.append,args:=#[s,x],argTypes:=#[t,t]})(base:Nat)(e:TypeId)(i:TypeInfo)(z:Value)(size bytes:Nat)(ht:P.underlying t=some (.slice e))(hi:P.info? e=some i)(hz:i.zero=some z)(hsize:i.size=size)(hby:i.bytes=bytes)(hzs:z.cells.size=size)(hsz:0<size)(v:Value)(n:Nat)(xs:List Value)(hs:a.eval s=v)(hown:w.ownsRow base e size v n xs)(ad:Addr)(m c:Nat)(news:List Value)(hx:a.eval x=.slice (some ad) m c)(hl:news.length=m*size)(hnews:∀j u,news[j]?=some u->w.cell? (ad.add j)=some u)(h1:∀u∈news,u.oneCell'=true)(h63:n+m<=maxLen)(hbytes:(n+m)*bytes<=140737488355328)(hbase:base<=w.heap.size)(hK:∀v' w',w'.ownsRow base e size v' (n+m) (xs++news)->w.grownBy w' v.ownBlock->(v'=.slice none 0 0↔v=.slice none 0 0/\m=0)->K (a.put o.dst v') w'):if Region.wanted o (yielded ops a.tmps)=true then Oper.wp P o a w K Q else E:=by
 have hw:Region.wanted o (yielded ops a.tmps)=true:=by simp[Region.wanted,hg]
 rw[LI hw];obtain⟨v',w',hr,h2,h3,h4⟩:=run_append_own (P:=P) w base t o.type e i z size bytes ht hi hz hsize hby hzs hsz v n xs hown ad m c news hl hnews h1 h63 hbytes hbase;unfold Oper.wp execOp;simp only[hop,resolve,invoke,builtin,Sem.run_bind,Sem.run_pure,Result.andThen_ok,List.map_toArray,List.map_cons,List.map_nil,hs,hx,hr];exact hK v' w' h2 h3 h4
def uN(p:Int)(N:Nat)(t:Tm):Prop:=t.2.length=N/\(∀x∈t.2,0<=x/\x<=40000)/\0<=t.1/\t.1<p
def ns:Value->Nat
 | .slice _ n _=>n
 |_=>0
structure fO(p o:Int)(N C:Nat)(w1 wr:World)(g:Nat)(L:List Tm)(fv gv:Value)(fs gs:List Tm)(ds:List TV):Prop where
 pf:Pl w1 fv fs
 pg:Pl w1 gv gs
 tf:∀t∈fs,uN p N t
 tg:∀t∈gs,uN p N t
 own:wr.ownsRow w1.heap.size 57 2 (.slice (some ⟨g,0,none⟩) ds.length C) ds.length (bO ds)
 es:Es w1 ds
 below:Below w1.heap.size w1 wr
 eq:L=ds.map tm++cC p o fs gs
 room:ds.length+fs.length+gs.length<=C
theorem Pl.head{w:World}{v:Value}{t:Tm}{ts:List Tm}(h:Pl w v (t::ts)):∃b off cap ev,v=.slice (some ⟨b,off,none⟩) (ts.length+1) cap/\ts.length+1<=cap/\b<w.heap.size/\w.cell? ⟨b,off,none⟩=some (.int .i64 t.1)/\w.cell? ⟨b,off+1,none⟩=some ev/\Sl w ev t.2/\(cap=1->ts=[])/\Pl w (.slice (some ⟨b,off+2,none⟩) ts.length (cap-1)) ts:=by
 obtain⟨a,cap,rfl,hcap,h⟩:=h;obtain⟨b,off,rfl,hlt,hc⟩:=h (by simp);obtain⟨c0,ev,c1,hs⟩:=hc 0 (by simp);simp only[LN] at hcap;refine⟨b,off,cap,ev,rfl,hcap,hlt,by simpa using c0,by simpa using c1,by simpa using hs,λe=>LV.1 (by omega),_,_,rfl,by omega,λhp=>⟨b,off+2,rfl,hlt,λi hi=>?_⟩⟩;obtain⟨d0,ew,d1,ds⟩:=hc (i+1) (by simp only[LN];omega);have e1:off+(i+1)*2=off+2+i*2:=by omega
 rw[e1] at d0 d1;exact⟨by simpa using d0,ew,d1,by simpa using ds⟩
theorem Pl.tail{w:World}{b off cap:Nat}{ts:List Tm}(h:(cap=1->ts=[])/\Pl w (.slice (some ⟨b,off+2,none⟩) ts.length (cap-1)) ts):∃A,(if cap=1 then (some ⟨b,off,none⟩:Option Addr) else some ⟨b,off+2,none⟩)=some A/\Pl w (.slice (some A) ts.length (cap-1)) ts:=by
 by_cases hc:cap=1
 .have e:=h.1 hc;subst e;exact⟨⟨b,off,none⟩,LI hc,_,_,rfl,Ll _,λh=>absurd h (by simp)⟩
 .exact⟨⟨b,off+2,none⟩,LH hc,h.2⟩
theorem ae{W W2:World}{a:Addr}{x:Value}(h:W.cell? a=some x)(hb:Below W.heap.size W W2):W2.cell? a=some x:=by rw[hb.cell (mt h)];exact h
theorem fO.next{p o:Int}{N C:Nat}{w1 wr w':World}{g:Nat}{L:List Tm}{fv gv:Value}{fs gs:List Tm}{ds:List TV}(h:fO p o N C w1 wr g L fv gv fs gs ds)(hb:Below wr.heap.size wr w'):fO p o N C w1 w' g L fv gv fs gs ds:=
 ⟨h.pf,h.pg,h.tf,h.tg,aK h.own hb,h.es,h.below.trans (hb.mono h.below.size),h.eq,h.room⟩
theorem fO.takeF{p o:Int}{N C:Nat}{w1 wr w2 w':World}{g:Nat}{L:List Tm}{fv gv fv' ev:Value}{tc:Int}{te:List Int}{u:Tm}{fs gs:List Tm}{ds:List TV}(h:fO p o N C w1 wr g L fv gv ((tc,te)::fs) (u::gs) ds)(hb:Below wr.heap.size wr w2)(ho:0<aJ o te u.2)(hown:w'.ownsRow w1.heap.size 57 2 (.slice (some ⟨g,0,none⟩) (ds.length+1) C) (ds.length+1) (bO ds++[.int .i64 tc,ev]))(hg:w2.grownBy w' (some g))(hgw:w1.heap.size<=g)(hs:Sl w1 ev te)(hf:Pl w1 fv' fs):fO p o N C w1 w' g L fv' gv fs (u::gs) (ds++[(tc,ev,te)]):=by
 refine⟨hf,h.pg,λt ht=>h.tf t (by simp[ht]),h.tg,?_,?_,?_,?_,?_⟩
 .rw[ko,Lx];exact hown
 .intro t ht;rcases Lv.1 ht with ht|ht
  .exact h.es t ht
  .rw[Lw] at ht;subst ht;exact hs
 .have h2:=h.below.trans (hb.mono h.below.size);exact h2.trans (dE hg hgw h2.size)
 .rw[h.eq,ni (by exact ho),LO];simp[tm]
 .have:=h.room;simp only[Lx,LN,List.length_nil] at this⊢;omega
theorem fO.takeG{p o:Int}{N C:Nat}{w1 wr w2 w':World}{g:Nat}{L:List Tm}{fv gv gv' ev:Value}{uc:Int}{ue:List Int}{t:Tm}{fs gs:List Tm}{ds:List TV}(h:fO p o N C w1 wr g L fv gv (t::fs) ((uc,ue)::gs) ds)(hb:Below wr.heap.size wr w2)(ho:aJ o t.2 ue<0)(hown:w'.ownsRow w1.heap.size 57 2 (.slice (some ⟨g,0,none⟩) (ds.length+1) C) (ds.length+1) (bO ds++[.int .i64 uc,ev]))(hg:w2.grownBy w' (some g))(hgw:w1.heap.size<=g)(hs:Sl w1 ev ue)(hf:Pl w1 gv' gs):fO p o N C w1 w' g L fv gv' (t::fs) gs (ds++[(uc,ev,ue)]):=by
 refine⟨h.pf,hf,h.tf,λt ht=>h.tg t (by simp[ht]),?_,?_,?_,?_,?_⟩
 .rw[ko,Lx];exact hown
 .intro t ht;rcases Lv.1 ht with ht|ht
  .exact h.es t ht
  .rw[Lw] at ht;subst ht;exact hs
 .have h2:=h.below.trans (hb.mono h.below.size);exact h2.trans (dE hg hgw h2.size)
 .rw[h.eq,nj (by exact ho),LO];simp[tm]
 .have:=h.room;simp only[Lx,LN,List.length_nil] at this⊢;omega
theorem fO.both{p o:Int}{N C:Nat}{w1 wr w2 w':World}{g:Nat}{L:List Tm}{fv gv fv' gv' ev:Value}{tc uc:Int}{te ue:List Int}{fs gs:List Tm}{ds:List TV}(h:fO p o N C w1 wr g L fv gv ((tc,te)::fs) ((uc,ue)::gs) ds)(hb:Below wr.heap.size wr w2)(ho:aJ o te ue=0)(hc:(tc+uc)%p≠0)(hown:w'.ownsRow w1.heap.size 57 2 (.slice (some ⟨g,0,none⟩) (ds.length+1) C) (ds.length+1) (bO ds++[.int .i64 ((tc+uc)%p),ev]))(hg:w2.grownBy w' (some g))(hgw:w1.heap.size<=g)(hs:Sl w1 ev te)(hf:Pl w1 fv' fs)(hf2:Pl w1 gv' gs):fO p o N C w1 w' g L fv' gv' fs gs (ds++[((tc+uc)%p,ev,te)]):=by
 refine⟨hf,hf2,λt ht=>h.tf t (by simp[ht]),λt ht=>h.tg t (by simp[ht]),?_,?_,?_,?_,?_⟩
 .rw[ko,Lx];exact hown
 .intro t ht;rcases Lv.1 ht with ht|ht
  .exact h.es t ht
  .rw[Lw] at ht;subst ht;exact hs
 .have h2:=h.below.trans (hb.mono h.below.size);exact h2.trans (dE hg hgw h2.size)
 .rw[h.eq,nl (by exact ho) (by exact hc),LO];simp[tm]
 .have:=h.room;simp only[Lx,LN,List.length_nil] at this⊢;omega
theorem fO.drop{p o:Int}{N C:Nat}{w1 wr w2:World}{g:Nat}{L:List Tm}{fv gv fv' gv':Value}{tc uc:Int}{te ue:List Int}{fs gs:List Tm}{ds:List TV}(h:fO p o N C w1 wr g L fv gv ((tc,te)::fs) ((uc,ue)::gs) ds)(hb:Below wr.heap.size wr w2)(ho:aJ o te ue=0)(hc:(tc+uc)%p=0)(hf:Pl w1 fv' fs)(hf2:Pl w1 gv' gs):fO p o N C w1 w2 g L fv' gv' fs gs ds:=by
 have k:=h.next hb;refine⟨hf,hf2,λt ht=>h.tf t (by simp[ht]),λt ht=>h.tg t (by simp[ht]),k.own,k.es,k.below,?_,?_⟩
 .rw[h.eq,nr (by exact ho) (by exact hc)]
 .have:=h.room;simp only[LN] at this⊢;omega
theorem fO.finish{p o:Int}{N C:Nat}{w1 wr w2 w3:World}{g:Nat}{L:List Tm}{fv gv:Value}{fs gs:List Tm}{ds us vs:List TV}(h:fO p o N C w1 wr g L fv gv fs gs ds)(hus:us.map tm=fs)(hvs:vs.map tm=gs)(hu:Es w1 us)(hv:Es w1 vs)(hgw:w1.heap.size<=g)(he:fs=[]\/gs=[])(g2:wr.grownBy w2 (some g))(g3:w2.grownBy w3 (some g))(hown:w3.ownsRow w1.heap.size 57 2 (.slice (some ⟨g,0,none⟩) (ds.length+us.length+vs.length) C) (ds.length+us.length+vs.length) (bO ds++bO us++bO vs)):Pl w3 (.slice (some ⟨g,0,none⟩) (ds.length+us.length+vs.length) C) L/\Below w1.heap.size w1 w3:=by
 have hb:Below w1.heap.size w1 w3:=h.below.trans (dE (cE g2 g3) hgw h.below.size);refine⟨?_,hb⟩;have e1:(ds++us++vs).length=ds.length+us.length+vs.length:=by simp only[Lx]
 have e2:bO (ds++us++vs)=bO ds++bO us++bO vs:=by rw[ko,ko]
 have k:=uM (w:=w3) (B:=w1.heap.size) (v:=.slice (some ⟨g,0,none⟩) (ds.length+us.length+vs.length) C) (ts:=ds++us++vs) (by rw[e1,e2];exact hown) (by
  intro t ht;rcases Lv.1 ht with ht|ht
  .rcases Lv.1 ht with ht|ht
   .exact(h.es t ht).below hb
   .exact(hu t ht).below hb
  .exact(hv t ht).below hb)
 have e3:(ds++us++vs).map tm=L:=by
  rw[h.eq,LO,LO,hus,hvs];rcases he with he|he
  .subst he;rw[m8];simp
  .subst he;rw[nh];simp
 rw[e3] at k;exact k
def Bd(ts:List Tm):Prop:=∀t∈ts,∀x∈t.2,0<=x/\x<=40000
theorem Bd.merge{p o:Int}{f g:List Tm}(hf:Bd f)(hg:Bd g):Bd (cC p o f g):=by intro x hx;obtain⟨t,ht,e⟩:=oT f g x hx;rw[e];exact(Lv.1 ht).elim (hf t) (hg t)
structure mf(p o:Int)(N:Nat)(F:Nat->List Tm)(a k:Nat)(w':World)(u:Value)(ts:List Tm):Prop where
 pl:Pl w' u ts
 canon:dQ p o N ts
 same:cX p ts (kn F a k)
 len:ts.length<=(kn F a k).length
 bd:Bd ts
theorem mf.below{p o:Int}{N:Nat}{F:Nat->List Tm}{a k:Nat}{w' w2:World}{u:Value}{ts:List Tm}(h:mf p o N F a k w' u ts)(hb:Below w'.heap.size w' w2):mf p o N F a k w2 u ts:=⟨h.pl.below hb,h.canon,h.same,h.len,h.bd⟩
theorem mf.merge{p o:Int}{N:Nat}{F:Nat->List Tm}{a m b:Nat}{w' w2:World}{u u1 u2:Value}{ts us:List Tm}(hp:2<=p)(hm:a<=m)(hb:m<=b)(h:mf p o N F a (m-a) w' u1 ts)(k:mf p o N F m (b-m) w' u2 us)(hu:Pl w2 u (cC p o ts us)):mf p o N F a (b-a) w2 u (cC p o ts us):=by
 have e:kn F a (b-a)=kn F a (m-a)++kn F m (b-m):=by rw[show b-a=(m-a)+(b-m) by omega,Ji,show a+(m-a)=m by omega]
 refine⟨hu,Jg hp ts us h.canon k.canon,?_,?_,h.bd.merge k.bd⟩
 .rw[e];exact(Jf ts us h.canon.len k.canon.len).trans (h.same.append k.same)
 .rw[e,Lx];have:=Je (p:=p) (o:=o) ts us;have:=h.len;have:=k.len;omega
theorem ik{α:Type}(xs:List (List α))(k:Nat)(h:k<xs.length):xs.getD k []∈xs:=by rw[Lr,Ls h];simp
def oW(ts:List Tm):Prop:=∀t∈ts,∀x∈t.2,0<=x/\x<=20000
theorem oW.bd{ts:List Tm}(h:oW ts):Bd ts:=λt ht x hx=>by have:=h t ht x hx;omega
theorem mh(ts:List Tm)(k:Nat)(h:k<ts.length):ts.getD k bT∈ts:=by rw[Lr,Ls h];simp
theorem Bc:∀(a b:List Int),(∀x∈a,0<=x/\x<=20000)->(∀x∈b,0<=x/\x<=20000)->∀x∈bL (·+·) a b,0<=x/\x<=40000
 |[],_,_,_,x,hx=>by simp[bL] at hx
 |_::_,[],_,_,x,hx=>by simp[bL] at hx
 |a::ar,b::br,ha,hb,x,hx=>by
  simp only[bL,LL] at hx;rcases hx with rfl|hx
  .have:=ha a (by simp);have:=hb b (by simp);omega
  .exact Bc ar br (λy hy=>ha y (by simp[hy])) (λy hy=>hb y (by simp[hy])) x hx
theorem uO(p o:Int)(t:Tm)(post:List Tm):∀pre:List Tm,(∀u∈pre,0<aJ o u.2 t.2)->bN p o (pre++post) t=pre++bN p o post t
 |[],_=>rfl
 |u::pre,h=>by simp only[List.cons_append,bN];rw[LI (h u (by simp)),uO p o t post pre (λx hx=>h x (by simp[hx]))]
theorem Be{p o:Int}{t:Tm}:∀out:List Tm,(bN p o out t).length<=out.length+1
 |[]=>by simp[bN]
 |u::out=>by
  simp only[bN];split
  .have:=Be (p:=p) (o:=o) (t:=t) out;simp only[LN];omega
  .split<;>simp only[LN]<;>omega
theorem Bf{p o:Int}:∀(l out:List Tm),(l.foldl (bN p o) out).length<=out.length+l.length
 |[],out=>by simp
 |t::l,out=>by simp only[List.foldl_cons,LN];have h1:=Bf (p:=p) (o:=o) l (bN p o out t);have h2:=Be (p:=p) (o:=o) (t:=t) out;omega
structure iw(Φ:Value->Prop)(p o:Int)(w1 wr:World)(ts:List Tm)(k:Nat)(v:Value)(outs:List TV):Prop where
 own:wr.ownsRow w1.heap.size 57 2 v outs.length (bO outs)
 es:Es w1 outs
 below:Below w1.heap.size w1 wr
 eq:outs.map tm=(ts.take k).foldl (bN p o) []
 nil:outs=[]->v=.slice none 0 0
 ap:∀t∈outs,Φ t.2.1
theorem iw.next{Φ:Value->Prop}{p o:Int}{w1 wr w':World}{ts:List Tm}{k:Nat}{v:Value}{outs:List TV}(h:iw Φ p o w1 wr ts k v outs)(hb:Below wr.heap.size wr w'):iw Φ p o w1 w' ts k v outs:=
 ⟨aK h.own hb,h.es,h.below.trans (hb.mono h.below.size),h.eq,h.nil,h.ap⟩
theorem iw.len{Φ:Value->Prop}{p o:Int}{w1 wr:World}{ts:List Tm}{k:Nat}{v:Value}{outs:List TV}(h:iw Φ p o w1 wr ts k v outs):outs.length<=k:=by have h1:=Bf (p:=p) (o:=o) (ts.take k) [];rw[<-h.eq] at h1;rw[LD] at h1;have h2:=List.length_take_le k ts;simp only[List.length_nil] at h1;omega
theorem iw.at{Φ:Value->Prop}{p o:Int}{w1 wr:World}{ts:List Tm}{k:Nat}{v:Value}{outs:List TV}(h:iw Φ p o w1 wr ts k v outs)(h0:0<outs.length):∃g cap,v=.slice (some ⟨g,0,none⟩) outs.length cap/\outs.length<=cap/\w1.heap.size<=g/\g<wr.heap.size/\(∀j,wr.frozen? ⟨g,j,none⟩=false)/\∀j u,(bO outs)[j]?=some u->wr.cell? ⟨g,j,none⟩=some u:=by
 rcases h.own.2 with ⟨h1,h2⟩|⟨g,cap,af,rfl,hg,hh,hn,hm,hcs,ht⟩
 .omega
 .have hlt:=Lb h.own g rfl;refine⟨g,cap,rfl,hn,hlt.1,hlt.2,λj=>h.own.frozenAt j,λj u hj=>?_⟩;have hjl:j<outs.length*2:=by rw[<-oU];apply LF;intro hle;rw[Lu hle] at hj;simp at hj
  rw[h.own.cellAt j hjl];exact hj
theorem Bg:∀(j:Nat)(ts:List TV)(c:Int),j<ts.length->(bO ts).set (j*2) (.int .i64 c)=bO (ts.set j (c,(ts.getD j dO).2))
 |_,[],c,h=>by simp at h
 |0,t::ts,c,_=>by simp[oV]
 |j+1,t::ts,c,h=>by rw[oV,show (j+1)*2=j*2+1+1 by omega];simp only[List.set_cons_succ,oV];rw[Bg j ts c (by simpa using h)];simp
theorem Jm{p o:Int}{outs:List TV}{j:Nat}{t:TV}(hm:∀u∈outs.take j,0<aJ o u.2.2 t.2.2)(hn:j<outs.length->¬0<aJ o (outs.getD j dO).2.2 t.2.2)(hs:¬(j<outs.length/\(outs.getD j dO).2.2=t.2.2)):bN p o (outs.map tm) (tm t)=(outs.take j++[t]++outs.drop j).map tm:=by
 have e:outs.map tm=(outs.take j).map tm++(outs.drop j).map tm:=by rw[<-LO,List.take_append_drop]
 rw[e,uO _ _ _ _ _ (λu hu=>by
  obtain⟨x,hx,rfl⟩:=LC.1 hu;exact hm x hx)]
 rw[List.append_assoc,LO];congr 1;by_cases hj:j<outs.length
 .have e2:outs.drop j=outs.getD j dO::outs.drop (j+1):=by rw[LY hj];simp[Lr,hj]
  rw[e2];simp only[List.map_cons,List.singleton_append,bN];rw[LH (by exact hn hj),LH (by exact λh=>hs ⟨hj,h⟩)]
 .rw[LZ (by omega)];rfl
theorem Jn{p o:Int}{outs:List TV}{j:Nat}{t:TV}(hm:∀u∈outs.take j,0<aJ o u.2.2 t.2.2)(hj:j<outs.length)(hs:(outs.getD j dO).2.2=t.2.2)(hn:¬0<aJ o (outs.getD j dO).2.2 t.2.2):bN p o (outs.map tm) (tm t)=(outs.set j (((outs.getD j dO).1+t.1)%p,(outs.getD j dO).2)).map tm:=by
 have e:outs.map tm=(outs.take j).map tm++(outs.drop j).map tm:=by rw[<-LO,List.take_append_drop]
 have e3:outs.set j (((outs.getD j dO).1+t.1)%p,(outs.getD j dO).2)=outs.take j++(((outs.getD j dO).1+t.1)%p,(outs.getD j dO).2)::outs.drop (j+1):=by rw[List.set_eq_take_append_cons_drop,LI hj]
 rw[e,uO _ _ _ _ _ (λu hu=>by
  obtain⟨x,hx,rfl⟩:=LC.1 hu;exact hm x hx),e3,LO]
 congr 1;have e2:outs.drop j=outs.getD j dO::outs.drop (j+1):=by rw[LY hj];simp[Lr,hj]
 rw[e2];simp only[List.map_cons,bN];rw[LH (by exact hn),LI (by exact hs)];rfl
theorem iw.grow{Φ:Value->Prop}{p o:Int}{w1 wr w':World}{ts:List Tm}{k j:Nat}{v v':Value}{outs:List TV}{t:TV}(h:iw Φ p o w1 wr ts k v outs)(ht:ts.take (k+1)=ts.take k++[tm t])(hs:Sl w1 t.2.1 t.2.2)(hΦ:Φ t.2.1)(hj:j<=outs.length)(hm:∀u∈outs.take j,0<aJ o u.2.2 t.2.2)(hn:j<outs.length->¬0<aJ o (outs.getD j dO).2.2 t.2.2)(hsm:¬(j<outs.length/\(outs.getD j dO).2.2=t.2.2))(hb:Below wr.heap.size wr w')(hown:w'.ownsRow w1.heap.size 57 2 v' (j+1+(outs.length-j)) (bO (outs.take j)++bO [t]++bO (outs.drop j))):iw Φ p o w1 w' ts (k+1) v' (outs.take j++[t]++outs.drop j):=by
 have el:(outs.take j++[t]++outs.drop j).length=j+1+(outs.length-j):=by simp only[Lx,LU,List.length_drop,LN,List.length_nil];omega
 refine⟨?_,?_,h.below.trans (hb.mono h.below.size),?_,λe=>?_,?_⟩
 .rw[el,ko,ko];exact hown
 .intro u hu;rcases Lv.1 hu with hu|hu
  .rcases Lv.1 hu with hu|hu
   .exact h.es u (L6 hu)
   .rw[Lw] at hu;subst hu;exact hs
  .exact h.es u (List.mem_of_mem_drop hu)
 .rw[ht,List.foldl_append,<-h.eq];simp only[List.foldl_cons,List.foldl_nil];exact(Jm hm hn hsm).symm
 .have:(outs.take j++[t]++outs.drop j).length=0:=by rw[e];rfl
  omega
 .intro u hu;rcases Lv.1 hu with hu|hu
  .rcases Lv.1 hu with hu|hu
   .exact h.ap u (L6 hu)
   .rw[Lw] at hu;subst hu;exact hΦ
  .exact h.ap u (List.mem_of_mem_drop hu)
theorem iw.put{Φ:Value->Prop}{p o:Int}{w1 wr:World}{ts:List Tm}{k j g cap:Nat}{outs:List TV}{t:TV}{c:Int}(h:iw Φ p o w1 wr ts k (.slice (some ⟨g,0,none⟩) outs.length cap) outs)(ht:ts.take (k+1)=ts.take k++[tm t])(hj:j<outs.length)(hm:∀u∈outs.take j,0<aJ o u.2.2 t.2.2)(hn:¬0<aJ o (outs.getD j dO).2.2 t.2.2)(hs:(outs.getD j dO).2.2=t.2.2)(hc:c=((outs.getD j dO).1+t.1)%p)(hg:w1.heap.size<=g):iw Φ p o w1 (wr.setCell ⟨g,j*2,none⟩ (.int .i64 c)) ts (k+1) (.slice (some ⟨g,0,none⟩) outs.length cap) (outs.set j (c,(outs.getD j dO).2)):=by
 have s1:=h.own.stored (j*2) (.int .i64 c);rw[Bg j outs c hj] at s1;refine⟨?_,?_,h.below.trans (dE s1.2 hg h.below.size),?_,λe=>?_,?_⟩
 .rw[List.length_set];exact s1.1
 .intro u hu;rcases List.mem_or_eq_of_mem_set hu with hu|hu
  .exact h.es u hu
  .subst hu;have h1:=h.es _ (uL outs j hj);exact h1
 .rw[ht,List.foldl_append,<-h.eq];simp only[List.foldl_cons,List.foldl_nil];rw[hc];exact(Jn hm hj hs hn).symm
 .have:(outs.set j (c,(outs.getD j dO).2)).length=0:=by rw[e];rfl
  rw[List.length_set] at this;omega
 .intro u hu;rcases List.mem_or_eq_of_mem_set hu with hu|hu
  .exact h.ap u hu
  .subst hu;have h1:=h.ap _ (uL outs j hj);exact h1
theorem I3{w:World}{B B':Nat}{T:TypeId}{s:Nat}{v:Value}{n:Nat}{xs:List Value}(h:w.ownsRow B' T s v n xs)(hb:B<=B'):w.ownsRow B T s v n xs:=by
 obtain⟨h1,h2⟩:=h;refine⟨h1,?_⟩;rcases h2 with h2|⟨g,c,af,e,hg,r⟩
 .exact L0 h2
 .exact L3 ⟨g,c,af,e,Lk hb hg,r⟩
theorem i8{w W w':World}{B:Nat}{T:TypeId}{s:Nat}{v:Value}{n:Nat}{xs:List Value}(h:W.ownsRow B T s v n xs)(hb:Below B w W)(hg:W.grownBy w' v.ownBlock)(hB:B<=w.heap.size):Below B w w':=
 hb.grown hg (Lk hB hb.size) (λk hk=>(Lb h k hk).1)
end Go.Proofs.YteimdcndjjclnaaGreat
