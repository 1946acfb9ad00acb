/- Steps of regions that. -/
import Derived.Test.YtjkalahhpobefaaGreatPF
import Derived.Test.YtjkalahhpobefaaGreatM
import Derived.Deep.RegionLaw
set_option maxHeartbeats 2000000
set_option maxRecDepth 100000
namespace Go.Proofs.YtjkalahhpobefaaGreat
set_option linter.all false
open Go.Proofs.Tryz Go.RowKit
variable{E:Prop}{Q:Exit->Act->PJ->Prop}{K:Act->PJ->Prop}{w:PJ}{a:Act}{ops:Array Oper}{P:Program}
theorem sg{o:Oper}(hg:o.guard=none)(s x:Operand)(t:TypeId)(hop:o.op=Op.call {callee:=Callee.builtin Builtin.append,args:=#[s,x],argTypes:=#[t,t]})(base:Nat)(e:TypeId)(i:TypeInfo)(size:Nat)(h1:P.underlying t=some (.slice e))(h2:P.info? e=some i)(h4:i.size=size)(g k cap:Nat)(xs:PH)(hs:a.eval s=.slice (some ⟨g,0,none⟩) k cap)(hown:w.ownsRow base e size (.slice (some ⟨g,0,none⟩) k cap) k xs)(ad:Addr)(m c:Nat)(news:PH)(hx:a.eval x=.slice (some ad) m c)(hn:news.length=m*size)(hc:∀j u,news[j]?=some u->w.cell? (ad.add j)=some u)(h1c:∀u∈news,u.oneCell'=true)(b1:k+m<=cap)(hK:∀w',w'.ownsRow base e size (.slice (some ⟨g,0,none⟩) (k+m) cap) (k+m) (xs++news)->w.grownBy w' (some g)->K (a.put o.dst (.slice (some ⟨g,0,none⟩) (k+m) cap)) w'):if Region.wanted o (yielded ops a.tmps)=true then Oper.wp P o a w K Q else E:=by
 have hw:Region.wanted o (yielded ops a.tmps)=true:=by simp[Region.wanted,hg]
 rw[OW hw];obtain⟨w',hrun,r1,r2⟩:=run_append_fits (P:=P) w base t o.type e i size h1 h2 h4 g k cap xs hown ad m c news hn hc h1c b1;unfold Oper.wp;simp[execOp,hop,resolve,invoke,builtin,hs,hx,hrun,Result.andThen];exact hK w' r1 r2
theorem nO{o:Oper}(hg:o.guard=none)(s x:Operand)(t:TypeId)(hop:o.op=Op.call {callee:=Callee.builtin Builtin.append,args:=#[s,x],argTypes:=#[t,t]})(base:Nat)(e:TypeId)(i:TypeInfo)(z:PK)(size bytes:Nat)(ht:P.underlying t=some (.slice e))(hi:P.info? e=some i)(hz:i.zero=some z)(hsize:i.size=size)(hby:i.bytes=bytes)(hzs:z.cells.size=size)(hsz:0<size)(v:PK)(n:Nat)(xs:PH)(hs:a.eval s=v)(hown:w.ownsRow base e size v n xs)(ad:Addr)(m c:Nat)(news:PH)(hx:a.eval x=.slice (some ad) m c)(hl:news.length=m*size)(hnews:∀j u,news[j]?=some u->w.cell? (ad.add j)=some u)(h1:∀u∈news,u.oneCell'=true)(h63:n+m<=maxLen)(hbytes:(n+m)*bytes<=140737488355328)(hbase:base<=w.heap.size)(hK:∀v' w',w'.ownsRow base e size v' (n+m) (xs++news)->w.grownBy w' v.ownBlock->(v'=.slice none 0 0↔v=.slice none 0 0/\m=0)->K (a.put o.dst v') w'):if Region.wanted o (yielded ops a.tmps)=true then Oper.wp P o a w K Q else E:=by
 have hw:Region.wanted o (yielded ops a.tmps)=true:=by simp[Region.wanted,hg]
 rw[OW hw];obtain⟨v',w',hr,h2,h3,h4⟩:=run_append_own (P:=P) w base t o.type e i z size bytes ht hi hz hsize hby hzs hsz v n xs hown ad m c news hl hnews h1 h63 hbytes hbase;unfold Oper.wp execOp;simp only[hop,resolve,invoke,builtin,Sem.run_bind,Sem.run_pure,Result.andThen_ok,List.map_toArray,List.map_cons,List.map_nil,hs,hx,hr];exact hK v' w' h2 h3 h4
def lG(p:Int)(N:Nat)(t:Tm):Prop:=t.2.length=N/\(∀x∈t.2,0<=x/\x<=40000)/\0<=t.1/\t.1<p
def jb:PK->Nat
 | .slice _ n _=>n
 |_=>0
structure fC(p o:Int)(N C:Nat)(w1 wr:PJ)(g:Nat)(L:LT)(fv gv:PK)(fs gs:LT)(ds:List TV):Prop where
 pf:Pl w1 fv fs
 pg:Pl w1 gv gs
 tf:∀t∈fs,lG p N t
 tg:∀t∈gs,lG p N t
 own:wr.ownsRow w1.heap.size 47 2 (.slice (some ⟨g,0,none⟩) ds.length C) ds.length (bm ds)
 es:Es w1 ds
 below:Io w1 wr
 eq:L=ds.map tm++cD p o fs gs
 room:ds.length+fs.length+gs.length<=C
variable{ts:LT}{t:Tm}
theorem Pl.head{v:PK}(h:Pl w v (t::ts)):∃b off cap ev,v=.slice (some ⟨b,off,none⟩) (ts.length+1) cap/\ts.length+1<=cap/\b<w.heap.size/\w.cell? ⟨b,off,none⟩=some (.int .i64 t.1)/\w.cell? ⟨b,off+1,none⟩=some ev/\Sl w ev t.2/\(cap=1->ts=[])/\Pl w (.slice (some ⟨b,off+2,none⟩) ts.length (cap-1)) ts:=by
 obtain⟨a,cap,rfl,hcap,h⟩:=h;obtain⟨b,off,rfl,hlt,hc⟩:=h (by simp);obtain⟨c0,ev,c1,hs⟩:=hc 0 (by simp);simp only[OZ] at hcap;refine⟨b,off,cap,ev,rfl,hcap,hlt,by simpa using c0,by simpa using c1,by simpa using hs,λe=>O8.1 (by omega),_,_,rfl,by omega,λhp=>⟨b,off+2,rfl,hlt,λi hi=>?_⟩⟩;obtain⟨d0,ew,d1,ds⟩:=hc (i+1) (by simp only[OZ];omega);have e1:off+(i+1)*2=off+2+i*2:=by omega
 rw[e1] at d0 d1;exact⟨by simpa using d0,ew,d1,by simpa using ds⟩
variable{b:Nat}
theorem Pl.tail{off cap:Nat}(h:(cap=1->ts=[])/\Pl w (.slice (some ⟨b,off+2,none⟩) ts.length (cap-1)) ts):∃A,(if cap=1 then (some ⟨b,off,none⟩:Option Addr) else some ⟨b,off+2,none⟩)=some A/\Pl w (.slice (some A) ts.length (cap-1)) ts:=by
 by_cases hc:cap=1
 .have e:=h.1 hc;subst e;exact⟨⟨b,off,none⟩,OW hc,_,_,rfl,OB _,λh=>absurd h (by simp)⟩
 .exact⟨⟨b,off+2,none⟩,OV hc,h.2⟩
variable{fs gs:LT}{fv gv:PK}{N C:Nat}{p o:Int}{w1:PJ}
theorem JX{n v:Int}{T1:TypeId}(hf:Pl w fv fs)(hg:Pl w gv gs)(tf:∀t∈fs,lG p N t)(tg:∀t∈gs,lG p N t)(hC:fs.length+gs.length<=C)(h:w1.ownsRow (w.heap.size+1) 47 2 (.slice (some ⟨(w.alloc (.cells #[.int .i64 p,.int .i64 n,.int .i64 o,.int .i64 v] T1)).heap.size,0,none⟩) 0 C) 0 [])(hgr:(w.alloc (.cells #[.int .i64 p,.int .i64 n,.int .i64 o,.int .i64 v] T1)).grownBy w1 none):∃wa,Io w wa/\wa.heap.size=w.heap.size+1/\bO wa w.heap.size p n o v/\fC p o N C wa w1 (w.heap.size+1) (cD p o fs gs) fv gv fs gs []:=by
 have e:(w.alloc (.cells #[.int .i64 p,.int .i64 n,.int .i64 o,.int .i64 v] T1)).heap.size=w.heap.size+1:=by simp
 rw[e] at h;refine⟨w.alloc (.cells #[.int .i64 p,.int .i64 n,.int .i64 o,.int .i64 v] T1),ai,e,bO.new w p n o v T1,?_⟩;exact⟨hf.below ai,hg.below ai,tf,tg,by rw[e];exact h,λt ht=>by simp at ht,⟨hgr.os,hgr.tape,hgr.output,hgr.size,λk hk=>hgr.block k hk (by simp)⟩,by simp,by simp;omega⟩
variable{W W2:PJ}
theorem af{a:Addr}{x:PK}(h:W.cell? a=some x)(hb:Io W W2):W2.cell? a=some x:=by rw[hb.cell (nv h)];exact h
theorem j8{B:Nat}{Q:Prop}(h:Po (Below B w W)/\Q)(hb:Io W W2)(hB:B<=w.heap.size):Below B w W2:=h.1.o.trans (hb.mono (OA hB h.1.o.size))
variable{ds:List TV}{L:LT}{g:Nat}{wr w':PJ}
theorem fC.next(h:fC p o N C w1 wr g L fv gv fs gs ds)(hb:Io wr w'):fC p o N C w1 w' g L fv gv fs gs ds:=
 ⟨h.pf,h.pg,h.tf,h.tg,aF h.own hb,h.es,In h.below hb,h.eq,h.room⟩
theorem wF(c:Int)(a:Option Addr)(n m:Nat):∀u∈[Value.int .i64 c,Value.slice a n m],u.oneCell'=true:=by intro u hu;simp at hu;rcases hu with rfl|rfl<;>rfl
variable{te:PI}{tc:Int}{fv' ev:PK}{w2:PJ}
theorem fC.takeF{u:Tm}(h:fC p o N C w1 wr g L fv gv ((tc,te)::fs) (u::gs) ds)(hb:Io wr w2)(ho:0<aW o te u.2)(hown:w'.ownsRow w1.heap.size 47 2 (.slice (some ⟨g,0,none⟩) (ds.length+1) C) (ds.length+1) (bm ds++[.int .i64 tc,ev]))(hg:w2.grownBy w' (some g))(hgw:w1.heap.size<=g)(hs:Sl w1 ev te)(hf:Pl w1 fv' fs):fC p o N C w1 w' g L fv' gv fs (u::gs) (ds++[(tc,ev,te)]):=by
 refine⟨hf,h.pg,λt ht=>h.tf t (by simp[ht]),h.tg,?_,?_,?_,?_,?_⟩
 .rw[kG,OM];exact hown
 .intro t ht;rcases OK.1 ht with ht|ht
  .exact h.es t ht
  .rw[OL] at ht;subst ht;exact hs
 .have h2:=In h.below hb;exact h2.trans (cQ hg hgw h2.size)
 .rw[h.eq,nJ (by exact ho),O0];simp[tm]
 .have:=h.room;simp only[OM,OZ,List.length_nil] at this⊢;omega
variable{ue:PI}{uc:Int}{gv':PK}
theorem fC.takeG(h:fC p o N C w1 wr g L fv gv (t::fs) ((uc,ue)::gs) ds)(hb:Io wr w2)(ho:aW o t.2 ue<0)(hown:w'.ownsRow w1.heap.size 47 2 (.slice (some ⟨g,0,none⟩) (ds.length+1) C) (ds.length+1) (bm ds++[.int .i64 uc,ev]))(hg:w2.grownBy w' (some g))(hgw:w1.heap.size<=g)(hs:Sl w1 ev ue)(hf:Pl w1 gv' gs):fC p o N C w1 w' g L fv gv' (t::fs) gs (ds++[(uc,ev,ue)]):=by
 refine⟨h.pf,hf,h.tf,λt ht=>h.tg t (by simp[ht]),?_,?_,?_,?_,?_⟩
 .rw[kG,OM];exact hown
 .intro t ht;rcases OK.1 ht with ht|ht
  .exact h.es t ht
  .rw[OL] at ht;subst ht;exact hs
 .have h2:=In h.below hb;exact h2.trans (cQ hg hgw h2.size)
 .rw[h.eq,nL (by exact ho),O0];simp[tm]
 .have:=h.room;simp only[OM,OZ,List.length_nil] at this⊢;omega
theorem fC.both(h:fC p o N C w1 wr g L fv gv ((tc,te)::fs) ((uc,ue)::gs) ds)(hb:Io wr w2)(ho:aW o te ue=0)(hc:(tc+uc)%p≠0)(hown:w'.ownsRow w1.heap.size 47 2 (.slice (some ⟨g,0,none⟩) (ds.length+1) C) (ds.length+1) (bm ds++[.int .i64 ((tc+uc)%p),ev]))(hg:w2.grownBy w' (some g))(hgw:w1.heap.size<=g)(hs:Sl w1 ev te)(hf:Pl w1 fv' fs)(hf2:Pl w1 gv' gs):fC p o N C w1 w' g L fv' gv' fs gs (ds++[((tc+uc)%p,ev,te)]):=by
 refine⟨hf,hf2,λt ht=>h.tf t (by simp[ht]),λt ht=>h.tg t (by simp[ht]),?_,?_,?_,?_,?_⟩
 .rw[kG,OM];exact hown
 .intro t ht;rcases OK.1 ht with ht|ht
  .exact h.es t ht
  .rw[OL] at ht;subst ht;exact hs
 .have h2:=In h.below hb;exact h2.trans (cQ hg hgw h2.size)
 .rw[h.eq,nM (by exact ho) (by exact hc),O0];simp[tm]
 .have:=h.room;simp only[OM,OZ,List.length_nil] at this⊢;omega
theorem fC.drop(h:fC p o N C w1 wr g L fv gv ((tc,te)::fs) ((uc,ue)::gs) ds)(hb:Io wr w2)(ho:aW o te ue=0)(hc:(tc+uc)%p=0)(hf:Pl w1 fv' fs)(hf2:Pl w1 gv' gs):fC p o N C w1 w2 g L fv' gv' fs gs ds:=by
 have k:=h.next hb;refine⟨hf,hf2,λt ht=>h.tf t (by simp[ht]),λt ht=>h.tg t (by simp[ht]),k.own,k.es,k.below,?_,?_⟩
 .rw[h.eq,nN (by exact ho) (by exact hc)]
 .have:=h.room;simp only[OZ] at this⊢;omega
theorem sk{rest:List Oper}{o:Oper}(hgd:o.guard=none)(s x:Operand)(t:TypeId)(ho:o.op=.call {callee:=.builtin .append,args:=#[s,x],argTypes:=#[t,t]})(base:Nat)(e:TypeId)(i:TypeInfo)(h1:P.underlying t=some (.slice e))(h2:P.info? e=some i)(h4:i.size=2)(g k cap:Nat)(xs:PH)(hs:a.eval s=.slice (some ⟨g,0,none⟩) k cap)(hown:w.ownsRow base e 2 (.slice (some ⟨g,0,none⟩) k cap) k xs)(us:List TV)(ua:Option Addr)(uc:Nat)(hx:a.eval x=.slice ua us.length uc)(hcs:0<us.length->∃b off,ua=some ⟨b,off,none⟩/\∀j u,(bm us)[j]?=some u->w.cell? ⟨b,off+j,none⟩=some u)(hone:∀u∈bm us,u.oneCell'=true)(b1:k+us.length<=cap)(hK:∀w',w'.ownsRow base e 2 (.slice (some ⟨g,0,none⟩) (k+us.length) cap) (k+us.length) (xs++bm us)->w.grownBy w' (some g)->wpList P ops Q rest (a.put o.dst (.slice (some ⟨g,0,none⟩) (k+us.length) cap)) w'):wpList P ops Q (o::rest) a w:=by
 by_cases h0:0<us.length
 .obtain⟨b,off,rfl,hc⟩:=hcs h0;refine wpList_append_fits w hgd s x t ho base e i 2 h1 h2 h4 g k cap xs hs hown ⟨b,off,none⟩ us.length uc (bm us) hx (mF us) (λj u hj=>?_) hone b1 hK;have:=hc j u hj;by_cases hj0:j=0
  .subst hj0;simpa [Addr.add] using this
  .simpa [Addr.add,hj0] using this
 .have e0:us=[]:=O8.1 (by omega);subst e0;cases ua with
  |none=>refine Ab hgd s x t ho base e i 2 h1 h2 _ k uc xs hs hown hx ?_;exact hK w (by simpa [bm] using hown) (zX _ _)
  |some ad=>refine wpList_append_fits w hgd s x t ho base e i 2 h1 h2 h4 g k cap xs hs hown ad 0 uc [] hx (by simp) (λj u hj=>by simp at hj) (λu hu=>by simp at hu) b1 hK
theorem fC.finish{w3:PJ}{us vs:List TV}(h:fC p o N C w1 wr g L fv gv fs gs ds)(hus:us.map tm=fs)(hvs:vs.map tm=gs)(hu:Es w1 us)(hv:Es w1 vs)(hgw:w1.heap.size<=g)(he:fs=[]\/gs=[])(g2:wr.grownBy w2 (some g))(g3:w2.grownBy w3 (some g))(hown:w3.ownsRow w1.heap.size 47 2 (.slice (some ⟨g,0,none⟩) (ds.length+us.length+vs.length) C) (ds.length+us.length+vs.length) (bm ds++bm us++bm vs)):Pl w3 (.slice (some ⟨g,0,none⟩) (ds.length+us.length+vs.length) C) L/\Io w1 w3:=by
 have hb:Io w1 w3:=h.below.trans (cQ (cW g2 g3) hgw h.below.size);refine⟨?_,hb⟩;have e1:(ds++us++vs).length=ds.length+us.length+vs.length:=by simp only[OM]
 have e2:bm (ds++us++vs)=bm ds++bm us++bm vs:=by rw[kG,kG]
 have k:=wE (w:=w3) (B:=w1.heap.size) (v:=.slice (some ⟨g,0,none⟩) (ds.length+us.length+vs.length) C) (ts:=ds++us++vs) (by rw[e1,e2];exact hown) (by
  intro t ht;rcases OK.1 ht with ht|ht
  .rcases OK.1 ht with ht|ht
   .exact(h.es t ht).below hb
   .exact(hu t ht).below hb
  .exact(hv t ht).below hb)
 have e3:(ds++us++vs).map tm=L:=by
  rw[h.eq,O0,O0,hus,hvs];rcases he with he|he
  .subst he;rw[nH];simp
  .subst he;rw[nI];simp
 rw[e3] at k;exact k
theorem B6(p n o v:Int)(N:Nat)(fv gv:PK)(fs gs:LT)(w:PJ)(hp:2<=p/\p<=101)(ho:o=1\/o=2)(hN0:0<N)(hN:N<=3)(tf:∀t∈fs,lG p N t)(tg:∀t∈gs,lG p N t)(hm:fs.length+gs.length<=2400000000000)(hf:Pl w fv fs)(hg:Pl w gv gs):Calls prog 131 #[aI p n o v,fv,gv] w λe w'=>∃u,e=.returned u/\Pl w' u (cD p o fs gs)/\Io w w':=by
 have HF:=ae hf;have HG:=ae hg;have HTF:=ae tf;have HTG:=ae tg;have HO:=ae ho;obtain⟨hp1,hp2⟩:=hp;obtain⟨fa,fc,rfl,_,_⟩:=hf;obtain⟨ga,gc,rfl,_,_⟩:=hg;clear tf tg ho;obtain⟨i0,hi,hz0,hz1,hz2⟩:=info_parts Tryz.infoTerm;go_enter func131,ntmps131;go_wp2_with (at_make;refine wpList_make_own _ rfl _ _ 40 rfl (w.heap.size+1) 47 i0 _ 2 underlying40 hi hz0 hz1 .i64 .i64 _ (fs.length+gs.length) rfl rfl (by simp) (by rw[hz2];omega) (by unfold maxLen;omega) (by simp) ?_;intro w1 hown hgrow;have HX:=ae (JX (N:=N) (C:=fs.length+gs.length) HF.o HG.o HTF.o HTG.o (Ou _) hown hgrow);clear hown hgrow);have HI:=ae (Ow hi (Ow hz1 hz2));clear hi hz0 hz1 hz2;obtain⟨wa,hba,hsz,hbox,hmg⟩:=HX.o;have HB:=ae hba;have HSZ:=ae hsz;have HBX:=ae hbox;have HM:=ae hmg;have HI2:=HI;clear HX hba hsz hbox hmg HTF HTG HF HG;go_loopw [1,2,7] (λx y z wr=>∃(fs1 gs1:LT)(ds:List TV),z=.slice (some ⟨w.heap.size+1,0,none⟩) ds.length (fs.length+gs.length)/\fC p o N (fs.length+gs.length) wa wr (w.heap.size+1) (cD p o fs gs) x y fs1 gs1 ds) (λx y _ _=>jb x+jb y);case atStart=>exact⟨fs,gs,[],rfl,HM.o⟩
 case round=>
  clear HM;obtain⟨fs1,gs1,ds,rfl,hm1⟩:=hrel;have HM:=ae hm1;clear hm1;by_cases hfin:fs1=[]\/gs1=[]
  .obtain⟨xa,xc,us,hxv,_,husm,hus,hucs⟩:=HM.o.pf.tvs;obtain⟨ya,yc,vs,hyv,_,hvsm,hvs,hvcs⟩:=HM.o.pg.tvs;have HU1:Po (0<us.length->∃b off,xa=some ⟨b,off,none⟩/\∀j u,(bm us)[j]?=some u->wr.cell? ⟨b,off+j,none⟩=some u):=λh=>by obtain⟨b,off,e,hlt,hc⟩:=hucs h;exact⟨b,off,e,λj u hj=>by rw[HM.o.below.cell (p:=⟨b,off+j,none⟩) hlt];exact hc j u hj⟩
   have HV1:Po (∀w2,wr.grownBy w2 (some (w.heap.size+1))->0<vs.length->∃b off,ya=some ⟨b,off,none⟩/\∀j u,(bm vs)[j]?=some u->w2.cell? ⟨b,off+j,none⟩=some u):=λw2 hg2 h=>by obtain⟨b,off,e,hlt,hc⟩:=hvcs h;have hb2:=HM.o.below.trans (cQ hg2 (by rw[HSZ.o];exact Ou _) HM.o.below.size);exact⟨b,off,e,λj u hj=>by rw[hb2.cell (p:=⟨b,off+j,none⟩) hlt];exact hc j u hj⟩
   have HUL:Po (us.length=fs1.length/\vs.length=gs1.length):=⟨by rw[<-husm,OS],by rw[<-hvsm,OS]⟩;have HR:Po (ds.length+us.length<=fs.length+gs.length/\ds.length+us.length+vs.length<=fs.length+gs.length):=by have:=HM.o.room;have:=HUL.o;exact⟨by omega,by omega⟩
   have HUS:=ae (Ow husm (Ow hvsm (Ow hus hvs)));have HFIN:=ae hfin;have hzero:us.length=0\/vs.length=0:=by
    have:=HUL.o;rcases hfin with h|h
    .left;rw[this.1,h];rfl
    .right;rw[this.2,h];rfl
   subst hxv;subst hyv;clear hucs hvcs husm hvsm hus hvs hfin;have HTAC:Po True:=trivial;by_cases hu0:0<us.length
   .have hv0:¬0<vs.length:=by omega
    go_wp2_with (at_builtin;first|(refine sk rfl (.tmp 80) (.tmp 81) 40 rfl wa.heap.size 47 i0 underlying40 HI.o.1 HI.o.2.1 (w.heap.size+1) ds.length (fs.length+gs.length) (bm ds) rfl HM.o.own us _ _ rfl HU1.o (sd HUS.o.2.2.1) HR.o.1 ?_;intro w2 r1 r2;have R1:=ae r1;have R2:=ae r2;clear r1 r2)|(refine sk rfl (.tmp 82) (.tmp 83) 40 rfl wa.heap.size 47 i0 underlying40 HI.o.1 HI.o.2.1 (w.heap.size+1) (ds.length+us.length) (fs.length+gs.length) (bm ds++bm us) rfl R1.o vs _ _ rfl (HV1.o _ R2.o) (sd HUS.o.2.2.2) HR.o.2 ?_;intro w3 r3 r4;have R3:=ae r3;have R4:=ae r4;clear r3 r4));go_ret;have F:=HM.o.finish HUS.o.1 HUS.o.2.1 HUS.o.2.2.1 HUS.o.2.2.2 (by rw[HSZ.o];exact Ou _) HFIN.o R2.o R4.o R3.o;exact⟨_,rfl,F.1,In HB.o F.2⟩
   .go_wp2_with (at_builtin;first|(refine sk rfl (.tmp 80) (.tmp 81) 40 rfl wa.heap.size 47 i0 underlying40 HI.o.1 HI.o.2.1 (w.heap.size+1) ds.length (fs.length+gs.length) (bm ds) rfl HM.o.own us _ _ rfl HU1.o (sd HUS.o.2.2.1) HR.o.1 ?_;intro w2 r1 r2;have R1:=ae r1;have R2:=ae r2;clear r1 r2)|(refine sk rfl (.tmp 82) (.tmp 83) 40 rfl wa.heap.size 47 i0 underlying40 HI.o.1 HI.o.2.1 (w.heap.size+1) (ds.length+us.length) (fs.length+gs.length) (bm ds++bm us) rfl R1.o vs _ _ rfl (HV1.o _ R2.o) (sd HUS.o.2.2.2) HR.o.2 ?_;intro w3 r3 r4;have R3:=ae r3;have R4:=ae r4;clear r3 r4));go_ret;have F:=HM.o.finish HUS.o.1 HUS.o.2.1 HUS.o.2.2.1 HUS.o.2.2.2 (by rw[HSZ.o];exact Ou _) HFIN.o R2.o R4.o R3.o;exact⟨_,rfl,F.1,In HB.o F.2⟩
  .cases fs1 with
   |nil=>exact absurd (Pf rfl) hfin
   |cons t fs2=>
   cases gs1 with
   |nil=>exact absurd (Pg rfl) hfin
   |cons u gs2=>
    clear hfin;obtain⟨b,off,fcap,ev,rfl,hfc,hlt,c0,c1,hse,hone,hpl⟩:=HM.o.pf.head;obtain⟨b2,off2,gcap,ev2,rfl,hgc,hlt2,d0,d1,hse2,hone2,hpl2⟩:=HM.o.pg.head;have HDN:=ae HM.o.below;rw[<-HDN.o.cell (p:=⟨b,off,none⟩) hlt] at c0;rw[<-HDN.o.cell (p:=⟨b,off+1,none⟩) hlt] at c1;rw[<-HDN.o.cell (p:=⟨b2,off2,none⟩) hlt2] at d0;rw[<-HDN.o.cell (p:=⟨b2,off2+1,none⟩) hlt2] at d1;have HSE0:=ae hse;have HSE20:=ae hse2;have HSE:=ae (hse.below HDN.o);have HSE2:=ae (hse2.below HDN.o);obtain⟨ea,ec,rfl,_⟩:=hse;obtain⟨ea2,ec2,rfl,_⟩:=hse2;have HP:=ae (Ow hone hpl);have HP2:=ae (Ow hone2 hpl2);have HT:=ae (HM.o.tf t (by simp));have HU:=ae (HM.o.tg u (by simp));obtain⟨bx,bx0,bx1,bx2,bx3⟩:=HBX.o.below HDN.o;obtain⟨tc,te⟩:=t;obtain⟨uc,ue⟩:=u;have HBD:=ae (GB o te ue);simp only at c0 c1 d0 d1;clear hone hpl hone2 hpl2;have hlen0:0<te.length:=by have:=HT.o.1;simp only at this;omega
    have hlen3:te.length<=3:=by have:=HT.o.1;simp only at this;omega
    have HLL:=ae (show te.length=ue.length from HT.o.1.trans HU.o.1.symm);have KEEP:Po (∀W,Io wr W->(Po (Io wr W)/\W.cell? ⟨w.heap.size,0,none⟩=some (.int .i64 p)/\W.cell? ⟨w.heap.size,1,none⟩=some (.int .i64 n)/\W.cell? ⟨w.heap.size,2,none⟩=some (.int .i64 o)/\W.cell? ⟨w.heap.size,3,none⟩=some (.int .i64 v)/\W.cell? ⟨b,off+1,none⟩=some (.slice ea te.length ec)/\W.cell? ⟨b2,off2+1,none⟩=some (.slice ea2 ue.length ec2))):=
     λW hb=>⟨hb,af bx0 hb,af bx1 hb,af bx2 hb,af bx3 hb,af c1 hb,af d1 hb⟩
    have hroom:ds.length+1<=fs.length+gs.length:=by have:=HM.o.room;simp only[OZ] at this;omega
    have hle:(1:Int)<=(fs2.length:Int)+1:=by omega
    have hle2:(1:Int)<=(gs2.length:Int)+1:=by omega
    obtain⟨A,hA,hplA⟩:=Pl.tail HP.o;have HPA:=ae hplA;obtain⟨A2,hA2,hplA2⟩:=Pl.tail HP2.o;have HPA2:=ae hplA2;clear hplA hplA2;by_cases hc1:aW o te ue=1
    .go_wp2;go_region_held (λW=>Po (Io wr W)/\W.cell? ⟨w.heap.size,0,none⟩=some (.int .i64 p)/\W.cell? ⟨w.heap.size,1,none⟩=some (.int .i64 n)/\W.cell? ⟨w.heap.size,2,none⟩=some (.int .i64 o)/\W.cell? ⟨w.heap.size,3,none⟩=some (.int .i64 v)/\W.cell? ⟨b,off+1,none⟩=some (.slice ea te.length ec)/\W.cell? ⟨b2,off2+1,none⟩=some (.slice ea2 ue.length ec2))
      (first|exact KEEP.o _ (Ov _ _).drew|exact KEEP.o _ (j8 (by assumption) hb9 (Ou _)))
      (first|(go_at_call 90;refine(oS p n o v _ _ te ue _ HO.o hlen0 hlen3 HLL.o HT.o.2.1 HU.o.2.1 ?_ ?_).mono ?_;exact HSE.o.below (Ov _ _).drew;exact HSE2.o.below (Ov _ _).drew;rintro e w9 ⟨rfl,hb9⟩))
     have hb19:Io wr w9:=Po.o (And.left (by assumption));have HM9:=ae (HM.o.next hb19);have e0:=af c0 hb19;have e1:=af c1 hb19;have f0:=af d0 hb19;have f1:=af d1 hb19;have g0:=af bx0 hb19;clear hb9 hb19 c0 c1 d0 d1 KEEP bx0 bx1 bx2 bx3;have HOWN:=ae (aF HM9.o.own ((Ov w9.heap.size w9).drew.alloc (Ou _) (.cells #[.int .i64 tc,.slice ea te.length ec] 47)));go_wp2;go_region_law (refine sg rfl (.tmp 62) (.tmp 66) 40 rfl wa.heap.size 47 i0 2 underlying40 HI.o.1 HI.o.2.1 (w.heap.size+1) ds.length (fs.length+gs.length) (bm ds) (by simp[Act.eval,Act.put]) HOWN.o ⟨w9.heap.size,0,none⟩ 1 1 [.int .i64 tc,.slice ea te.length ec] (by simp[Act.eval,Act.put]) rfl (uI _ _ _ _) (wF _ _ _ _) hroom ?_;intro w' r1 r2;have R1:=ae (Ow r1 r2);clear r1 r2);all_goals
      simp only[List.getElem_toArray,List.getElem_cons_succ,List.getElem_cons_zero];simp only[Act.put,List.setIfInBounds_toArray,List.set_cons_zero,List.set_cons_succ];go_wp2;go_roundw;case rel=>exact⟨fs2,(uc,ue)::gs2,ds++[(tc,.slice ea te.length ec,te)],by simp,HM9.o.takeF ((Ov w9.heap.size w9).drew.alloc (Ou _) _) (by rw[hc1];omega) R1.o.1 R1.o.2 (by rw[HSZ.o];omega) HSE0.o HPA.o⟩
      case measure=>simp[jb]
    .by_cases hc2:aW o te ue=-1
     .go_wp2;go_region_held (λW=>Po (Io wr W)/\W.cell? ⟨w.heap.size,0,none⟩=some (.int .i64 p)/\W.cell? ⟨w.heap.size,1,none⟩=some (.int .i64 n)/\W.cell? ⟨w.heap.size,2,none⟩=some (.int .i64 o)/\W.cell? ⟨w.heap.size,3,none⟩=some (.int .i64 v)/\W.cell? ⟨b,off+1,none⟩=some (.slice ea te.length ec)/\W.cell? ⟨b2,off2+1,none⟩=some (.slice ea2 ue.length ec2))
       (first|exact KEEP.o _ (Ov _ _).drew|exact KEEP.o _ (j8 (by assumption) hb9 (Ou _)))
       (first|(go_at_call 90;refine(oS p n o v _ _ te ue _ HO.o hlen0 hlen3 HLL.o HT.o.2.1 HU.o.2.1 ?_ ?_).mono ?_;exact HSE.o.below (Ov _ _).drew;exact HSE2.o.below (Ov _ _).drew;rintro e w9 ⟨rfl,hb9⟩))
      have hb19:Io wr w9:=Po.o (And.left (by assumption));have HM9:=ae (HM.o.next hb19);have e0:=af c0 hb19;have e1:=af c1 hb19;have f0:=af d0 hb19;have f1:=af d1 hb19;have g0:=af bx0 hb19;clear hb9 hb19 c0 c1 d0 d1 KEEP bx0 bx1 bx2 bx3;have HOWN:=ae (aF HM9.o.own ((Ov w9.heap.size w9).drew.alloc (Ou _) (.cells #[.int .i64 uc,.slice ea2 ue.length ec2] 47)));go_wp2;go_region_law (refine sg rfl (.tmp 72) (.tmp 76) 40 rfl wa.heap.size 47 i0 2 underlying40 HI.o.1 HI.o.2.1 (w.heap.size+1) ds.length (fs.length+gs.length) (bm ds) (by simp[Act.eval,Act.put]) HOWN.o ⟨w9.heap.size,0,none⟩ 1 1 [.int .i64 uc,.slice ea2 ue.length ec2] (by simp[Act.eval,Act.put]) rfl (uI _ _ _ _) (wF _ _ _ _) hroom ?_;intro w' r1 r2;have R1:=ae (Ow r1 r2);clear r1 r2);all_goals
       simp only[List.getElem_toArray,List.getElem_cons_succ,List.getElem_cons_zero];simp only[Act.put,List.setIfInBounds_toArray,List.set_cons_zero,List.set_cons_succ];go_wp2;go_roundw;case rel=>exact⟨(tc,te)::fs2,gs2,ds++[(uc,.slice ea2 ue.length ec2,ue)],by simp,HM9.o.takeG ((Ov w9.heap.size w9).drew.alloc (Ou _) _) (by rw[hc2];omega) R1.o.1 R1.o.2 (by rw[HSZ.o];omega) HSE20.o HPA2.o⟩
       case measure=>simp[jb]
     .have hc0:aW o te ue=0:=by have:=HBD.o;omega
      have HTU:=ae (Ow HT.o.2.2 HU.o.2.2);obtain⟨⟨ht1,ht2⟩,hu1,hu2⟩:=HTU.o;simp only at ht1 ht2 hu1 hu2;go_wp2;go_region_held (λW=>Po (Io wr W)/\W.cell? ⟨w.heap.size,0,none⟩=some (.int .i64 p)/\W.cell? ⟨w.heap.size,1,none⟩=some (.int .i64 n)/\W.cell? ⟨w.heap.size,2,none⟩=some (.int .i64 o)/\W.cell? ⟨w.heap.size,3,none⟩=some (.int .i64 v)/\W.cell? ⟨b,off+1,none⟩=some (.slice ea te.length ec)/\W.cell? ⟨b2,off2+1,none⟩=some (.slice ea2 ue.length ec2))
       (first|exact KEEP.o _ (Ov _ _).drew|exact KEEP.o _ (j8 (by assumption) hb9 (Ou _)))
       (first|(go_at_call 90;refine(oS p n o v _ _ te ue _ HO.o hlen0 hlen3 HLL.o HT.o.2.1 HU.o.2.1 ?_ ?_).mono ?_;exact HSE.o.below (Ov _ _).drew;exact HSE2.o.below (Ov _ _).drew;rintro e w9 ⟨rfl,hb9⟩))
      have hb19:Io wr w9:=Po.o (And.left (by assumption));have HM9:=ae (HM.o.next hb19);have e0:=af c0 hb19;have e1:=af c1 hb19;have f0:=af d0 hb19;have f1:=af d1 hb19;have g0:=af bx0 hb19;clear hb9 hb19 c0 c1 d0 d1 KEEP bx0 bx1 bx2 bx3;go_wp2;go_quiet (fail);by_cases hz:(tc+uc)%p=0
      .go_wp2;go_quiet (fail);go_wp2;go_roundw;case rel=>exact⟨fs2,gs2,ds,rfl,HM9.o.drop (below_drewN (below_drewN (Ov _ _) _) _) hc0 hz HPA.o HPA2.o⟩
       case measure=>simp[jb];omega
      .have HOWN:=ae (aF HM9.o.own ((below_drewN (Ov w9.heap.size w9) nq).alloc (Ou _) (.cells #[.int .i64 ((tc+uc)%p),.slice ea te.length ec] 47)));have e1q:=af e1 (below_drewN (Ov w9.heap.size w9) nq);go_wp2_with (at_builtin;refine wpList_append_fits _ rfl (.tmp 47) (.tmp 54) 40 rfl wa.heap.size 47 i0 2 underlying40 HI.o.1 HI.o.2.1 (w.heap.size+1) ds.length (fs.length+gs.length) (bm ds) rfl HOWN.o ⟨w9.heap.size,0,none⟩ 1 1 [.int .i64 ((tc+uc)%p),.slice ea te.length ec] rfl rfl (uI _ _ _ _) (wF _ _ _ _) hroom ?_;intro w' r1 r2;have R1:=ae (Ow r1 r2);clear r1 r2);go_quiet (fail);go_wp2;go_roundw;case rel=>exact⟨fs2,gs2,ds++[((tc+uc)%p,.slice ea te.length ec,te)],by simp,(HM9.o.both ((below_drewN (Ov w9.heap.size w9) _).alloc (Ou _) _) hc0 hz R1.o.1 R1.o.2 (by rw[HSZ.o];exact Ou _) HSE0.o HPA.o HPA2.o).next (below_drewN (Ov _ _) _)⟩
       case measure=>simp[jb];omega
def Bd(ts:LT):Prop:=∀t∈ts,∀x∈t.2,0<=x/\x<=40000
theorem Bd.merge{f g:LT}(hf:Bd f)(hg:Bd g):Bd (cD p o f g):=by intro x hx;obtain⟨t,ht,e⟩:=pw f g x hx;rw[e];exact(OK.1 ht).elim (hf t) (hg t)
theorem sn(h:ck p o N ts)(hb:Bd ts):∀t∈ts,lG p N t:=λt ht=>⟨h.len t ht,hb t ht,by have:=h.coef t ht;omega,(h.coef t ht).2⟩
theorem pO{F:Nat->LT}{L:Nat}:∀(k a:Nat),(∀i,i<a+k->(F i).length<=L)->(d9 F a k).length<=k*L
 |0,a,_=>by simp[d9]
 |k+1,a,h=>by rw[Nat.add_comm k 1,AF,vh,OM];have h1:=h a (by omega);have h2:=pO k (a+1) (λi hi=>h i (by omega));rw[Nat.add_mul];omega
variable{k:Nat}
theorem sq{M L:Nat}(h:k<=M)(hm:M*L<=1200000000000):k*L<=1200000000000:=OA (Ph L h) hm
structure jC(p o:Int)(N:Nat)(F:Nat->LT)(a k:Nat)(w':PJ)(u:PK)(ts:LT):Prop where
 pl:Pl w' u ts
 canon:ck p o N ts
 same:ct p ts (d9 F a k)
 len:ts.length<=(d9 F a k).length
 bd:Bd ts
variable{u:PK}{F:Nat->LT}
theorem jC.below{a:Nat}(h:jC p o N F a k w' u ts)(hb:Io w' w2):jC p o N F a k w2 u ts:=⟨h.pl.below hb,h.canon,h.same,h.len,h.bd⟩
theorem jC.merge{a m:Nat}{u1 u2:PK}{us:LT}(hp:2<=p)(hm:a<=m)(hb:m<=b)(h:jC p o N F a (m-a) w' u1 ts)(k:jC p o N F m (b-m) w' u2 us)(hu:Pl w2 u (cD p o ts us)):jC p o N F a (b-a) w2 u (cD p o ts us):=by
 have e:d9 F a (b-a)=d9 F a (m-a)++d9 F m (b-m):=by rw[show b-a=(m-a)+(b-m) by omega,AF,show a+(m-a)=m by omega]
 refine⟨hu,GK hp ts us h.canon k.canon,?_,?_,h.bd.merge k.bd⟩
 .rw[e];exact(GJ ts us h.canon.len k.canon.len).trans (h.same.append k.same)
 .rw[e,OM];have:=GI (p:=p) (o:=o) ts us;have:=h.len;have:=k.len;omega
theorem JY(p n o v:Int)(N M L:Nat)(F:Nat->LT)(pb:Nat)(w0:PJ)(hp:2<=p/\p<=101)(ho:o=1\/o=2)(hN0:0<N)(hN:N<=3)(hF:∀i,i<M->ck p o N (F i)/\Bd (F i)/\(F i).length<=L)(hM:M<=1200000000000)(hL:M*L<=1200000000000)(H:∀i w',i<M->Io w0 w'->Calls prog 97 #[.int .i64 i,.pointer (some ⟨pb,0,none⟩)] w' λe w''=>∃u,e=.returned u/\Pl w'' u (F i)/\Io w' w''):∀(K a b:Nat)(w:PJ),b-a<=K->a<=b->b<=M->Io w0 w->Calls prog 96 #[aI p n o v,.int .i64 a,.int .i64 b,.func (.func 97) #[] #[.pointer (some ⟨pb,0,none⟩)]] w λe w'=>∃u ts,e=.returned u/\jC p o N F a (b-a) w' u ts/\Io w w':=by
 intro K;induction K with
 |zero=>
  intro a b w hk hab hbM hw0;have e:b=a:=by omega
  subst e;go_enter func96,ntmps96;go_wp2;go_ret;refine⟨_,[],rfl,⟨Pl.empty _,⟨λt ht=>by simp at ht,trivial,λt ht=>by simp at ht⟩,?_,by simp,λt ht=>by simp at ht⟩,aY⟩;rw[Nat.sub_self,rx];exact ct.refl _ _
 |succ K ih=>
  intro a b w hk hab hbM hw0;have HH:=ae H;have HF:=ae hF;have IH:=ae ih;have HW0:=ae hw0;have HO:=ae ho;have HP:=ae hp;clear H hF ih hw0 ho hp;by_cases h0:b=a
  .subst h0;go_enter func96,ntmps96;go_wp2;go_ret;refine⟨_,[],rfl,⟨Pl.empty _,⟨λt ht=>by simp at ht,trivial,λt ht=>by simp at ht⟩,?_,by simp,λt ht=>by simp at ht⟩,aY⟩;rw[Nat.sub_self,rx];exact ct.refl _ _
  .by_cases h1:b=a+1
   .subst h1;have HONE:Po (d9 F a (a+1-a)=F a):=by show _=_;rw[show a+1-a=1 by omega,vh]
    have HFA:=ae (HF.o a (by omega));go_enter func96,ntmps96;go_wp2_with (go_at_call 97;refine(HH.o a _ (by omega) (In HW0.o aY)).mono ?_;rintro e w1 ⟨u,rfl,hu,hb1⟩;have HU:=ae hu;have HB1:=ae hb1;obtain⟨ua,uc,rfl,_,_⟩:=hu;clear hb1);go_ret;refine⟨_,_,rfl,⟨HU.o,HFA.o.1,?_,?_,HFA.o.2.1⟩,aY.trans (HB1.o.mono (by simp))⟩
    .rw[HONE.o];exact ct.refl _ _
    .rw[HONE.o];exact Ou _
   .obtain⟨m,hmid,hm1,hm2⟩:∃m:Nat,((a:Int)+(b:Int))/2=(m:Int)/\a<m/\m<b:=⟨(a+b)/2,by omega,by omega,by omega⟩;have hne:¬(a:Int)=(b:Int):=by omega
    have hne1:¬(a:Int)+1=(b:Int):=by omega
    have HLEN:Po ((d9 F a (m-a)).length+(d9 F m (b-m)).length<=2400000000000):=by have l1:=pO (F:=F) (L:=L) (m-a) a (λi hi=>(HF.o i (by omega)).2.2);have l2:=pO (F:=F) (L:=L) (b-m) m (λi hi=>(HF.o i (by omega)).2.2);have l3:=sq (k:=m-a) (M:=M) (L:=L) (by omega) hL;have l4:=sq (k:=b-m) (M:=M) (L:=L) (by omega) hL;show _<=_;omega
    obtain⟨w1,hw1⟩:∃w1,w1=w.alloc (.cells #[.int .i64 p,.int .i64 n,.int .i64 o,.int .i64 v] 23):=⟨_,rfl⟩;have hbx:bO w1 w.heap.size p n o v:=by rw[hw1];exact bO.new w p n o v _
    have hbw:Io w w1:=by rw[hw1];exact aY
    obtain⟨bx,bx0,bx1,bx2,bx3⟩:=hbx;have HBW:=ae hbw;have HW1:=ae (In HW0.o hbw);have KEEP:Po (∀W,Io w1 W->(Po (Io w1 W)/\W.cell? ⟨w.heap.size,0,none⟩=some (.int .i64 p)/\W.cell? ⟨w.heap.size,1,none⟩=some (.int .i64 n)/\W.cell? ⟨w.heap.size,2,none⟩=some (.int .i64 o)/\W.cell? ⟨w.heap.size,3,none⟩=some (.int .i64 v))):=
     λW hb=>⟨hb,af bx0 hb,af bx1 hb,af bx2 hb,af bx3 hb⟩
    go_enter func96,ntmps96;go_wp2_with fail;rw[<-hw1];clear hw1 hbw bx0 bx1 bx2 bx3 bx h0 h1;go_region_held (λW=>Po (Io w1 W)/\W.cell? ⟨w.heap.size,0,none⟩=some (.int .i64 p)/\W.cell? ⟨w.heap.size,1,none⟩=some (.int .i64 n)/\W.cell? ⟨w.heap.size,2,none⟩=some (.int .i64 o)/\W.cell? ⟨w.heap.size,3,none⟩=some (.int .i64 v))
     (first|exact KEEP.o _ (Ov _ _).drew|exact KEEP.o _ (j8 (by assumption) hb5 (Ou _))|exact KEEP.o _ (j8 (by assumption) hb6 (Ou _))|exact KEEP.o _ (j8 (by assumption) hb7 (Ou _)))
     (first|(go_at_call_of 96 (Value.int IntKind.i64 (a:Int));refine(IH.o a m _ (by omega) (by omega) (by omega) ?_).mono ?_;exact In HW1.o ((Ov _ _).drew);rintro e w5 ⟨u1,ts1,rfl,hr1,hb5⟩;have R1:=ae hr1;obtain⟨ua1,uc1,rfl,_,_⟩:=hr1.pl;clear hr1)|(go_at_call_of 96 (Value.int IntKind.i64 (b:Int));refine(IH.o m b _ (by omega) (by omega) (by omega) ?_).mono ?_;exact In HW1.o (Po.o (And.left (by assumption):Po (Io w1 w5)));rintro e w6 ⟨u2,ts2,rfl,hr2,hb6⟩;have R2:=ae hr2;have R12:=ae (R1.o.below hb6);obtain⟨ua2,uc2,rfl,_,_⟩:=hr2.pl;clear hr2)|(go_at_call 131;refine(B6 p n o v N _ _ ts1 ts2 _ HP.o HO.o hN0 hN (sn R12.o.canon R12.o.bd) (sn R2.o.canon R2.o.bd) ?_ R12.o.pl R2.o.pl).mono ?_;(have l1:=R12.o.len;have l2:=R2.o.len;have l3:=HLEN.o;omega);rintro e w7 ⟨u3,rfl,hu3,hb7⟩;have R3:=ae hu3;obtain⟨ua3,uc3,rfl,_,_⟩:=hu3))
    have hb17:Io w1 w7:=Po.o (And.left (by assumption));go_wp2;go_ret;exact⟨_,_,rfl,jC.merge HP.o.1 (by omega) (by omega) R12.o R2.o R3.o,In HBW.o hb17⟩
theorem JZ(p n o v:Int)(N M L:Nat)(F:Nat->LT)(rb fb gb:Nat)(w0:PJ)(hp:2<=p/\p<=101)(ho:o=1\/o=2)(hN0:0<N)(hN:N<=3)(hF:∀i,i<M->ck p o N (F i)/\Bd (F i)/\(F i).length<=L)(hM:M<=1200000000000)(hL:M*L<=1200000000000)(H:∀i w',i<M->Io w0 w'->Calls prog 129 #[.int .i64 i,.pointer (some ⟨rb,0,none⟩),.pointer (some ⟨fb,0,none⟩),.pointer (some ⟨gb,0,none⟩)] w' λe w''=>∃u,e=.returned u/\Pl w'' u (F i)/\Io w' w''):∀(K a b:Nat)(w:PJ),b-a<=K->a<=b->b<=M->Io w0 w->Calls prog 96 #[aI p n o v,.int .i64 a,.int .i64 b,.func (.func 129) #[] #[.pointer (some ⟨rb,0,none⟩),.pointer (some ⟨fb,0,none⟩),.pointer (some ⟨gb,0,none⟩)]] w λe w'=>∃u ts,e=.returned u/\jC p o N F a (b-a) w' u ts/\Io w w':=by
 intro K;induction K with
 |zero=>
  intro a b w hk hab hbM hw0;have e:b=a:=by omega
  subst e;go_enter func96,ntmps96;go_wp2;go_ret;refine⟨_,[],rfl,⟨Pl.empty _,⟨λt ht=>by simp at ht,trivial,λt ht=>by simp at ht⟩,?_,by simp,λt ht=>by simp at ht⟩,aY⟩;rw[Nat.sub_self,rx];exact ct.refl _ _
 |succ K ih=>
  intro a b w hk hab hbM hw0;have HH:=ae H;have HF:=ae hF;have IH:=ae ih;have HW0:=ae hw0;have HO:=ae ho;have HP:=ae hp;clear H hF ih hw0 ho hp;by_cases h0:b=a
  .subst h0;go_enter func96,ntmps96;go_wp2;go_ret;refine⟨_,[],rfl,⟨Pl.empty _,⟨λt ht=>by simp at ht,trivial,λt ht=>by simp at ht⟩,?_,by simp,λt ht=>by simp at ht⟩,aY⟩;rw[Nat.sub_self,rx];exact ct.refl _ _
  .by_cases h1:b=a+1
   .subst h1;have HONE:Po (d9 F a (a+1-a)=F a):=by show _=_;rw[show a+1-a=1 by omega,vh]
    have HFA:=ae (HF.o a (by omega));go_enter func96,ntmps96;go_wp2_with (go_at_call 129;refine(HH.o a _ (by omega) (In HW0.o aY)).mono ?_;rintro e w1 ⟨u,rfl,hu,hb1⟩;have HU:=ae hu;have HB1:=ae hb1;obtain⟨ua,uc,rfl,_,_⟩:=hu;clear hb1);go_ret;refine⟨_,_,rfl,⟨HU.o,HFA.o.1,?_,?_,HFA.o.2.1⟩,aY.trans (HB1.o.mono (by simp))⟩
    .rw[HONE.o];exact ct.refl _ _
    .rw[HONE.o];exact Ou _
   .obtain⟨m,hmid,hm1,hm2⟩:∃m:Nat,((a:Int)+(b:Int))/2=(m:Int)/\a<m/\m<b:=⟨(a+b)/2,by omega,by omega,by omega⟩;have hne:¬(a:Int)=(b:Int):=by omega
    have hne1:¬(a:Int)+1=(b:Int):=by omega
    have HLEN:Po ((d9 F a (m-a)).length+(d9 F m (b-m)).length<=2400000000000):=by have l1:=pO (F:=F) (L:=L) (m-a) a (λi hi=>(HF.o i (by omega)).2.2);have l2:=pO (F:=F) (L:=L) (b-m) m (λi hi=>(HF.o i (by omega)).2.2);have l3:=sq (k:=m-a) (M:=M) (L:=L) (by omega) hL;have l4:=sq (k:=b-m) (M:=M) (L:=L) (by omega) hL;show _<=_;omega
    obtain⟨w1,hw1⟩:∃w1,w1=w.alloc (.cells #[.int .i64 p,.int .i64 n,.int .i64 o,.int .i64 v] 23):=⟨_,rfl⟩;have hbx:bO w1 w.heap.size p n o v:=by rw[hw1];exact bO.new w p n o v _
    have hbw:Io w w1:=by rw[hw1];exact aY
    obtain⟨bx,bx0,bx1,bx2,bx3⟩:=hbx;have HBW:=ae hbw;have HW1:=ae (In HW0.o hbw);have KEEP:Po (∀W,Io w1 W->(Po (Io w1 W)/\W.cell? ⟨w.heap.size,0,none⟩=some (.int .i64 p)/\W.cell? ⟨w.heap.size,1,none⟩=some (.int .i64 n)/\W.cell? ⟨w.heap.size,2,none⟩=some (.int .i64 o)/\W.cell? ⟨w.heap.size,3,none⟩=some (.int .i64 v))):=
     λW hb=>⟨hb,af bx0 hb,af bx1 hb,af bx2 hb,af bx3 hb⟩
    go_enter func96,ntmps96;go_wp2_with fail;rw[<-hw1];clear hw1 hbw bx0 bx1 bx2 bx3 bx h0 h1;go_region_held (λW=>Po (Io w1 W)/\W.cell? ⟨w.heap.size,0,none⟩=some (.int .i64 p)/\W.cell? ⟨w.heap.size,1,none⟩=some (.int .i64 n)/\W.cell? ⟨w.heap.size,2,none⟩=some (.int .i64 o)/\W.cell? ⟨w.heap.size,3,none⟩=some (.int .i64 v))
     (first|exact KEEP.o _ (Ov _ _).drew|exact KEEP.o _ (j8 (by assumption) hb5 (Ou _))|exact KEEP.o _ (j8 (by assumption) hb6 (Ou _))|exact KEEP.o _ (j8 (by assumption) hb7 (Ou _)))
     (first|(go_at_call_of 96 (Value.int IntKind.i64 (a:Int));refine(IH.o a m _ (by omega) (by omega) (by omega) ?_).mono ?_;exact In HW1.o ((Ov _ _).drew);rintro e w5 ⟨u1,ts1,rfl,hr1,hb5⟩;have R1:=ae hr1;obtain⟨ua1,uc1,rfl,_,_⟩:=hr1.pl;clear hr1)|(go_at_call_of 96 (Value.int IntKind.i64 (b:Int));refine(IH.o m b _ (by omega) (by omega) (by omega) ?_).mono ?_;exact In HW1.o (Po.o (And.left (by assumption):Po (Io w1 w5)));rintro e w6 ⟨u2,ts2,rfl,hr2,hb6⟩;have R2:=ae hr2;have R12:=ae (R1.o.below hb6);obtain⟨ua2,uc2,rfl,_,_⟩:=hr2.pl;clear hr2)|(go_at_call 131;refine(B6 p n o v N _ _ ts1 ts2 _ HP.o HO.o hN0 hN (sn R12.o.canon R12.o.bd) (sn R2.o.canon R2.o.bd) ?_ R12.o.pl R2.o.pl).mono ?_;(have l1:=R12.o.len;have l2:=R2.o.len;have l3:=HLEN.o;omega);rintro e w7 ⟨u3,rfl,hu3,hb7⟩;have R3:=ae hu3;obtain⟨ua3,uc3,rfl,_,_⟩:=hu3))
    have hb17:Io w1 w7:=Po.o (And.left (by assumption));go_wp2;go_ret;exact⟨_,_,rfl,jC.merge HP.o.1 (by omega) (by omega) R12.o R2.o R3.o,In HBW.o hb17⟩
theorem J0(fss:Lt):d9 (λi=>fss.getD i []) 0 fss.length=fss.flatten:=by
 have e:(List.range fss.length).map (λi=>fss.getD i [])=fss:=by
  apply List.ext_getElem?;intro i;by_cases hi:i<fss.length
  .simp[hi]
  .rw[OJ (by simp;omega),OJ (by omega)]
 unfold d9;rw[<-List.range_eq_range',List.flatMap_def,e]
theorem J1(p:Int)(fs gs:LT):d9 (λi=>cB p (fs.getD i bV) gs) 0 fs.length=aH p fs gs:=by
 have e:(List.range fs.length).map (λi=>cB p (fs.getD i bV) gs)=fs.map λt=>cB p t gs:=by
  apply List.ext_getElem?;intro i;by_cases hi:i<fs.length
  .simp[hi]
  .rw[OJ (by simp;omega),OJ (by simp;omega)]
 unfold d9 Go.Proofs.YtjkalahhpobefaaGreat.aH;rw[<-List.range_eq_range',List.flatMap_def,e,List.flatMap_def]
theorem B7{fss:Lt}(h:∀f∈fss,ck p o N f):dS p N fss.flatten:=by
 constructor
 .intro t ht;obtain⟨f,hf,ht⟩:=List.mem_flatten.1 ht;exact(h f hf).len t ht
 .intro t ht;obtain⟨f,hf,ht⟩:=List.mem_flatten.1 ht;have:=(h f hf).coef t ht;omega
theorem J2(i pb b off len cap:Nat)(vi:PK)(ts:LT)(w:PJ)(hi:i<len)(hc0:w.cell? ⟨pb,0,none⟩=some (.slice (some ⟨b,off,none⟩) len cap))(hc1:w.cell? ⟨b,off+i,none⟩=some vi)(hm:ts.length<=1200000000000)(hl:∀t∈ts,t.2.length<=400)(hs:Pl w vi ts):Calls prog 97 #[.int .i64 i,.pointer (some ⟨pb,0,none⟩)] w λe w'=>∃u,e=.returned u/\Pl w' u ts/\Io w w':=by have HS:=ae hs;have HL:=ae hl;obtain⟨a,c,rfl,_,_⟩:=hs;clear hl;go_enter func97,ntmps97;go_wp2_with (go_at_call 98;refine(JS _ ts _ hm HL.o HS.o).mono ?_;rintro e w1 ⟨u,rfl,hu,hb1⟩;have HU:=ae hu;have HB:=ae hb1;obtain⟨ua,uc,rfl,_,_⟩:=hu;clear hb1);go_ret;exact⟨_,rfl,HU.o,HB.o⟩
theorem iq{α:Type}(xs:List (List α))(k:Nat)(h:k<xs.length):xs.getD k []∈xs:=by rw[OH,OI h];simp
theorem wG(p n o v:Int)(N L:Nat)(pv:PK)(fss:Lt)(w:PJ)(hp:2<=p/\p<=101)(ho:o=1\/o=2)(hN0:0<N)(hN:N<=3)(hF:∀f∈fss,ck p o N f/\Bd f/\f.length<=L)(hM:fss.length<=1200000000000)(hL:fss.length*L<=1200000000000)(hv:Vl w pv fss):Calls prog 59 #[aI p n o v,pv] w λe w'=>∃u,e=.returned u/\Pl w' u (aR p o fss.flatten)/\Io w w':=by
 have HV:=ae hv;have HF:=ae hF;have HO:=ae ho;have HP:=ae hp;have HML:=ae (Ow hM hL);obtain⟨a,cap,rfl,hc⟩:=hv;obtain⟨w0,hw0⟩:∃w0,w0=(w.alloc (.cells #[.int .i64 p,.int .i64 n,.int .i64 o,.int .i64 v] 23)).alloc (.cells #[.slice a fss.length cap] 31):=⟨_,rfl⟩;have hb0:Io w w0:=by rw[hw0];exact cY
 have hpb:w0.cell? ⟨w.heap.size+1,0,none⟩=some (.slice a fss.length cap):=by rw[hw0];simp[go_sem]
 have HH:Po (∀i w',i<fss.length->Io w0 w'->Calls prog 97 #[.int .i64 i,.pointer (some ⟨w.heap.size+1,0,none⟩)] w' λe w''=>∃u,e=.returned u/\Pl w'' u (fss.getD i [])/\Io w' w''):=by
  intro i w' hi hb;obtain⟨b,off,e,hlt,hat⟩:=hc (by omega);subst e;obtain⟨vi,hvi,hpl⟩:=hat i hi;have hbw:Io w w':=In hb0 hb;have hfi:=HF.o _ (iq fss i hi);have hL1:(fss.getD i []).length<=1200000000000:=by have h1:=hfi.2.2;have h2:L<=fss.length*L:=Nat.le_mul_of_pos_left L (by omega);omega
  exact J2 i _ b off fss.length cap vi _ w' hi (af hpb hb) (by rw[hbw.cell (p:=⟨b,off+i,none⟩) hlt];exact hvi) hL1 (λt ht=>by have:=hfi.1.len t ht;omega) (hpl.below hbw)
 clear hF ho hp hc hpb hM hL;have HB0:=ae hb0;go_enter func59,ntmps59;go_wp2_with fail;rw[<-hw0];refine(JY p n o v N fss.length L (λi=>fss.getD i []) _ w0 HP.o HO.o hN0 hN (λi hi=>HF.o _ (iq fss i hi)) HML.o.1 HML.o.2 HH.o fss.length 0 fss.length w0 (by omega) (by omega) (Ou _) (Ov _ _)).mono ?_;rintro e w1 ⟨u,ts,rfl,hr,hb1⟩;have HR:=ae hr;obtain⟨ua,uc,rfl,_,_⟩:=hr.pl;clear hr;go_wp2;go_ret;refine⟨_,rfl,?_,In HB0.o hb1⟩;have hs:=HR.o.same;rw[Nat.sub_zero,J0] at hs;have e:=ve HP.o.1 (B7 (λf hf=>(HF.o f hf).1)).len (B7 (λf hf=>(HF.o f hf).1)).coef HR.o.canon hs;rw[<-e];exact HR.o.pl
end Go.Proofs.YtjkalahhpobefaaGreat
