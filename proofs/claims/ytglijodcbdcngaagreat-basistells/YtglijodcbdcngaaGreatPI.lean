/- Steps of regions that draw; merge. -/
import Derived.Test.YtglijodcbdcngaaGreatPF
import Derived.Test.YtglijodcbdcngaaGreatM
import Derived.Deep.RegionLaw
import Derived.Test.YtglijodcbdcngaaGreatFG
set_option maxHeartbeats 2000000
set_option maxRecDepth 100000
namespace Go.Proofs.YtglijodcbdcngaaGreat
set_option linter.unusedSimpArgs false
set_option linter.unusedVariables false
open Go.Proofs.Tryz Go.RowKit
theorem oZ{P:Program}{ops:Array Oper}{o:Oper}{a:Act}{w:World}{K:Act->World->Prop}{Q:Exit->Act->World->Prop}{E:Prop}(hg:o.guard=none)(s x:Operand)(t:TypeId)(hop:o.op=Op.call {callee:=Callee.builtin Builtin.append,args:=#[s,x],argTypes:=#[t,t]})(base:Nat)(e:TypeId)(i:TypeInfo)(size:Nat)(h1:P.underlying t=some (.slice e))(h2:P.info? e=some i)(h4:i.size=size)(g k cap:Nat)(xs:List Value)(hs:a.eval s=.slice (some ⟨g,0,none⟩) k cap)(hown:w.ownsRow base e size (.slice (some ⟨g,0,none⟩) k cap) k xs)(ad:Addr)(m c:Nat)(news:List Value)(hx:a.eval x=.slice (some ad) m c)(hn:news.length=m*size)(hc:∀j u,news[j]?=some u->w.cell? (ad.add j)=some u)(h1c:∀u∈news,u.oneCell'=true)(b1:k+m<=cap)(hK:∀w',w'.ownsRow base e size (.slice (some ⟨g,0,none⟩) (k+m) cap) (k+m) (xs++news)->w.grownBy w' (some g)->K (a.put o.dst (.slice (some ⟨g,0,none⟩) (k+m) cap)) w'):if Region.wanted o (yielded ops a.tmps)=true then Oper.wp P o a w K Q else E:=by
 have hw:Region.wanted o (yielded ops a.tmps)=true:=by simp[Region.wanted,hg]
 rw[if_pos hw];obtain⟨w',hrun,r1,r2⟩:=run_append_fits (P:=P) w base t o.type e i size h1 h2 h4 g k cap xs hown ad m c news hn hc h1c b1;unfold Oper.wp;simp[execOp,hop,resolve,invoke,builtin,hs,hx,hrun,Result.andThen];exact hK w' r1 r2
theorem gr{P:Program}{ops:Array Oper}{o:Oper}{a:Act}{w:World}{K:Act->World->Prop}{Q:Exit->Act->World->Prop}{E:Prop}(hg:o.guard=none)(s x:Operand)(t:TypeId)(hop:o.op=Op.call {callee:=Callee.builtin Builtin.append,args:=#[s,x],argTypes:=#[t,t]})(base:Nat)(e:TypeId)(i:TypeInfo)(z:Value)(size bytes:Nat)(ht:P.underlying t=some (.slice e))(hi:P.info? e=some i)(hz:i.zero=some z)(hsize:i.size=size)(hby:i.bytes=bytes)(hzs:z.cells.size=size)(hsz:0<size)(v:Value)(n:Nat)(xs:List Value)(hs:a.eval s=v)(hown:w.ownsRow base e size v n xs)(ad:Addr)(m c:Nat)(news:List Value)(hx:a.eval x=.slice (some ad) m c)(hl:news.length=m*size)(hnews:∀j u,news[j]?=some u->w.cell? (ad.add j)=some u)(h1:∀u∈news,u.oneCell'=true)(h63:n+m<=maxLen)(hbytes:(n+m)*bytes<=140737488355328)(hbase:base<=w.heap.size)(hK:∀v' w',w'.ownsRow base e size v' (n+m) (xs++news)->w.grownBy w' v.ownBlock->(v'=.slice none 0 0↔v=.slice none 0 0/\m=0)->K (a.put o.dst v') w'):if Region.wanted o (yielded ops a.tmps)=true then Oper.wp P o a w K Q else E:=by
 have hw:Region.wanted o (yielded ops a.tmps)=true:=by simp[Region.wanted,hg]
 rw[if_pos hw];obtain⟨v',w',hr,h2,h3,h4⟩:=run_append_own (P:=P) w base t o.type e i z size bytes ht hi hz hsize hby hzs hsz v n xs hown ad m c news hl hnews h1 h63 hbytes hbase;unfold Oper.wp execOp;simp only[hop,resolve,invoke,builtin,Sem.run_bind,Sem.run_pure,Result.andThen_ok,List.map_toArray,List.map_cons,List.map_nil,hs,hx,hr];exact hK v' w' h2 h3 h4
def dP(p:Int)(N:Nat)(t:Tm):Prop:=t.2.length=N/\(∀x∈t.2,0<=x/\x<=40000)/\0<=t.1/\t.1<p
def gY:Value->Nat
 | .slice _ n _=>n
 |_=>0
structure eD(p o:Int)(N C:Nat)(w1 wr:World)(g:Nat)(L:List Tm)(fv gv:Value)(fs gs:List Tm)(ds:List TV):Prop where
 pf:Pl w1 fv fs
 pg:Pl w1 gv gs
 tf:∀t∈fs,dP p N t
 tg:∀t∈gs,dP p N t
 own:wr.ownsRow w1.heap.size 54 2 (.slice (some ⟨g,0,none⟩) ds.length C) ds.length (ak ds)
 es:Es w1 ds
 below:Below w1.heap.size w1 wr
 eq:L=ds.map tm++bZ p o fs gs
 room:ds.length+fs.length+gs.length<=C
theorem Pl.head{w:World}{v:Value}{t:Tm}{ts:List Tm}(h:Pl w v (t::ts)):∃b off cap ev,v=.slice (some ⟨b,off,none⟩) (ts.length+1) cap/\ts.length+1<=cap/\b<w.heap.size/\w.cell? ⟨b,off,none⟩=some (.int .i64 t.1)/\w.cell? ⟨b,off+1,none⟩=some ev/\Sl w ev t.2/\(cap=1->ts=[])/\Pl w (.slice (some ⟨b,off+2,none⟩) ts.length (cap-1)) ts:=by
 obtain⟨a,cap,rfl,hcap,h⟩:=h;obtain⟨b,off,rfl,hlt,hc⟩:=h (by simp);obtain⟨c0,ev,c1,hs⟩:=hc 0 (by simp);simp only[List.length_cons] at hcap;refine⟨b,off,cap,ev,rfl,hcap,hlt,by simpa using c0,by simpa using c1,by simpa using hs,λe=>List.length_eq_zero_iff.1 (by omega),_,_,rfl,by omega,λhp=>⟨b,off+2,rfl,hlt,λi hi=>?_⟩⟩;obtain⟨d0,ew,d1,ds⟩:=hc (i+1) (by simp only[List.length_cons];omega);have e1:off+(i+1)*2=off+2+i*2:=by omega
 rw[e1] at d0 d1;exact⟨by simpa using d0,ew,d1,by simpa using ds⟩
theorem Pl.tail{w:World}{b off cap:Nat}{ts:List Tm}(h:(cap=1->ts=[])/\Pl w (.slice (some ⟨b,off+2,none⟩) ts.length (cap-1)) ts):∃A,(if cap=1 then (some ⟨b,off,none⟩:Option Addr) else some ⟨b,off+2,none⟩)=some A/\Pl w (.slice (some A) ts.length (cap-1)) ts:=by
 by_cases hc:cap=1
 ·have e:=h.1 hc;subst e;exact⟨⟨b,off,none⟩,if_pos hc,_,_,rfl,Hl _,λh=>absurd h (by simp)⟩
 ·exact⟨⟨b,off+2,none⟩,if_neg hc,h.2⟩
theorem EQ{w w1:World}{p n o v:Int}{N C:Nat}{T1:TypeId}{fv gv:Value}{fs gs:List Tm}(hf:Pl w fv fs)(hg:Pl w gv gs)(tf:∀t∈fs,dP p N t)(tg:∀t∈gs,dP p N t)(hC:fs.length+gs.length<=C)(h:w1.ownsRow (w.heap.size+1) 54 2 (.slice (some ⟨(w.alloc (.cells #[.int .i64 p,.int .i64 n,.int .i64 o,.int .i64 v] T1)).heap.size,0,none⟩) 0 C) 0 [])(hgr:(w.alloc (.cells #[.int .i64 p,.int .i64 n,.int .i64 o,.int .i64 v] T1)).grownBy w1 none):∃wa,Below w.heap.size w wa/\wa.heap.size=w.heap.size+1/\aX wa w.heap.size p n o v/\eD p o N C wa w1 (w.heap.size+1) (bZ p o fs gs) fv gv fs gs []:=by
 have e:(w.alloc (.cells #[.int .i64 p,.int .i64 n,.int .i64 o,.int .i64 v] T1)).heap.size=w.heap.size+1:=by simp
 rw[e] at h;refine⟨w.alloc (.cells #[.int .i64 p,.int .i64 n,.int .i64 o,.int .i64 v] T1),af,e,aX.new w p n o v T1,?_⟩;exact⟨hf.below af,hg.below af,tf,tg,by rw[e];exact h,λt ht=>by simp at ht,⟨hgr.os,hgr.tape,hgr.output,hgr.size,λk hk=>hgr.block k hk (by simp)⟩,by simp,by simp;omega⟩
theorem ae{W W2:World}{a:Addr}{x:Value}(h:W.cell? a=some x)(hb:Below W.heap.size W W2):W2.cell? a=some x:=by rw[hb.cell (k9 h)];exact h
theorem gZ{w W W2:World}{B:Nat}{Q:Prop}(h:Ic (Below B w W)/\Q)(hb:Below W.heap.size W W2)(hB:B<=w.heap.size):Below B w W2:=h.1.o.trans (hb.mono (Hk hB h.1.o.size))
theorem eD.next{p o:Int}{N C:Nat}{w1 wr w':World}{g:Nat}{L:List Tm}{fv gv:Value}{fs gs:List Tm}{ds:List TV}(h:eD p o N C w1 wr g L fv gv fs gs ds)(hb:Below wr.heap.size wr w'):eD p o N C w1 w' g L fv gv fs gs ds:=
 ⟨h.pf,h.pg,h.tf,h.tg,aH h.own hb,h.es,h.below.trans (hb.mono h.below.size),h.eq,h.room⟩
theorem rR(c:Int)(a:Option Addr)(n m:Nat):∀u∈[Value.int .i64 c,Value.slice a n m],u.oneCell'=true:=by intro u hu;simp at hu;rcases hu with rfl|rfl<;>rfl
theorem eD.takeF{p o:Int}{N C:Nat}{w1 wr w2 w':World}{g:Nat}{L:List Tm}{fv gv fv' ev:Value}{tc:Int}{te:List Int}{u:Tm}{fs gs:List Tm}{ds:List TV}(h:eD p o N C w1 wr g L fv gv ((tc,te)::fs) (u::gs) ds)(hb:Below wr.heap.size wr w2)(ho:0<aF o te u.2)(hown:w'.ownsRow w1.heap.size 54 2 (.slice (some ⟨g,0,none⟩) (ds.length+1) C) (ds.length+1) (ak ds++[.int .i64 tc,ev]))(hg:w2.grownBy w' (some g))(hgw:w1.heap.size<=g)(hs:Sl w1 ev te)(hf:Pl w1 fv' fs):eD p o N C w1 w' g L fv' gv fs (u::gs) (ds++[(tc,ev,te)]):=by
 refine⟨hf,h.pg,λt ht=>h.tf t (by simp[ht]),h.tg,?_,?_,?_,?_,?_⟩
 ·rw[gV,Hx];exact hown
 ·intro t ht;rcases Hv.1 ht with ht|ht
  ·exact h.es t ht
  ·rw[Hw] at ht;subst ht;exact hs
 ·have h2:=h.below.trans (hb.mono h.below.size);exact h2.trans (ck hg hgw h2.size)
 ·rw[h.eq,l7 (by exact ho),List.map_append];simp[tm]
 ·have:=h.room;simp only[Hx,List.length_cons,List.length_nil] at this⊢;omega
theorem eD.takeG{p o:Int}{N C:Nat}{w1 wr w2 w':World}{g:Nat}{L:List Tm}{fv gv gv' ev:Value}{uc:Int}{ue:List Int}{t:Tm}{fs gs:List Tm}{ds:List TV}(h:eD p o N C w1 wr g L fv gv (t::fs) ((uc,ue)::gs) ds)(hb:Below wr.heap.size wr w2)(ho:aF o t.2 ue<0)(hown:w'.ownsRow w1.heap.size 54 2 (.slice (some ⟨g,0,none⟩) (ds.length+1) C) (ds.length+1) (ak ds++[.int .i64 uc,ev]))(hg:w2.grownBy w' (some g))(hgw:w1.heap.size<=g)(hs:Sl w1 ev ue)(hf:Pl w1 gv' gs):eD p o N C w1 w' g L fv gv' (t::fs) gs (ds++[(uc,ev,ue)]):=by
 refine⟨h.pf,hf,h.tf,λt ht=>h.tg t (by simp[ht]),?_,?_,?_,?_,?_⟩
 ·rw[gV,Hx];exact hown
 ·intro t ht;rcases Hv.1 ht with ht|ht
  ·exact h.es t ht
  ·rw[Hw] at ht;subst ht;exact hs
 ·have h2:=h.below.trans (hb.mono h.below.size);exact h2.trans (ck hg hgw h2.size)
 ·rw[h.eq,l8 (by exact ho),List.map_append];simp[tm]
 ·have:=h.room;simp only[Hx,List.length_cons,List.length_nil] at this⊢;omega
theorem eD.both{p o:Int}{N C:Nat}{w1 wr w2 w':World}{g:Nat}{L:List Tm}{fv gv fv' gv' ev:Value}{tc uc:Int}{te ue:List Int}{fs gs:List Tm}{ds:List TV}(h:eD p o N C w1 wr g L fv gv ((tc,te)::fs) ((uc,ue)::gs) ds)(hb:Below wr.heap.size wr w2)(ho:aF o te ue=0)(hc:(tc+uc)%p≠0)(hown:w'.ownsRow w1.heap.size 54 2 (.slice (some ⟨g,0,none⟩) (ds.length+1) C) (ds.length+1) (ak ds++[.int .i64 ((tc+uc)%p),ev]))(hg:w2.grownBy w' (some g))(hgw:w1.heap.size<=g)(hs:Sl w1 ev te)(hf:Pl w1 fv' fs)(hf2:Pl w1 gv' gs):eD p o N C w1 w' g L fv' gv' fs gs (ds++[((tc+uc)%p,ev,te)]):=by
 refine⟨hf,hf2,λt ht=>h.tf t (by simp[ht]),λt ht=>h.tg t (by simp[ht]),?_,?_,?_,?_,?_⟩
 ·rw[gV,Hx];exact hown
 ·intro t ht;rcases Hv.1 ht with ht|ht
  ·exact h.es t ht
  ·rw[Hw] at ht;subst ht;exact hs
 ·have h2:=h.below.trans (hb.mono h.below.size);exact h2.trans (ck hg hgw h2.size)
 ·rw[h.eq,l9 (by exact ho) (by exact hc),List.map_append];simp[tm]
 ·have:=h.room;simp only[Hx,List.length_cons,List.length_nil] at this⊢;omega
theorem eD.drop{p o:Int}{N C:Nat}{w1 wr w2:World}{g:Nat}{L:List Tm}{fv gv fv' gv':Value}{tc uc:Int}{te ue:List Int}{fs gs:List Tm}{ds:List TV}(h:eD p o N C w1 wr g L fv gv ((tc,te)::fs) ((uc,ue)::gs) ds)(hb:Below wr.heap.size wr w2)(ho:aF o te ue=0)(hc:(tc+uc)%p=0)(hf:Pl w1 fv' fs)(hf2:Pl w1 gv' gs):eD p o N C w1 w2 g L fv' gv' fs gs ds:=by
 have k:=h.next hb;refine⟨hf,hf2,λt ht=>h.tf t (by simp[ht]),λt ht=>h.tg t (by simp[ht]),k.own,k.es,k.below,?_,?_⟩
 ·rw[h.eq,mf (by exact ho) (by exact hc)]
 ·have:=h.room;simp only[List.length_cons] at this⊢;omega
theorem o6{P:Program}{w:World}{ops:Array Oper}{rest:List Oper}{o:Oper}{a:Act}{Q:Exit->Act->World->Prop}(hgd:o.guard=none)(s x:Operand)(t:TypeId)(ho:o.op=.call {callee:=.builtin .append,args:=#[s,x],argTypes:=#[t,t]})(base:Nat)(e:TypeId)(i:TypeInfo)(h1:P.underlying t=some (.slice e))(h2:P.info? e=some i)(h4:i.size=2)(g k cap:Nat)(xs:List Value)(hs:a.eval s=.slice (some ⟨g,0,none⟩) k cap)(hown:w.ownsRow base e 2 (.slice (some ⟨g,0,none⟩) k cap) k xs)(us:List TV)(ua:Option Addr)(uc:Nat)(hx:a.eval x=.slice ua us.length uc)(hcs:0<us.length->∃b off,ua=some ⟨b,off,none⟩/\∀j u,(ak us)[j]?=some u->w.cell? ⟨b,off+j,none⟩=some u)(hone:∀u∈ak us,u.oneCell'=true)(b1:k+us.length<=cap)(hK:∀w',w'.ownsRow base e 2 (.slice (some ⟨g,0,none⟩) (k+us.length) cap) (k+us.length) (xs++ak us)->w.grownBy w' (some g)->wpList P ops Q rest (a.put o.dst (.slice (some ⟨g,0,none⟩) (k+us.length) cap)) w'):wpList P ops Q (o::rest) a w:=by
 by_cases h0:0<us.length
 ·obtain⟨b,off,rfl,hc⟩:=hcs h0;refine wpList_append_fits w hgd s x t ho base e i 2 h1 h2 h4 g k cap xs hs hown ⟨b,off,none⟩ us.length uc (ak us) hx (iW us) (λj u hj=>?_) hone b1 hK;have:=hc j u hj;by_cases hj0:j=0
  ·subst hj0;simpa [Addr.add] using this
  ·simpa [Addr.add,hj0] using this
 ·have e0:us=[]:=List.length_eq_zero_iff.1 (by omega);subst e0;cases ua with
  |none=>refine tQ hgd s x t ho base e i 2 h1 h2 _ k uc xs hs hown hx ?_;exact hK w (by simpa [ak] using hown) (nP _ _)
  |some ad=>refine wpList_append_fits w hgd s x t ho base e i 2 h1 h2 h4 g k cap xs hs hown ad 0 uc [] hx (by simp) (λj u hj=>by simp at hj) (λu hu=>by simp at hu) b1 hK
theorem eD.finish{p o:Int}{N C:Nat}{w1 wr w2 w3:World}{g:Nat}{L:List Tm}{fv gv:Value}{fs gs:List Tm}{ds us vs:List TV}(h:eD p o N C w1 wr g L fv gv fs gs ds)(hus:us.map tm=fs)(hvs:vs.map tm=gs)(hu:Es w1 us)(hv:Es w1 vs)(hgw:w1.heap.size<=g)(he:fs=[]\/gs=[])(g2:wr.grownBy w2 (some g))(g3:w2.grownBy w3 (some g))(hown:w3.ownsRow w1.heap.size 54 2 (.slice (some ⟨g,0,none⟩) (ds.length+us.length+vs.length) C) (ds.length+us.length+vs.length) (ak ds++ak us++ak vs)):Pl w3 (.slice (some ⟨g,0,none⟩) (ds.length+us.length+vs.length) C) L/\Below w1.heap.size w1 w3:=by
 have hb:Below w1.heap.size w1 w3:=h.below.trans (ck (cj g2 g3) hgw h.below.size);refine⟨?_,hb⟩;have e1:(ds++us++vs).length=ds.length+us.length+vs.length:=by simp only[Hx]
 have e2:ak (ds++us++vs)=ak ds++ak us++ak vs:=by rw[gV,gV]
 have k:=kf (w:=w3) (B:=w1.heap.size) (v:=.slice (some ⟨g,0,none⟩) (ds.length+us.length+vs.length) C) (ts:=ds++us++vs) (by rw[e1,e2];exact hown) (by
  intro t ht;rcases Hv.1 ht with ht|ht
  ·rcases Hv.1 ht with ht|ht
   ·exact(h.es t ht).below hb
   ·exact(hu t ht).below hb
  ·exact(hv t ht).below hb)
 have e3:(ds++us++vs).map tm=L:=by
  rw[h.eq,List.map_append,List.map_append,hus,hvs];rcases he with he|he
  ·subst he;rw[l5];simp
  ·subst he;rw[l6];simp
 rw[e3] at k;exact k
theorem xK(p n o v:Int)(N:Nat)(fv gv:Value)(fs gs:List Tm)(w:World)(hp:2<=p/\p<=101)(ho:o=1\/o=2)(hN0:0<N)(hN:N<=3)(tf:∀t∈fs,dP p N t)(tg:∀t∈gs,dP p N t)(hm:fs.length+gs.length<=2400000000000)(hf:Pl w fv fs)(hg:Pl w gv gs):Calls prog 317 #[az p n o v,fv,gv] w λe w'=>∃u,e=.returned u/\Pl w' u (bZ p o fs gs)/\Below w.heap.size w w':=by
 have HF:=aa hf;have HG:=aa hg;have HTF:=aa tf;have HTG:=aa tg;have HO:=aa ho;obtain⟨hp1,hp2⟩:=hp;obtain⟨fa,fc,rfl,_,_⟩:=hf;obtain⟨ga,gc,rfl,_,_⟩:=hg;clear tf tg ho;obtain⟨i0,hi,hz0,hz1,hz2⟩:=info_parts Tryz.infoTerm;go_enter func317,ntmps317;go_wp2_with (at_make;refine wpList_make_own _ rfl _ _ 31 rfl (w.heap.size+1) 54 i0 _ 2 underlying31 hi hz0 hz1 .i64 .i64 _ (fs.length+gs.length) rfl rfl (by simp) (by rw[hz2];omega) (by unfold maxLen;omega) (by simp) ?_;intro w1 hown hgrow;have HX:=aa (EQ (N:=N) (C:=fs.length+gs.length) HF.o HG.o HTF.o HTG.o (He _) hown hgrow);clear hown hgrow);have HI:=aa (Hg hi (Hg hz1 hz2));clear hi hz0 hz1 hz2;obtain⟨wa,hba,hsz,hbox,hmg⟩:=HX.o;have HB:=aa hba;have HSZ:=aa hsz;have HBX:=aa hbox;have HM:=aa hmg;have HI2:=HI;clear HX hba hsz hbox hmg HTF HTG HF HG;go_loopw [1,2,7] (λx y z wr=>∃(fs1 gs1:List Tm)(ds:List TV),z=.slice (some ⟨w.heap.size+1,0,none⟩) ds.length (fs.length+gs.length)/\eD p o N (fs.length+gs.length) wa wr (w.heap.size+1) (bZ p o fs gs) x y fs1 gs1 ds) (λx y _ _=>gY x+gY y);case atStart=>exact⟨fs,gs,[],rfl,HM.o⟩
 case round=>
  clear HM;obtain⟨fs1,gs1,ds,rfl,hm1⟩:=hrel;have HM:=aa hm1;clear hm1;by_cases hfin:fs1=[]\/gs1=[]
  ·obtain⟨xa,xc,us,hxv,_,husm,hus,hucs⟩:=HM.o.pf.tvs;obtain⟨ya,yc,vs,hyv,_,hvsm,hvs,hvcs⟩:=HM.o.pg.tvs;have HU1:Ic (0<us.length->∃b off,xa=some ⟨b,off,none⟩/\∀j u,(ak us)[j]?=some u->wr.cell? ⟨b,off+j,none⟩=some u):=λh=>by obtain⟨b,off,e,hlt,hc⟩:=hucs h;exact⟨b,off,e,λj u hj=>by rw[HM.o.below.cell (p:=⟨b,off+j,none⟩) hlt];exact hc j u hj⟩
   have HV1:Ic (∀w2,wr.grownBy w2 (some (w.heap.size+1))->0<vs.length->∃b off,ya=some ⟨b,off,none⟩/\∀j u,(ak vs)[j]?=some u->w2.cell? ⟨b,off+j,none⟩=some u):=λw2 hg2 h=>by obtain⟨b,off,e,hlt,hc⟩:=hvcs h;have hb2:=HM.o.below.trans (ck hg2 (by rw[HSZ.o];exact He _) HM.o.below.size);exact⟨b,off,e,λj u hj=>by rw[hb2.cell (p:=⟨b,off+j,none⟩) hlt];exact hc j u hj⟩
   have HUL:Ic (us.length=fs1.length/\vs.length=gs1.length):=⟨by rw[<-husm,Ia],by rw[<-hvsm,Ia]⟩;have HR:Ic (ds.length+us.length<=fs.length+gs.length/\ds.length+us.length+vs.length<=fs.length+gs.length):=by have:=HM.o.room;have:=HUL.o;exact⟨by omega,by omega⟩
   have HUS:=aa (Hg husm (Hg hvsm (Hg hus hvs)));have HFIN:=aa hfin;have hzero:us.length=0\/vs.length=0:=by
    have:=HUL.o;rcases hfin with h|h
    ·left;rw[this.1,h];rfl
    ·right;rw[this.2,h];rfl
   subst hxv;subst hyv;clear hucs hvcs husm hvsm hus hvs hfin;have HTAC:Ic True:=trivial;by_cases hu0:0<us.length
   ·have hv0:¬0<vs.length:=by omega
    go_wp2_with (at_builtin;first|(refine o6 rfl (.tmp 80) (.tmp 81) 31 rfl wa.heap.size 54 i0 underlying31 HI.o.1 HI.o.2.1 (w.heap.size+1) ds.length (fs.length+gs.length) (ak ds) rfl HM.o.own us _ _ rfl HU1.o (eK HUS.o.2.2.1) HR.o.1 ?_;intro w2 r1 r2;have R1:=aa r1;have R2:=aa r2;clear r1 r2)|(refine o6 rfl (.tmp 82) (.tmp 83) 31 rfl wa.heap.size 54 i0 underlying31 HI.o.1 HI.o.2.1 (w.heap.size+1) (ds.length+us.length) (fs.length+gs.length) (ak ds++ak us) rfl R1.o vs _ _ rfl (HV1.o _ R2.o) (eK HUS.o.2.2.2) HR.o.2 ?_;intro w3 r3 r4;have R3:=aa r3;have R4:=aa r4;clear r3 r4));go_ret;have F:=HM.o.finish HUS.o.1 HUS.o.2.1 HUS.o.2.2.1 HUS.o.2.2.2 (by rw[HSZ.o];exact He _) HFIN.o R2.o R4.o R3.o;exact⟨_,rfl,F.1,HB.o.trans (F.2.mono HB.o.size)⟩
   ·go_wp2_with (at_builtin;first|(refine o6 rfl (.tmp 80) (.tmp 81) 31 rfl wa.heap.size 54 i0 underlying31 HI.o.1 HI.o.2.1 (w.heap.size+1) ds.length (fs.length+gs.length) (ak ds) rfl HM.o.own us _ _ rfl HU1.o (eK HUS.o.2.2.1) HR.o.1 ?_;intro w2 r1 r2;have R1:=aa r1;have R2:=aa r2;clear r1 r2)|(refine o6 rfl (.tmp 82) (.tmp 83) 31 rfl wa.heap.size 54 i0 underlying31 HI.o.1 HI.o.2.1 (w.heap.size+1) (ds.length+us.length) (fs.length+gs.length) (ak ds++ak us) rfl R1.o vs _ _ rfl (HV1.o _ R2.o) (eK HUS.o.2.2.2) HR.o.2 ?_;intro w3 r3 r4;have R3:=aa r3;have R4:=aa r4;clear r3 r4));go_ret;have F:=HM.o.finish HUS.o.1 HUS.o.2.1 HUS.o.2.2.1 HUS.o.2.2.2 (by rw[HSZ.o];exact He _) HFIN.o R2.o R4.o R3.o;exact⟨_,rfl,F.1,HB.o.trans (F.2.mono HB.o.size)⟩
  ·cases fs1 with
   |nil=>exact absurd (Or.inl rfl) hfin
   |cons t fs2=>
   cases gs1 with
   |nil=>exact absurd (Or.inr rfl) hfin
   |cons u gs2=>
    clear hfin;obtain⟨b,off,fcap,ev,rfl,hfc,hlt,c0,c1,hse,hone,hpl⟩:=HM.o.pf.head;obtain⟨b2,off2,gcap,ev2,rfl,hgc,hlt2,d0,d1,hse2,hone2,hpl2⟩:=HM.o.pg.head;have HDN:=aa HM.o.below;rw[<-HDN.o.cell (p:=⟨b,off,none⟩) hlt] at c0;rw[<-HDN.o.cell (p:=⟨b,off+1,none⟩) hlt] at c1;rw[<-HDN.o.cell (p:=⟨b2,off2,none⟩) hlt2] at d0;rw[<-HDN.o.cell (p:=⟨b2,off2+1,none⟩) hlt2] at d1;have HSE0:=aa hse;have HSE20:=aa hse2;have HSE:=aa (hse.below HDN.o);have HSE2:=aa (hse2.below HDN.o);obtain⟨ea,ec,rfl,_⟩:=hse;obtain⟨ea2,ec2,rfl,_⟩:=hse2;have HP:=aa (Hg hone hpl);have HP2:=aa (Hg hone2 hpl2);have HT:=aa (HM.o.tf t (by simp));have HU:=aa (HM.o.tg u (by simp));obtain⟨bx,bx0,bx1,bx2,bx3⟩:=HBX.o.below HDN.o;obtain⟨tc,te⟩:=t;obtain⟨uc,ue⟩:=u;have HBD:=aa (AL o te ue);simp only at c0 c1 d0 d1;clear hone hpl hone2 hpl2;have hlen0:0<te.length:=by have:=HT.o.1;simp only at this;omega
    have hlen3:te.length<=3:=by have:=HT.o.1;simp only at this;omega
    have HLL:=aa (show te.length=ue.length from HT.o.1.trans HU.o.1.symm);have KEEP:Ic (∀W,Below wr.heap.size wr W->(Ic (Below wr.heap.size wr W)/\W.cell? ⟨w.heap.size,0,none⟩=some (.int .i64 p)/\W.cell? ⟨w.heap.size,1,none⟩=some (.int .i64 n)/\W.cell? ⟨w.heap.size,2,none⟩=some (.int .i64 o)/\W.cell? ⟨w.heap.size,3,none⟩=some (.int .i64 v)/\W.cell? ⟨b,off+1,none⟩=some (.slice ea te.length ec)/\W.cell? ⟨b2,off2+1,none⟩=some (.slice ea2 ue.length ec2))):=
     λW hb=>⟨hb,ae bx0 hb,ae bx1 hb,ae bx2 hb,ae bx3 hb,ae c1 hb,ae d1 hb⟩
    have hroom:ds.length+1<=fs.length+gs.length:=by have:=HM.o.room;simp only[List.length_cons] at this;omega
    have hle:(1:Int)<=(fs2.length:Int)+1:=by omega
    have hle2:(1:Int)<=(gs2.length:Int)+1:=by omega
    obtain⟨A,hA,hplA⟩:=Pl.tail HP.o;have HPA:=aa hplA;obtain⟨A2,hA2,hplA2⟩:=Pl.tail HP2.o;have HPA2:=aa hplA2;clear hplA hplA2;by_cases hc1:aF o te ue=1
    ·go_wp2;go_region_held (λW=>Ic (Below wr.heap.size wr W)/\W.cell? ⟨w.heap.size,0,none⟩=some (.int .i64 p)/\W.cell? ⟨w.heap.size,1,none⟩=some (.int .i64 n)/\W.cell? ⟨w.heap.size,2,none⟩=some (.int .i64 o)/\W.cell? ⟨w.heap.size,3,none⟩=some (.int .i64 v)/\W.cell? ⟨b,off+1,none⟩=some (.slice ea te.length ec)/\W.cell? ⟨b2,off2+1,none⟩=some (.slice ea2 ue.length ec2))
      (first|exact KEEP.o _ (Hf _ _).drew|exact KEEP.o _ (gZ (by assumption) hb9 (He _)))
      (first|(go_at_call 225;refine(mv p n o v _ _ te ue _ HO.o hlen0 hlen3 HLL.o HT.o.2.1 HU.o.2.1 ?_ ?_).mono ?_;exact HSE.o.below (Hf _ _).drew;exact HSE2.o.below (Hf _ _).drew;rintro e w9 ⟨rfl,hb9⟩))
     have hb19:Below wr.heap.size wr w9:=Ic.o (And.left (by assumption));have HM9:=aa (HM.o.next hb19);have e0:=ae c0 hb19;have e1:=ae c1 hb19;have f0:=ae d0 hb19;have f1:=ae d1 hb19;have g0:=ae bx0 hb19;clear hb9 hb19 c0 c1 d0 d1 KEEP bx0 bx1 bx2 bx3;have HOWN:=aa (aH HM9.o.own ((Hf w9.heap.size w9).drew.alloc (He _) (.cells #[.int .i64 tc,.slice ea te.length ec] 54)));go_wp2;go_region_law (refine oZ rfl (.tmp 62) (.tmp 66) 31 rfl wa.heap.size 54 i0 2 underlying31 HI.o.1 HI.o.2.1 (w.heap.size+1) ds.length (fs.length+gs.length) (ak ds) (by simp[Act.eval,Act.put]) HOWN.o ⟨w9.heap.size,0,none⟩ 1 1 [.int .i64 tc,.slice ea te.length ec] (by simp[Act.eval,Act.put]) rfl (pX _ _ _ _) (rR _ _ _ _) hroom ?_;intro w' r1 r2;have R1:=aa (Hg r1 r2);clear r1 r2);all_goals
      simp only[List.getElem_toArray,List.getElem_cons_succ,List.getElem_cons_zero];simp only[Act.put,List.setIfInBounds_toArray,List.set_cons_zero,List.set_cons_succ];go_wp2;go_roundw;case rel=>exact⟨fs2,(uc,ue)::gs2,ds++[(tc,.slice ea te.length ec,te)],by simp,HM9.o.takeF ((Hf w9.heap.size w9).drew.alloc (He _) _) (by rw[hc1];omega) R1.o.1 R1.o.2 (by rw[HSZ.o];omega) HSE0.o HPA.o⟩
      case measure=>simp[gY]
    ·by_cases hc2:aF o te ue=-1
     ·go_wp2;go_region_held (λW=>Ic (Below wr.heap.size wr W)/\W.cell? ⟨w.heap.size,0,none⟩=some (.int .i64 p)/\W.cell? ⟨w.heap.size,1,none⟩=some (.int .i64 n)/\W.cell? ⟨w.heap.size,2,none⟩=some (.int .i64 o)/\W.cell? ⟨w.heap.size,3,none⟩=some (.int .i64 v)/\W.cell? ⟨b,off+1,none⟩=some (.slice ea te.length ec)/\W.cell? ⟨b2,off2+1,none⟩=some (.slice ea2 ue.length ec2))
       (first|exact KEEP.o _ (Hf _ _).drew|exact KEEP.o _ (gZ (by assumption) hb9 (He _)))
       (first|(go_at_call 225;refine(mv p n o v _ _ te ue _ HO.o hlen0 hlen3 HLL.o HT.o.2.1 HU.o.2.1 ?_ ?_).mono ?_;exact HSE.o.below (Hf _ _).drew;exact HSE2.o.below (Hf _ _).drew;rintro e w9 ⟨rfl,hb9⟩))
      have hb19:Below wr.heap.size wr w9:=Ic.o (And.left (by assumption));have HM9:=aa (HM.o.next hb19);have e0:=ae c0 hb19;have e1:=ae c1 hb19;have f0:=ae d0 hb19;have f1:=ae d1 hb19;have g0:=ae bx0 hb19;clear hb9 hb19 c0 c1 d0 d1 KEEP bx0 bx1 bx2 bx3;have HOWN:=aa (aH HM9.o.own ((Hf w9.heap.size w9).drew.alloc (He _) (.cells #[.int .i64 uc,.slice ea2 ue.length ec2] 54)));go_wp2;go_region_law (refine oZ rfl (.tmp 72) (.tmp 76) 31 rfl wa.heap.size 54 i0 2 underlying31 HI.o.1 HI.o.2.1 (w.heap.size+1) ds.length (fs.length+gs.length) (ak ds) (by simp[Act.eval,Act.put]) HOWN.o ⟨w9.heap.size,0,none⟩ 1 1 [.int .i64 uc,.slice ea2 ue.length ec2] (by simp[Act.eval,Act.put]) rfl (pX _ _ _ _) (rR _ _ _ _) hroom ?_;intro w' r1 r2;have R1:=aa (Hg r1 r2);clear r1 r2);all_goals
       simp only[List.getElem_toArray,List.getElem_cons_succ,List.getElem_cons_zero];simp only[Act.put,List.setIfInBounds_toArray,List.set_cons_zero,List.set_cons_succ];go_wp2;go_roundw;case rel=>exact⟨(tc,te)::fs2,gs2,ds++[(uc,.slice ea2 ue.length ec2,ue)],by simp,HM9.o.takeG ((Hf w9.heap.size w9).drew.alloc (He _) _) (by rw[hc2];omega) R1.o.1 R1.o.2 (by rw[HSZ.o];omega) HSE20.o HPA2.o⟩
       case measure=>simp[gY]
     ·have hc0:aF o te ue=0:=by have:=HBD.o;omega
      have HTU:=aa (Hg HT.o.2.2 HU.o.2.2);obtain⟨⟨ht1,ht2⟩,hu1,hu2⟩:=HTU.o;simp only at ht1 ht2 hu1 hu2;go_wp2;go_region_held (λW=>Ic (Below wr.heap.size wr W)/\W.cell? ⟨w.heap.size,0,none⟩=some (.int .i64 p)/\W.cell? ⟨w.heap.size,1,none⟩=some (.int .i64 n)/\W.cell? ⟨w.heap.size,2,none⟩=some (.int .i64 o)/\W.cell? ⟨w.heap.size,3,none⟩=some (.int .i64 v)/\W.cell? ⟨b,off+1,none⟩=some (.slice ea te.length ec)/\W.cell? ⟨b2,off2+1,none⟩=some (.slice ea2 ue.length ec2))
       (first|exact KEEP.o _ (Hf _ _).drew|exact KEEP.o _ (gZ (by assumption) hb9 (He _)))
       (first|(go_at_call 225;refine(mv p n o v _ _ te ue _ HO.o hlen0 hlen3 HLL.o HT.o.2.1 HU.o.2.1 ?_ ?_).mono ?_;exact HSE.o.below (Hf _ _).drew;exact HSE2.o.below (Hf _ _).drew;rintro e w9 ⟨rfl,hb9⟩))
      have hb19:Below wr.heap.size wr w9:=Ic.o (And.left (by assumption));have HM9:=aa (HM.o.next hb19);have e0:=ae c0 hb19;have e1:=ae c1 hb19;have f0:=ae d0 hb19;have f1:=ae d1 hb19;have g0:=ae bx0 hb19;clear hb9 hb19 c0 c1 d0 d1 KEEP bx0 bx1 bx2 bx3;go_wp2;go_quiet (fail);by_cases hz:(tc+uc)%p=0
      ·go_wp2;go_quiet (fail);go_wp2;go_roundw;case rel=>exact⟨fs2,gs2,ds,rfl,HM9.o.drop (below_drewN (below_drewN (Hf _ _) _) _) hc0 hz HPA.o HPA2.o⟩
       case measure=>simp[gY];omega
      ·have HOWN:=aa (aH HM9.o.own ((below_drewN (Hf w9.heap.size w9) nq).alloc (He _) (.cells #[.int .i64 ((tc+uc)%p),.slice ea te.length ec] 54)));have e1q:=ae e1 (below_drewN (Hf w9.heap.size w9) nq);go_wp2_with (at_builtin;refine wpList_append_fits _ rfl (.tmp 47) (.tmp 54) 31 rfl wa.heap.size 54 i0 2 underlying31 HI.o.1 HI.o.2.1 (w.heap.size+1) ds.length (fs.length+gs.length) (ak ds) rfl HOWN.o ⟨w9.heap.size,0,none⟩ 1 1 [.int .i64 ((tc+uc)%p),.slice ea te.length ec] rfl rfl (pX _ _ _ _) (rR _ _ _ _) hroom ?_;intro w' r1 r2;have R1:=aa (Hg r1 r2);clear r1 r2);go_quiet (fail);go_wp2;go_roundw;case rel=>exact⟨fs2,gs2,ds++[((tc+uc)%p,.slice ea te.length ec,te)],by simp,(HM9.o.both ((below_drewN (Hf w9.heap.size w9) _).alloc (He _) _) hc0 hz R1.o.1 R1.o.2 (by rw[HSZ.o];exact He _) HSE0.o HPA.o HPA2.o).next (below_drewN (Hf _ _) _)⟩
       case measure=>simp[gY];omega
def Bd(ts:List Tm):Prop:=∀t∈ts,∀x∈t.2,0<=x/\x<=40000
theorem Bd.merge{p o:Int}{f g:List Tm}(hf:Bd f)(hg:Bd g):Bd (bZ p o f g):=by intro x hx;obtain⟨t,ht,e⟩:=nj f g x hx;rw[e];exact(Hv.1 ht).elim (hf t) (hg t)
theorem o7{p o:Int}{N:Nat}{ts:List Tm}(h:bk p o N ts)(hb:Bd ts):∀t∈ts,dP p N t:=λt ht=>⟨h.len t ht,hb t ht,by have:=h.coef t ht;omega,(h.coef t ht).2⟩
theorem nk{F:Nat->List Tm}{L:Nat}:∀(k a:Nat),(∀i,i<a+k->(F i).length<=L)->(dz F a k).length<=k*L
 |0,a,_=>by simp[dz]
 |k+1,a,h=>by rw[Nat.add_comm k 1,xI,rQ,Hx];have h1:=h a (by omega);have h2:=nk k (a+1) (λi hi=>h i (by omega));rw[Nat.add_mul];omega
theorem o8{k M L:Nat}(h:k<=M)(hm:M*L<=1200000000000):k*L<=1200000000000:=Hk (Nat.mul_le_mul_right L h) hm
structure iy(p o:Int)(N:Nat)(F:Nat->List Tm)(a k:Nat)(w':World)(u:Value)(ts:List Tm):Prop where
 pl:Pl w' u ts
 canon:bk p o N ts
 same:bT p ts (dz F a k)
 len:ts.length<=(dz F a k).length
 bd:Bd ts
theorem iy.below{p o:Int}{N:Nat}{F:Nat->List Tm}{a k:Nat}{w' w2:World}{u:Value}{ts:List Tm}(h:iy p o N F a k w' u ts)(hb:Below w'.heap.size w' w2):iy p o N F a k w2 u ts:=⟨h.pl.below hb,h.canon,h.same,h.len,h.bd⟩
theorem iy.merge{p o:Int}{N:Nat}{F:Nat->List Tm}{a m b:Nat}{w' w2:World}{u u1 u2:Value}{ts us:List Tm}(hp:2<=p)(hm:a<=m)(hb:m<=b)(h:iy p o N F a (m-a) w' u1 ts)(k:iy p o N F m (b-m) w' u2 us)(hu:Pl w2 u (bZ p o ts us)):iy p o N F a (b-a) w2 u (bZ p o ts us):=by
 have e:dz F a (b-a)=dz F a (m-a)++dz F m (b-m):=by rw[show b-a=(m-a)+(b-m) by omega,xI,show a+(m-a)=m by omega]
 refine⟨hu,EG hp ts us h.canon k.canon,?_,?_,h.bd.merge k.bd⟩
 ·rw[e];exact(EF ts us h.canon.len k.canon.len).trans (h.same.append k.same)
 ·rw[e,Hx];have:=EE (p:=p) (o:=o) ts us;have:=h.len;have:=k.len;omega
theorem ER(p n o v:Int)(N M L:Nat)(F:Nat->List Tm)(pb:Nat)(w0:World)(hp:2<=p/\p<=101)(ho:o=1\/o=2)(hN0:0<N)(hN:N<=3)(hF:∀i,i<M->bk p o N (F i)/\Bd (F i)/\(F i).length<=L)(hM:M<=1200000000000)(hL:M*L<=1200000000000)(H:∀i w',i<M->Below w0.heap.size w0 w'->Calls prog 299 #[.int .i64 i,.pointer (some ⟨pb,0,none⟩)] w' λe w''=>∃u,e=.returned u/\Pl w'' u (F i)/\Below w'.heap.size w' w''):∀(K a b:Nat)(w:World),b-a<=K->a<=b->b<=M->Below w0.heap.size w0 w->Calls prog 298 #[az p n o v,.int .i64 a,.int .i64 b,.func (.func 299) #[] #[.pointer (some ⟨pb,0,none⟩)]] w λe w'=>∃u ts,e=.returned u/\iy p o N F a (b-a) w' u ts/\Below w.heap.size w w':=by
 intro K;induction K with
 |zero=>
  intro a b w hk hab hbM hw0;have e:b=a:=by omega
  subst e;go_enter func298,ntmps298;go_wp2;go_ret;refine⟨_,[],rfl,⟨Pl.empty _,⟨λt ht=>by simp at ht,trivial,λt ht=>by simp at ht⟩,?_,by simp,λt ht=>by simp at ht⟩,bp⟩;rw[Nat.sub_self,oW];exact bT.refl _ _
 |succ K ih=>
  intro a b w hk hab hbM hw0;have HH:=aa H;have HF:=aa hF;have IH:=aa ih;have HW0:=aa hw0;have HO:=aa ho;have HP:=aa hp;clear H hF ih hw0 ho hp;by_cases h0:b=a
  ·subst h0;go_enter func298,ntmps298;go_wp2;go_ret;refine⟨_,[],rfl,⟨Pl.empty _,⟨λt ht=>by simp at ht,trivial,λt ht=>by simp at ht⟩,?_,by simp,λt ht=>by simp at ht⟩,bp⟩;rw[Nat.sub_self,oW];exact bT.refl _ _
  ·by_cases h1:b=a+1
   ·subst h1;have HONE:Ic (dz F a (a+1-a)=F a):=by show _=_;rw[show a+1-a=1 by omega,rQ]
    have HFA:=aa (HF.o a (by omega));go_enter func298,ntmps298;go_wp2_with (go_at_call 299;refine(HH.o a _ (by omega) (HW0.o.trans (bp.mono HW0.o.size))).mono ?_;rintro e w1 ⟨u,rfl,hu,hb1⟩;have HU:=aa hu;have HB1:=aa hb1;obtain⟨ua,uc,rfl,_,_⟩:=hu;clear hb1);go_ret;refine⟨_,_,rfl,⟨HU.o,HFA.o.1,?_,?_,HFA.o.2.1⟩,bp.trans (HB1.o.mono (by simp))⟩
    ·rw[HONE.o];exact bT.refl _ _
    ·rw[HONE.o];exact He _
   ·obtain⟨m,hmid,hm1,hm2⟩:∃m:Nat,((a:Int)+(b:Int))/2=(m:Int)/\a<m/\m<b:=⟨(a+b)/2,by omega,by omega,by omega⟩;have hne:¬(a:Int)=(b:Int):=by omega
    have hne1:¬(a:Int)+1=(b:Int):=by omega
    have HLEN:Ic ((dz F a (m-a)).length+(dz F m (b-m)).length<=2400000000000):=by have l1:=nk (F:=F) (L:=L) (m-a) a (λi hi=>(HF.o i (by omega)).2.2);have l2:=nk (F:=F) (L:=L) (b-m) m (λi hi=>(HF.o i (by omega)).2.2);have l3:=o8 (k:=m-a) (M:=M) (L:=L) (by omega) hL;have l4:=o8 (k:=b-m) (M:=M) (L:=L) (by omega) hL;show _<=_;omega
    obtain⟨w1,hw1⟩:∃w1,w1=w.alloc (.cells #[.int .i64 p,.int .i64 n,.int .i64 o,.int .i64 v] 23):=⟨_,rfl⟩;have hbx:aX w1 w.heap.size p n o v:=by rw[hw1];exact aX.new w p n o v _
    have hbw:Below w.heap.size w w1:=by rw[hw1];exact bp
    obtain⟨bx,bx0,bx1,bx2,bx3⟩:=hbx;have HBW:=aa hbw;have HW1:=aa (HW0.o.trans (hbw.mono HW0.o.size));have KEEP:Ic (∀W,Below w1.heap.size w1 W->(Ic (Below w1.heap.size w1 W)/\W.cell? ⟨w.heap.size,0,none⟩=some (.int .i64 p)/\W.cell? ⟨w.heap.size,1,none⟩=some (.int .i64 n)/\W.cell? ⟨w.heap.size,2,none⟩=some (.int .i64 o)/\W.cell? ⟨w.heap.size,3,none⟩=some (.int .i64 v))):=
     λW hb=>⟨hb,ae bx0 hb,ae bx1 hb,ae bx2 hb,ae bx3 hb⟩
    go_enter func298,ntmps298;go_wp2_with fail;rw[<-hw1];clear hw1 hbw bx0 bx1 bx2 bx3 bx h0 h1;go_region_held (λW=>Ic (Below w1.heap.size w1 W)/\W.cell? ⟨w.heap.size,0,none⟩=some (.int .i64 p)/\W.cell? ⟨w.heap.size,1,none⟩=some (.int .i64 n)/\W.cell? ⟨w.heap.size,2,none⟩=some (.int .i64 o)/\W.cell? ⟨w.heap.size,3,none⟩=some (.int .i64 v))
     (first|exact KEEP.o _ (Hf _ _).drew|exact KEEP.o _ (gZ (by assumption) hb5 (He _))|exact KEEP.o _ (gZ (by assumption) hb6 (He _))|exact KEEP.o _ (gZ (by assumption) hb7 (He _)))
     (first|(go_at_call_of 298 (Value.int IntKind.i64 (a:Int));refine(IH.o a m _ (by omega) (by omega) (by omega) ?_).mono ?_;exact HW1.o.trans (((Hf _ _).drew).mono HW1.o.size);rintro e w5 ⟨u1,ts1,rfl,hr1,hb5⟩;have R1:=aa hr1;obtain⟨ua1,uc1,rfl,_,_⟩:=hr1.pl;clear hr1)|(go_at_call_of 298 (Value.int IntKind.i64 (b:Int));refine(IH.o m b _ (by omega) (by omega) (by omega) ?_).mono ?_;exact HW1.o.trans ((Ic.o (And.left (by assumption):Ic (Below w1.heap.size w1 w5))).mono HW1.o.size);rintro e w6 ⟨u2,ts2,rfl,hr2,hb6⟩;have R2:=aa hr2;have R12:=aa (R1.o.below hb6);obtain⟨ua2,uc2,rfl,_,_⟩:=hr2.pl;clear hr2)|(go_at_call 317;refine(xK p n o v N _ _ ts1 ts2 _ HP.o HO.o hN0 hN (o7 R12.o.canon R12.o.bd) (o7 R2.o.canon R2.o.bd) ?_ R12.o.pl R2.o.pl).mono ?_;(have l1:=R12.o.len;have l2:=R2.o.len;have l3:=HLEN.o;omega);rintro e w7 ⟨u3,rfl,hu3,hb7⟩;have R3:=aa hu3;obtain⟨ua3,uc3,rfl,_,_⟩:=hu3))
    have hb17:Below w1.heap.size w1 w7:=Ic.o (And.left (by assumption));go_wp2;go_ret;exact⟨_,_,rfl,iy.merge HP.o.1 (by omega) (by omega) R12.o R2.o R3.o,HBW.o.trans (hb17.mono HBW.o.size)⟩
theorem ES(p n o v:Int)(N M L:Nat)(F:Nat->List Tm)(rb fb gb:Nat)(w0:World)(hp:2<=p/\p<=101)(ho:o=1\/o=2)(hN0:0<N)(hN:N<=3)(hF:∀i,i<M->bk p o N (F i)/\Bd (F i)/\(F i).length<=L)(hM:M<=1200000000000)(hL:M*L<=1200000000000)(H:∀i w',i<M->Below w0.heap.size w0 w'->Calls prog 315 #[.int .i64 i,.pointer (some ⟨rb,0,none⟩),.pointer (some ⟨fb,0,none⟩),.pointer (some ⟨gb,0,none⟩)] w' λe w''=>∃u,e=.returned u/\Pl w'' u (F i)/\Below w'.heap.size w' w''):∀(K a b:Nat)(w:World),b-a<=K->a<=b->b<=M->Below w0.heap.size w0 w->Calls prog 298 #[az p n o v,.int .i64 a,.int .i64 b,.func (.func 315) #[] #[.pointer (some ⟨rb,0,none⟩),.pointer (some ⟨fb,0,none⟩),.pointer (some ⟨gb,0,none⟩)]] w λe w'=>∃u ts,e=.returned u/\iy p o N F a (b-a) w' u ts/\Below w.heap.size w w':=by
 intro K;induction K with
 |zero=>
  intro a b w hk hab hbM hw0;have e:b=a:=by omega
  subst e;go_enter func298,ntmps298;go_wp2;go_ret;refine⟨_,[],rfl,⟨Pl.empty _,⟨λt ht=>by simp at ht,trivial,λt ht=>by simp at ht⟩,?_,by simp,λt ht=>by simp at ht⟩,bp⟩;rw[Nat.sub_self,oW];exact bT.refl _ _
 |succ K ih=>
  intro a b w hk hab hbM hw0;have HH:=aa H;have HF:=aa hF;have IH:=aa ih;have HW0:=aa hw0;have HO:=aa ho;have HP:=aa hp;clear H hF ih hw0 ho hp;by_cases h0:b=a
  ·subst h0;go_enter func298,ntmps298;go_wp2;go_ret;refine⟨_,[],rfl,⟨Pl.empty _,⟨λt ht=>by simp at ht,trivial,λt ht=>by simp at ht⟩,?_,by simp,λt ht=>by simp at ht⟩,bp⟩;rw[Nat.sub_self,oW];exact bT.refl _ _
  ·by_cases h1:b=a+1
   ·subst h1;have HONE:Ic (dz F a (a+1-a)=F a):=by show _=_;rw[show a+1-a=1 by omega,rQ]
    have HFA:=aa (HF.o a (by omega));go_enter func298,ntmps298;go_wp2_with (go_at_call 315;refine(HH.o a _ (by omega) (HW0.o.trans (bp.mono HW0.o.size))).mono ?_;rintro e w1 ⟨u,rfl,hu,hb1⟩;have HU:=aa hu;have HB1:=aa hb1;obtain⟨ua,uc,rfl,_,_⟩:=hu;clear hb1);go_ret;refine⟨_,_,rfl,⟨HU.o,HFA.o.1,?_,?_,HFA.o.2.1⟩,bp.trans (HB1.o.mono (by simp))⟩
    ·rw[HONE.o];exact bT.refl _ _
    ·rw[HONE.o];exact He _
   ·obtain⟨m,hmid,hm1,hm2⟩:∃m:Nat,((a:Int)+(b:Int))/2=(m:Int)/\a<m/\m<b:=⟨(a+b)/2,by omega,by omega,by omega⟩;have hne:¬(a:Int)=(b:Int):=by omega
    have hne1:¬(a:Int)+1=(b:Int):=by omega
    have HLEN:Ic ((dz F a (m-a)).length+(dz F m (b-m)).length<=2400000000000):=by have l1:=nk (F:=F) (L:=L) (m-a) a (λi hi=>(HF.o i (by omega)).2.2);have l2:=nk (F:=F) (L:=L) (b-m) m (λi hi=>(HF.o i (by omega)).2.2);have l3:=o8 (k:=m-a) (M:=M) (L:=L) (by omega) hL;have l4:=o8 (k:=b-m) (M:=M) (L:=L) (by omega) hL;show _<=_;omega
    obtain⟨w1,hw1⟩:∃w1,w1=w.alloc (.cells #[.int .i64 p,.int .i64 n,.int .i64 o,.int .i64 v] 23):=⟨_,rfl⟩;have hbx:aX w1 w.heap.size p n o v:=by rw[hw1];exact aX.new w p n o v _
    have hbw:Below w.heap.size w w1:=by rw[hw1];exact bp
    obtain⟨bx,bx0,bx1,bx2,bx3⟩:=hbx;have HBW:=aa hbw;have HW1:=aa (HW0.o.trans (hbw.mono HW0.o.size));have KEEP:Ic (∀W,Below w1.heap.size w1 W->(Ic (Below w1.heap.size w1 W)/\W.cell? ⟨w.heap.size,0,none⟩=some (.int .i64 p)/\W.cell? ⟨w.heap.size,1,none⟩=some (.int .i64 n)/\W.cell? ⟨w.heap.size,2,none⟩=some (.int .i64 o)/\W.cell? ⟨w.heap.size,3,none⟩=some (.int .i64 v))):=
     λW hb=>⟨hb,ae bx0 hb,ae bx1 hb,ae bx2 hb,ae bx3 hb⟩
    go_enter func298,ntmps298;go_wp2_with fail;rw[<-hw1];clear hw1 hbw bx0 bx1 bx2 bx3 bx h0 h1;go_region_held (λW=>Ic (Below w1.heap.size w1 W)/\W.cell? ⟨w.heap.size,0,none⟩=some (.int .i64 p)/\W.cell? ⟨w.heap.size,1,none⟩=some (.int .i64 n)/\W.cell? ⟨w.heap.size,2,none⟩=some (.int .i64 o)/\W.cell? ⟨w.heap.size,3,none⟩=some (.int .i64 v))
     (first|exact KEEP.o _ (Hf _ _).drew|exact KEEP.o _ (gZ (by assumption) hb5 (He _))|exact KEEP.o _ (gZ (by assumption) hb6 (He _))|exact KEEP.o _ (gZ (by assumption) hb7 (He _)))
     (first|(go_at_call_of 298 (Value.int IntKind.i64 (a:Int));refine(IH.o a m _ (by omega) (by omega) (by omega) ?_).mono ?_;exact HW1.o.trans (((Hf _ _).drew).mono HW1.o.size);rintro e w5 ⟨u1,ts1,rfl,hr1,hb5⟩;have R1:=aa hr1;obtain⟨ua1,uc1,rfl,_,_⟩:=hr1.pl;clear hr1)|(go_at_call_of 298 (Value.int IntKind.i64 (b:Int));refine(IH.o m b _ (by omega) (by omega) (by omega) ?_).mono ?_;exact HW1.o.trans ((Ic.o (And.left (by assumption):Ic (Below w1.heap.size w1 w5))).mono HW1.o.size);rintro e w6 ⟨u2,ts2,rfl,hr2,hb6⟩;have R2:=aa hr2;have R12:=aa (R1.o.below hb6);obtain⟨ua2,uc2,rfl,_,_⟩:=hr2.pl;clear hr2)|(go_at_call 317;refine(xK p n o v N _ _ ts1 ts2 _ HP.o HO.o hN0 hN (o7 R12.o.canon R12.o.bd) (o7 R2.o.canon R2.o.bd) ?_ R12.o.pl R2.o.pl).mono ?_;(have l1:=R12.o.len;have l2:=R2.o.len;have l3:=HLEN.o;omega);rintro e w7 ⟨u3,rfl,hu3,hb7⟩;have R3:=aa hu3;obtain⟨ua3,uc3,rfl,_,_⟩:=hu3))
    have hb17:Below w1.heap.size w1 w7:=Ic.o (And.left (by assumption));go_wp2;go_ret;exact⟨_,_,rfl,iy.merge HP.o.1 (by omega) (by omega) R12.o R2.o R3.o,HBW.o.trans (hb17.mono HBW.o.size)⟩
theorem ET(fss:List (List Tm)):dz (λi=>fss.getD i []) 0 fss.length=fss.flatten:=by
 have e:(List.range fss.length).map (λi=>fss.getD i [])=fss:=by
  apply List.ext_getElem?;intro i;by_cases hi:i<fss.length
  ·simp[hi]
  ·rw[Hu (by simp;omega),Hu (by omega)]
 unfold dz;rw[<-List.range_eq_range',List.flatMap_def,e]
theorem EU(p:Int)(fs gs:List Tm):dz (λi=>aT p (fs.getD i aM) gs) 0 fs.length=aB p fs gs:=by
 have e:(List.range fs.length).map (λi=>aT p (fs.getD i aM) gs)=fs.map λt=>aT p t gs:=by
  apply List.ext_getElem?;intro i;by_cases hi:i<fs.length
  ·simp[hi]
  ·rw[Hu (by simp;omega),Hu (by simp;omega)]
 unfold dz Go.Proofs.YtglijodcbdcngaaGreat.aB;rw[<-List.range_eq_range',List.flatMap_def,e,List.flatMap_def]
theorem xL{p o:Int}{N:Nat}{fss:List (List Tm)}(h:∀f∈fss,bk p o N f):cP p N fss.flatten:=by
 constructor
 ·intro t ht;obtain⟨f,hf,ht⟩:=List.mem_flatten.1 ht;exact(h f hf).len t ht
 ·intro t ht;obtain⟨f,hf,ht⟩:=List.mem_flatten.1 ht;have:=(h f hf).coef t ht;omega
theorem EV(i pb b off len cap:Nat)(vi:Value)(ts:List Tm)(w:World)(hi:i<len)(hc0:w.cell? ⟨pb,0,none⟩=some (.slice (some ⟨b,off,none⟩) len cap))(hc1:w.cell? ⟨b,off+i,none⟩=some vi)(hm:ts.length<=1200000000000)(hl:∀t∈ts,t.2.length<=400)(hs:Pl w vi ts):Calls prog 299 #[.int .i64 i,.pointer (some ⟨pb,0,none⟩)] w λe w'=>∃u,e=.returned u/\Pl w' u ts/\Below w.heap.size w w':=by have HS:=aa hs;have HL:=aa hl;obtain⟨a,c,rfl,_,_⟩:=hs;clear hl;go_enter func299,ntmps299;go_wp2_with (go_at_call 300;refine(EM _ ts _ hm HL.o HS.o).mono ?_;rintro e w1 ⟨u,rfl,hu,hb1⟩;have HU:=aa hu;have HB:=aa hb1;obtain⟨ua,uc,rfl,_,_⟩:=hu;clear hb1);go_ret;exact⟨_,rfl,HU.o,HB.o⟩
theorem cG{α:Type}(xs:List (List α))(k:Nat)(h:k<xs.length):xs.getD k []∈xs:=by rw[Hs,Ht h];simp
theorem EW(p n o v:Int)(N L:Nat)(pv:Value)(fss:List (List Tm))(w:World)(hp:2<=p/\p<=101)(ho:o=1\/o=2)(hN0:0<N)(hN:N<=3)(hF:∀f∈fss,bk p o N f/\Bd f/\f.length<=L)(hM:fss.length<=1200000000000)(hL:fss.length*L<=1200000000000)(hv:Vl w pv fss):Calls prog 273 #[az p n o v,pv] w λe w'=>∃u,e=.returned u/\Pl w' u (aG p o fss.flatten)/\Below w.heap.size w w':=by
 have HV:=aa hv;have HF:=aa hF;have HO:=aa ho;have HP:=aa hp;have HML:=aa (Hg hM hL);obtain⟨a,cap,rfl,hc⟩:=hv;obtain⟨w0,hw0⟩:∃w0,w0=(w.alloc (.cells #[.int .i64 p,.int .i64 n,.int .i64 o,.int .i64 v] 23)).alloc (.cells #[.slice a fss.length cap] 32):=⟨_,rfl⟩;have hb0:Below w.heap.size w w0:=by rw[hw0];exact cW
 have hpb:w0.cell? ⟨w.heap.size+1,0,none⟩=some (.slice a fss.length cap):=by rw[hw0];simp[go_sem]
 have HH:Ic (∀i w',i<fss.length->Below w0.heap.size w0 w'->Calls prog 299 #[.int .i64 i,.pointer (some ⟨w.heap.size+1,0,none⟩)] w' λe w''=>∃u,e=.returned u/\Pl w'' u (fss.getD i [])/\Below w'.heap.size w' w''):=by
  intro i w' hi hb;obtain⟨b,off,e,hlt,hat⟩:=hc (by omega);subst e;obtain⟨vi,hvi,hpl⟩:=hat i hi;have hbw:Below w.heap.size w w':=hb0.trans (hb.mono hb0.size);have hfi:=HF.o _ (cG fss i hi);have hL1:(fss.getD i []).length<=1200000000000:=by have h1:=hfi.2.2;have h2:L<=fss.length*L:=Nat.le_mul_of_pos_left L (by omega);omega
  exact EV i _ b off fss.length cap vi _ w' hi (ae hpb hb) (by rw[hbw.cell (p:=⟨b,off+i,none⟩) hlt];exact hvi) hL1 (λt ht=>by have:=hfi.1.len t ht;omega) (hpl.below hbw)
 clear hF ho hp hc hpb hM hL;have HB0:=aa hb0;go_enter func273,ntmps273;go_wp2_with fail;rw[<-hw0];refine(ER p n o v N fss.length L (λi=>fss.getD i []) _ w0 HP.o HO.o hN0 hN (λi hi=>HF.o _ (cG fss i hi)) HML.o.1 HML.o.2 HH.o fss.length 0 fss.length w0 (by omega) (by omega) (He _) (Hf _ _)).mono ?_;rintro e w1 ⟨u,ts,rfl,hr,hb1⟩;have HR:=aa hr;obtain⟨ua,uc,rfl,_,_⟩:=hr.pl;clear hr;go_wp2;go_ret;refine⟨_,rfl,?_,HB0.o.trans (hb1.mono HB0.o.size)⟩;have hs:=HR.o.same;rw[Nat.sub_zero,ET] at hs;have e:=oM HP.o.1 (xL (λf hf=>(HF.o f hf).1)).len (xL (λf hf=>(HF.o f hf).1)).coef HR.o.canon hs;rw[<-e];exact HR.o.pl
def fR(ts:List Tm):Prop:=∀t∈ts,∀x∈t.2,0<=x/\x<=20000
theorem fR.bd{ts:List Tm}(h:fR ts):Bd ts:=λt ht x hx=>by have:=h t ht x hx;omega
theorem eA(ts:List Tm)(k:Nat)(h:k<ts.length):ts.getD k aM∈ts:=by rw[Hs,Ht h];simp
theorem rS:∀(a b:List Int),(∀x∈a,0<=x/\x<=20000)->(∀x∈b,0<=x/\x<=20000)->∀x∈ah (·+·) a b,0<=x/\x<=40000
 |[],_,_,_,x,hx=>by simp[ah] at hx
 |_::_,[],_,_,x,hx=>by simp[ah] at hx
 |a::ar,b::br,ha,hb,x,hx=>by
  simp only[ah,List.mem_cons] at hx;rcases hx with rfl|hx
  ·have:=ha a (by simp);have:=hb b (by simp);omega
  ·exact rS ar br (λy hy=>ha y (by simp[hy])) (λy hy=>hb y (by simp[hy])) x hx
theorem EX{p:Int}{t:Tm}{gs:List Tm}(ht:∀x∈t.2,0<=x/\x<=20000)(hg:fR gs):Bd (aT p t gs):=by intro u hu;simp only[aT,H8] at hu;obtain⟨g,hgm,rfl⟩:=hu;exact rS _ _ ht (hg g hgm)
theorem EY(p n o v:Int)(N i rb fb gb:Nat)(fv gv:Value)(fs gs:List Tm)(w:World)(hp:2<=p/\p<=101)(hN0:0<N)(hN:N<=3)(hf:bk p o N fs)(hg:bk p o N gs)(bf:fR fs)(bg:fR gs)(hm:gs.length<=1200000000000)(hi:i<fs.length)(hbx:aX w rb p n o v)(hcf:w.cell? ⟨fb,0,none⟩=some fv)(hcg:w.cell? ⟨gb,0,none⟩=some gv)(pf:Pl w fv fs)(pg:Pl w gv gs):Calls prog 315 #[.int .i64 i,.pointer (some ⟨rb,0,none⟩),.pointer (some ⟨fb,0,none⟩),.pointer (some ⟨gb,0,none⟩)] w λe w'=>∃u,e=.returned u/\Pl w' u (aT p (fs.getD i aM) gs)/\Below w.heap.size w w':=by
 have HPG:=aa pg;obtain⟨fa,fc,rfl,_,hfc⟩:=pf;obtain⟨ga,gc,rfl,_,_⟩:=pg;obtain⟨b,off,rfl,hlt,hat⟩:=hfc (by omega);obtain⟨c0,ev,c1,hse⟩:=hat i hi;obtain⟨bx,bx0,bx1,bx2,bx3⟩:=hbx;have HT:=aa (Hg (hf.coef _ (eA fs i hi)) (Hg (hf.len _ (eA fs i hi)) (bf _ (eA fs i hi))));have HG:Ic (∀t∈gs,t.2.length=N/\(∀x∈t.2,0<=x/\x<=20000)/\0<=t.1/\t.1<p):=λt ht=>⟨hg.len t ht,bg t ht,by have:=hg.coef t ht;omega,(hg.coef t ht).2⟩;generalize fs.getD i aM=t at c0 hse HT;obtain⟨tc,te⟩:=t;have HSE:=aa hse;obtain⟨ea,ec,rfl,_⟩:=hse;have HP:=aa hp;simp only at c0 c1;have hte0:0<te.length:=by have:=HT.o.2.1;simp only at this;omega
 have hte3:te.length<=3:=by have:=HT.o.2.1;simp only at this;omega
 have KEEP:Ic (∀W,Below w.heap.size w W->(Ic (Below w.heap.size w W)/\W.cell? ⟨rb,0,none⟩=some (.int .i64 p)/\W.cell? ⟨rb,1,none⟩=some (.int .i64 n)/\W.cell? ⟨rb,2,none⟩=some (.int .i64 o)/\W.cell? ⟨rb,3,none⟩=some (.int .i64 v)/\W.cell? ⟨fb,0,none⟩=some (.slice (some ⟨b,off,none⟩) fs.length fc)/\W.cell? ⟨gb,0,none⟩=some (.slice ga gs.length gc)/\W.cell? ⟨b,off+i*2,none⟩=some (.int .i64 tc)/\W.cell? ⟨b,off+i*2+1,none⟩=some (.slice ea te.length ec))):=
  λW hb=>⟨hb,ae bx0 hb,ae bx1 hb,ae bx2 hb,ae bx3 hb,ae hcf hb,ae hcg hb,ae c0 hb,ae c1 hb⟩
 clear hf hg bf bg hfc hat hp;go_enter func315,ntmps315;go_wp2;go_region_held (λW=>Ic (Below w.heap.size w W)/\W.cell? ⟨rb,0,none⟩=some (.int .i64 p)/\W.cell? ⟨rb,1,none⟩=some (.int .i64 n)/\W.cell? ⟨rb,2,none⟩=some (.int .i64 o)/\W.cell? ⟨rb,3,none⟩=some (.int .i64 v)/\W.cell? ⟨fb,0,none⟩=some (.slice (some ⟨b,off,none⟩) fs.length fc)/\W.cell? ⟨gb,0,none⟩=some (.slice ga gs.length gc)/\W.cell? ⟨b,off+i*2,none⟩=some (.int .i64 tc)/\W.cell? ⟨b,off+i*2+1,none⟩=some (.slice ea te.length ec))
  (first|exact KEEP.o _ (Hf _ _).drew|exact KEEP.o _ (gZ (by assumption) hb9 (He _)))
  (first|(go_at_call 316;refine(EP p n o v tc _ te _ gs _ HP.o ⟨by have:=HT.o.1;omega,HT.o.1.2⟩ hte0 hte3 HT.o.2.2 (λt ht=>⟨(HG.o t ht).1.trans HT.o.2.1.symm,(HG.o t ht).2⟩) hm ?_ ?_).mono ?_;exact HSE.o.below (Hf _ _).drew;exact HPG.o.below (Hf _ _).drew;rintro e w9 ⟨u,rfl,hu,hb9⟩;have HU:=aa hu;obtain⟨ua,uc,rfl,_,_⟩:=hu))
 have hb19:Below w.heap.size w w9:=Ic.o (And.left (by assumption));go_wp2;go_ret;exact⟨_,rfl,HU.o,hb19⟩
structure rT(w w0:World)(p n o v:Int)(fv gv:Value):Prop where
 below:Below w.heap.size w w0
 box:aX w0 w.heap.size p n o v
 cf:w0.cell? ⟨w.heap.size+1,0,none⟩=some fv
 cg:w0.cell? ⟨w.heap.size+1+1,0,none⟩=some gv
theorem xM{p n o v:Int}{N:Nat}{fv gv:Value}{fs gs:List Tm}{w w0:World}(he:aZ p=0)(ho:o=1\/o=2)(hN0:0<N)(hN:N<=3)(hf:bk p o N fs)(hg:bk p o N gs)(bf:fR fs)(bg:fR gs)(lf:fs.length<=2000)(lg:gs.length<=2000)(hb:rT w w0 p n o v fv gv)(pf:Pl w fv fs)(pg:Pl w gv gs):Calls prog 298 #[az p n o v,.int .i64 0,.int .i64 fs.length,.func (.func 315) #[] #[.pointer (some ⟨w.heap.size,0,none⟩),.pointer (some ⟨w.heap.size+1,0,none⟩),.pointer (some ⟨w.heap.size+1+1,0,none⟩)]] w0 λe w'=>∃u,e=.returned u/\Pl w' u (aG p o (aB p fs gs))/\Below w0.heap.size w0 w':=by
 have hp:=dU he;have H:∀i w',i<fs.length->Below w0.heap.size w0 w'->Calls prog 315 #[.int .i64 i,.pointer (some ⟨w.heap.size,0,none⟩),.pointer (some ⟨w.heap.size+1,0,none⟩),.pointer (some ⟨w.heap.size+1+1,0,none⟩)] w' λe w''=>∃u,e=.returned u/\Pl w'' u (aT p (fs.getD i aM) gs)/\Below w'.heap.size w' w'':=by intro i w' hi hbw;have hbb:=hb.below.trans (hbw.mono hb.below.size);exact EY p n o v N i _ _ _ fv gv fs gs w' hp hN0 hN hf hg bf bg (by omega) hi (hb.box.below hbw) (ae hb.cf hbw) (ae hb.cg hbw) (pf.below hbb) (pg.below hbb)
 have hF:∀i,i<fs.length->bk p o N (aT p (fs.getD i aM) gs)/\Bd (aT p (fs.getD i aM) gs)/\(aT p (fs.getD i aM) gs).length<=2000:=by intro i hi;have hm:=eA fs i hi;exact⟨xH he (hf.coef _ hm) (hf.len _ hm) hg,EX (bf _ hm) bg,by simp[aT];omega⟩
 have hL:fs.length*2000<=1200000000000:=by omega
 refine(ES p n o v N fs.length 2000 (λi=>aT p (fs.getD i aM) gs) _ _ _ w0 hp ho hN0 hN hF (by omega) hL H fs.length 0 fs.length w0 (by omega) (by omega) (He _) (Hf _ _)).mono ?_;rintro e w1 ⟨u,ts,rfl,hr,hb1⟩;refine⟨u,rfl,?_,hb1⟩;have hs:=hr.same;rw[Nat.sub_zero,EU] at hs;have ho:=hf.okl.prod hp.1 hg.okl;have e:=oM hp.1 ho.len ho.coef hr.canon hs;rw[<-e];exact hr.pl
theorem o9(p n o v:Int)(N:Nat)(fv gv:Value)(fs gs:List Tm)(w:World)(he:aZ p=0)(ho:o=1\/o=2)(hN0:0<N)(hN:N<=3)(hf:bk p o N fs)(hg:bk p o N gs)(bf:fR fs)(bg:fR gs)(lf:fs.length<=2000)(lg:gs.length<=2000)(pf:Pl w fv fs)(pg:Pl w gv gs):Calls prog 297 #[az p n o v,fv,gv] w λe w'=>∃u,e=.returned u/\Pl w' u (aG p o (aB p fs gs))/\Below w.heap.size w w':=by
 have HPF:=aa pf;have HPG:=aa pg;have HALL:=aa (Hg he (Hg ho (Hg hf (Hg hg (Hg bf bg)))));obtain⟨fa,fc,rfl,_,_⟩:=pf;obtain⟨ga,gc,rfl,_,_⟩:=pg;clear he ho hf hg bf bg;by_cases hlen:gs.length<fs.length
 ·have HB:Ic (∀T1 T2 T3,rT w ((((w.alloc (.cells #[.int .i64 p,.int .i64 n,.int .i64 o,.int .i64 v] T1)).alloc (.cells #[.slice ga gs.length gc] T2)).alloc (.cells #[.slice fa fs.length fc] T3))) p n o v (.slice ga gs.length gc) (.slice fa fs.length fc)):=by intro T1 T2 T3;exact⟨((cW).alloc (by simp;omega) _),⟨by simp;omega,by simp[go_sem],by simp[go_sem],by simp[go_sem],by simp[go_sem]⟩,by simp[go_sem],by simp[go_sem]⟩
  go_enter func297,ntmps297;go_wp2_with fail;refine(xM HALL.o.1 HALL.o.2.1 hN0 hN HALL.o.2.2.2.1 HALL.o.2.2.1 HALL.o.2.2.2.2.2 HALL.o.2.2.2.2.1 lg lf (HB.o _ _ _) HPG.o HPF.o).mono ?_;rintro e w1 ⟨u,rfl,hu,hb1⟩;rw[ED (dU HALL.o.1).1 HALL.o.2.2.2.1.okl HALL.o.2.2.1.okl] at hu;have HU:=aa hu;have HB1:=aa ((HB.o _ _ _).below.trans (hb1.mono (HB.o _ _ _).below.size));obtain⟨ua,uc,rfl,_,_⟩:=hu;clear hb1;go_wp2;go_ret;exact⟨_,rfl,HU.o,HB1.o⟩
 ·have HB:Ic (∀T1 T2 T3,rT w ((((w.alloc (.cells #[.int .i64 p,.int .i64 n,.int .i64 o,.int .i64 v] T1)).alloc (.cells #[.slice fa fs.length fc] T2)).alloc (.cells #[.slice ga gs.length gc] T3))) p n o v (.slice fa fs.length fc) (.slice ga gs.length gc)):=by intro T1 T2 T3;exact⟨((cW).alloc (by simp;omega) _),⟨by simp;omega,by simp[go_sem],by simp[go_sem],by simp[go_sem],by simp[go_sem]⟩,by simp[go_sem],by simp[go_sem]⟩
  go_enter func297,ntmps297;go_wp2_with fail;refine(xM HALL.o.1 HALL.o.2.1 hN0 hN HALL.o.2.2.1 HALL.o.2.2.2.1 HALL.o.2.2.2.2.1 HALL.o.2.2.2.2.2 lf lg (HB.o _ _ _) HPF.o HPG.o).mono ?_;rintro e w1 ⟨u,rfl,hu,hb1⟩;have HU:=aa hu;have HB1:=aa ((HB.o _ _ _).below.trans (hb1.mono (HB.o _ _ _).below.size));obtain⟨ua,uc,rfl,_,_⟩:=hu;clear hb1;go_wp2;go_ret;exact⟨_,rfl,HU.o,HB1.o⟩
end Go.Proofs.YtglijodcbdcngaaGreat
