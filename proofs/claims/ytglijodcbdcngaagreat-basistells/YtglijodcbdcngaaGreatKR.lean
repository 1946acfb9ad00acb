/- New pairs: those of a new member with the others, sorted, and those that are kept. -/
import Derived.Test.YtglijodcbdcngaaGreatKN
import Derived.Deep.RegionLaw
import Derived.Deep.RegionHeld
import Derived.BigQuiet
set_option maxHeartbeats 4000000
set_option maxRecDepth 100000
namespace Go.Proofs.YtglijodcbdcngaaGreat
set_option linter.unusedSimpArgs false
set_option linter.unusedVariables false
open Go.Proofs.Tryz Go.RowKit
theorem wC(w:World)(q:Pq)(T:TypeId):∀j u,(aI q)[j]?=some u->(w.alloc (.cells #[.pointer (some ⟨q.b1,0,none⟩),.pointer (some ⟨q.b2,0,none⟩),.int .u16 q.a,.int .u16 q.b,.int .u16 q.d,.int .u16 q.z,.int .i64 q.dg,.int .i64 q.k] T)).cell? ((⟨w.heap.size,0,none⟩:Addr).add j)=some u:=by
 intro j u hj;rw[Addr.add_lit,Hy]
 match j,hj with
 |0,hj=>rw[<-hj];simp[go_sem,aI]
 |1,hj=>rw[<-hj];simp[go_sem,aI]
 |2,hj=>rw[<-hj];simp[go_sem,aI]
 |3,hj=>rw[<-hj];simp[go_sem,aI]
 |4,hj=>rw[<-hj];simp[go_sem,aI]
 |5,hj=>rw[<-hj];simp[go_sem,aI]
 |6,hj=>rw[<-hj];simp[go_sem,aI]
 |7,hj=>rw[<-hj];simp[go_sem,aI]
 |j+8,hj=>simp[aI] at hj
theorem wD{w:World}(ty:TypeId)(B:Nat)(v:Value)(qs:List Pq)(h:bD B w v qs)(ad:Addr)(rs:List Pq)(c:Nat)(hr:0<rs.length)(hnew:∀j y,(ct rs)[j]?=some y->w.cell? (ad.add j)=some y)(hn:qs.length+rs.length<=600000000000)(hB:B<=w.heap.size):∃v' w',(Builtin.append_ #[95,95] ty #[v,.slice (some ad) rs.length c]).run prog w=.ok v' w'/\bD B w' v' (qs++rs)/\w.grownBy w' v.ownBlock/\(v'.ownBlock=v.ownBlock\/v'.ownBlock=some w.heap.size):=by obtain⟨i0,hi,hz0,hz1,hz2⟩:=info_parts Tryz.infoPr;obtain⟨v',w',hr2,h2,h3,h4,h5⟩:=qU (P:=prog) w dY B 95 ty 104 i0 _ 8 40 underlying95 hi hz0 hz1 hz2 rfl (by decide) (λu hu x e=>by subst e;simp[Value.cells] at hu) v qs.length (ct qs) h.own h.kd ad rs.length c (ct rs) hr (lF rs) hnew (CR rs) (CW rs) (by unfold maxLen;omega) (by omega) hB;refine⟨v',w',hr2,⟨?_,h4⟩,h3,h5⟩;rw[Hx,vV];exact h2
theorem wE{ops:Array Oper}{rest:List Oper}{w:World}{o:Oper}{a:Act}{Q:Exit->Act->World->Prop}(hgd:o.guard=none)(s x:Operand)(ho:o.op=.call {callee:=.builtin .append,args:=#[s,x],argTypes:=#[95,95]})(B:Nat)(v:Value)(qs:List Pq)(hs:a.eval s=v)(h:bD B w v qs)(ad:Addr)(rs:List Pq)(c:Nat)(hx:a.eval x=.slice (some ad) rs.length c)(hr:0<rs.length)(hnew:∀j y,(ct rs)[j]?=some y->w.cell? (ad.add j)=some y)(hn:qs.length+rs.length<=600000000000)(hB:B<=w.heap.size)(hK:∀v' w',bD B w' v' (qs++rs)->w.grownBy w' v.ownBlock->(v'.ownBlock=v.ownBlock\/v'.ownBlock=some w.heap.size)->wpList prog ops Q rest (a.put o.dst v') w'):wpList prog ops Q (o::rest) a w:=by refine wpList_plain hgd λK hK'=>?_;obtain⟨v',w',hrun,h2,h3,h4⟩:=wD o.type B v qs h ad rs c hr hnew hn hB;unfold Oper.wp execOp;simp only[ho,resolve,invoke,builtin,Sem.run_bind,Sem.run_pure,Result.andThen_ok,List.map_toArray,List.map_cons,List.map_nil,hs,hx,hrun];exact hK' _ _ (hK v' w' h2 h3 h4)
def ji(q r:Pq):Bool:=fX q.a q.b q.d q.z r.a r.b r.d r.z
theorem Dr(cb:Nat)(q r:Pq)(w:World)(hc:gU w cb 0 r):Calls prog 151 #[dw q,.pointer (some ⟨cb,0,none⟩)] w λe w'=>e=.returned (.bool (ji q r))/\Below w.heap.size w w':=by
 obtain⟨w1,hw1⟩:∃w1,w1=w.alloc (.cells #[.pointer (some ⟨q.b1,0,none⟩),.pointer (some ⟨q.b2,0,none⟩),.int .u16 q.a,.int .u16 q.b,.int .u16 q.d,.int .u16 q.z,.int .i64 q.dg,.int .i64 q.k] 104):=⟨_,rfl⟩;have HB1:Ic (Below w.heap.size w w1):=by rw[hw1];exact af
 have HX1:Ic (gU w1 w.heap.size 0 q):=by rw[hw1];exact(lO (He _) q).at
 have HC1:=aa (hc.keep HB1.o);obtain⟨c0,c1,c2,c3,c4,c5,c6,c7⟩:=HX1.o;obtain⟨d0,d1,d2,d3,d4,d5,d6,d7⟩:=HC1.o;simp only[Hy] at c0 c1 c2 c3 c4 c5 c6 c7 d0 d1 d2 d3 d4 d5 d6 d7;have HI:Ic (Calls prog 81 #[.agg #[.int .u16 q.a,.int .u16 q.b,.int .u16 q.d,.int .u16 q.z],.agg #[.int .u16 r.a,.int .u16 r.b,.int .u16 r.d,.int .u16 r.z]] w1 λe w'=>e=.returned (.bool (ji q r))/\Below w1.heap.size w1 w'):=qR _ _ _ _ _ _ _ _ w1;unfold dw;clear hc;go_enter func151,ntmps151;go_upto_region 1 with fail;rw[<-hw1];clear hw1;go_wp2_with (go_at_call 81;refine HI.o.mono ?_;rintro e w9 ⟨rfl,hb9⟩;have HB9:=aa hb9;clear hb9);go_ret;exact⟨rfl,HB1.o.trans (HB9.o.mono HB1.o.size)⟩
def bY:List Pq->List Pq->List Pq
 |kept,[]=>kept
 |kept,x::xs=>if kept.any (λq=>ji q x) then bY kept xs else bY (kept++[x]) xs
theorem Ds(kept:List Pq)(xs:List Pq)(k:Nat)(h:k<xs.length):bY kept (xs.drop k)=if kept.any (λq=>ji q xs[k]) then bY kept (xs.drop (k+1)) else bY (kept++[xs[k]]) (xs.drop (k+1)):=by rw[List.drop_eq_getElem_cons h];rfl
def jk(ms:List Mm)(pl:Nat):List Mm:=(bI ms pl).filter λx=>!x.gone
theorem n7:∀(xs kept:List Pq),(bY kept xs).length<=kept.length+xs.length
 |[],kept=>by simp[bY]
 |x::xs,kept=>by
  unfold bY;split
  ·have:=n7 xs kept;simp;omega
  ·have:=n7 xs (kept++[x]);simp at this⊢;omega
theorem Dt(p:Int)(B:Nat)(w:World)(mb ob R g:Nat)(dv pv sv:Value)(us:List Value)(ms:List Mm)(qs:List Pq)(f:Mm)(k0 k1 k2:Int)(dg:Nat->Int)(hm:bH p B w mb ob R g dv pv us ms qs)(hf:bN p B w f)(hob:aQ w ob p k0 k1 k2 sv)(hdg:fI w dv R dg)(hd:∀pl,pl<R->0<=dg pl/\dg pl<=100000)(hR:R<=255)(k0b:0<=k0/\k0<=137438953472)(k1b:0<=k1/\k1<=137438953472)(k2b:0<=k2/\k2<=137438953472)(bx:∀x∈ms,kO x.L)(bf:kO f.L)(hpl:0<=f.L.pl/\f.L.pl<R)(hml:ms.length<=1000):Calls prog 103 #[.pointer (some ⟨mb,0,none⟩),.pointer (some ⟨f.blk,0,none⟩)] w λe w'=>∃v,e=.returned v/\∃srt,srt.Perm ((jk ms f.L.pl.toNat).map λx=>dN k0 k1 k2 dg x f)/\bD w.heap.size w' v (bY [] srt)/\Below w.heap.size w w':=by
 obtain⟨n,hnpl⟩:∃n:Nat,f.L.pl=n:=⟨f.L.pl.toNat,by omega⟩;have htn:f.L.pl.toNat=n:=by omega
 have hnR:n<R:=by omega
 rw[htn];have HM:=aa hm;have HF:=aa hf;have HOB:=aa hob;have HDG:=aa hdg;obtain⟨m0,m1,m2,m3,m4⟩:=hm.cells;obtain⟨r0,r1⟩:=hm.mks.at n hnR;have hpt:=hm.mks.pts n hnR;have HSUB:Ic (∀x∈bI ms n,x∈ms):=λx hx=>(List.mem_filter.1 hx).1;have HPL:Ic (∀x∈bI ms n,x.L.pl=n):=λx hx=>by have:=(List.mem_filter.1 hx).2;simpa using this
 have hln:(bI ms n).length<=1000:=Hk (List.length_filter_le _ _) hml;obtain⟨ra,rc,hrow,hpts⟩:=hpt;rw[hrow] at r0;have HPTS:=aa hpts;have c5:=hf.mbr.div.cells.2.2.2.2.2.1;simp only[Hy] at c5;rw[hnpl] at c5;have hnI:(n:Int)<(R:Int):=by omega
 unfold jk;have HL:Ic (∀x∈bI ms n,bN p B w x/\kO x.L/\x.L.pl=n):=λx hx=>⟨hm.mks.mem x (HSUB.o x hx),bx x (HSUB.o x hx),HPL.o x hx⟩;clear hm hf hob hdg hpts hrow m0 m1 m3 m4 r1 htn hpl bx hml;generalize bI ms n=l at*;go_enter func103,ntmps103;go_upto_region 2 with fail;go_quiet (fail);clear m2 r0 c5;have HBQ:Ic (Below w.heap.size w (w.drewN nq)):=below_drewN (Hf _ _) _;go_wp2_with fail;go_loopw [5,24] (λva vi wr=>∃m:Nat,m<=l.length/\vi=.int .i64 m/\bD w.heap.size wr va (((l.take m).filter λx=>!x.gone).map λx=>dN k0 k1 k2 dg x f)/\Below w.heap.size w wr) (λ_ vi _=>l.length-(intOf vi).toNat);case atStart=>exact⟨0,Hl _,rfl,by simpa using bD.nil _ _,HBQ.o⟩
 case round=>
  clear HBQ;obtain⟨m,hml2,rfl,hpw,hbr⟩:=hrel;have HPW:=aa hpw;have HBR:=aa hbr;obtain⟨pa,pc,hpv⟩:=hpw.sl;rw[hpv];rw[hpv] at HPW;clear hpw hbr hpv;by_cases hm2:m<l.length
  ·obtain⟨b,off,rfl,hcell⟩:=HPTS.o m hm2;have c1:=ae hcell HBR.o;obtain⟨hmw,hex,hxpl⟩:=HL.o l[m] (Hp hm2);have HMX:=aa (hmw.next HBR.o).mbr;have HNP:=aa (C6 mb ob R p k0 k1 k2 sv dv dg l[m] f wr (ae HM.o.cells.1 HBR.o) (ae HM.o.cells.2.1 HBR.o) (HDG.o.below HBR.o) (HOB.o.below HBR.o) HMX.o (HF.o.next HBR.o).mbr hex bf ⟨by rw[hxpl];omega,by rw[hxpl];omega⟩ hR hd k0b k1b k2b);have HTS:Ic (l[m].gone=false->(((l.take (m+1)).filter λx=>!x.gone).map λx=>dN k0 k1 k2 dg x f)=(((l.take m).filter λx=>!x.gone).map λx=>dN k0 k1 k2 dg x f)++[dN k0 k1 k2 dg l[m] f]):=λh=>by rw[List.take_add_one,Ht hm2,List.filter_append,List.map_append];simp[h]
   have HTG:Ic (l[m].gone=true->(((l.take (m+1)).filter λx=>!x.gone).map λx=>dN k0 k1 k2 dg x f)=(((l.take m).filter λx=>!x.gone).map λx=>dN k0 k1 k2 dg x f)):=λh=>by rw[List.take_add_one,Ht hm2,List.filter_append,List.map_append];simp[h]
   have hlen1:(((l.take m).filter λx=>!x.gone).map λx=>dN k0 k1 k2 dg x f).length<=1000:=by rw[Ia];have:=List.length_filter_le (λx:Mm=>!x.gone) (l.take m);rw[List.length_take] at this;omega
   have hgc:=HMX.o.gone;have hmI:(m:Int)<(l.length:Int):=by omega
   generalize (((l.take m).filter λx=>!x.gone).map λx=>dN k0 k1 k2 dg x f)=al at HPW HTS HTG hlen1;generalize hx:l[m]=x at*;clear hcell hmw hex hxpl hx;cases hgo:x.gone with
   |true=>
    rw[hgo] at hgc;have HT2:=aa (HTG.o hgo);clear hgo HTS HTG;go_wp2_with fail;go_roundw;case rel=>exact⟨m+1,by omega,by go_num,by rw[HT2.o];exact HPW.o,HBR.o⟩
    case measure=>simp[intOf];omega
   |false=>
    rw[hgo] at hgc;have HT2:=aa (HTS.o hgo);clear hgo HTS HTG;generalize dN k0 k1 k2 dg x f=q at HNP HT2;unfold dw at HNP;go_wp2_with (first|(go_at_call 148;refine HNP.o.mono ?_;rintro e w9 ⟨rfl,hb9⟩;have HB9:=aa hb9;have HPA:=aa ((HPW.o.next hb9).next (af (A:=.cells #[.pointer (some ⟨q.b1,0,none⟩),.pointer (some ⟨q.b2,0,none⟩),.int .u16 q.a,.int .u16 q.b,.int .u16 q.d,.int .u16 q.z,.int .i64 q.dg,.int .i64 q.k] 104)));have HBA:Ic (Below wr.heap.size wr (w9.alloc (.cells #[.pointer (some ⟨q.b1,0,none⟩),.pointer (some ⟨q.b2,0,none⟩),.int .u16 q.a,.int .u16 q.b,.int .u16 q.d,.int .u16 q.z,.int .i64 q.dg,.int .i64 q.k] 104))/\w.heap.size<=(w9.alloc (.cells #[.pointer (some ⟨q.b1,0,none⟩),.pointer (some ⟨q.b2,0,none⟩),.int .u16 q.a,.int .u16 q.b,.int .u16 q.d,.int .u16 q.z,.int .i64 q.dg,.int .i64 q.k] 104)).heap.size):=⟨hb9.trans (af.mono hb9.size),by have:=HBR.o.size;have:=hb9.size;simp;omega⟩;have HE8:=aa (wC w9 q 104);clear hb9)|(at_builtin;refine wE rfl (.tmp 33) (.tmp 38) rfl w.heap.size _ al rfl HPA.o ⟨w9.heap.size,0,none⟩ [q] 1 rfl (by simp) (by simpa [ct] using HE8.o) (by simp;omega) HBA.o.2 ?_;intro v5 w5 q1 q2 q3;obtain⟨va5,vc5,hv5⟩:=q1.sl;subst hv5;have HP5:=aa q1;have HG5:=aa q2;clear q1 q2 q3));go_roundw;case rel=>refine⟨m+1,by omega,by go_num,by rw[HT2.o];have h9:=HP5.o;rw[Hx] at h9;exact h9,?_⟩;have hbw:Below w.heap.size w (w9.alloc (.cells #[.pointer (some ⟨q.b1,0,none⟩),.pointer (some ⟨q.b2,0,none⟩),.int .u16 q.a,.int .u16 q.b,.int .u16 q.d,.int .u16 q.z,.int .i64 q.dg,.int .i64 q.k] 104)):=HBR.o.trans (HBA.o.1.mono HBR.o.size);exact hbw.grown HG5.o HBA.o.2 λk hk=>(Hd HPA.o.own k hk).1
    case measure=>simp[intOf];omega
  ·have e:m=l.length:=by omega
   subst e;rw[Hz (He _)] at HPW⊢;have hlen1:(((l.filter λx=>!x.gone).map λx=>dN k0 k1 k2 dg x f)).length<=1000:=by rw[Ia];have:=List.length_filter_le (λx:Mm=>!x.gone) l;omega
   generalize hal:((l.filter λx=>!x.gone).map λx=>dN k0 k1 k2 dg x f)=al at HPW hlen1⊢;have HAL:=aa hal;clear hal;have HST:=aa (Dq w.heap.size _ al wr HPW.o (by omega));go_wp2_with (go_at_call 149;refine HST.o.mono ?_;rintro e w3 ⟨rfl,srt,q1,q2,q3⟩;have HPM:=aa q1;have HP3:=aa q2;have HB3:Ic (Below w.heap.size w w3):=HBR.o.trans (q3.to_below HBR.o.size λk hk=>(Hd HPW.o.own k hk).1);clear q1 q2 q3);have hsl:srt.length=al.length:=HPM.o.length_eq;have HSL:=aa hsl;clear hsl HST HPW;go_loopw [8,45] (λvk vi wr2=>∃(m:Nat)(kept:List Pq),m<=srt.length/\vi=.int .i64 m/\kept.length<=m/\bY kept (srt.drop m)=bY [] srt/\bD w.heap.size wr2 vk kept/\(∀k,vk.ownBlock=some k->(Value.slice pa al.length pc).ownBlock≠some k)/\bD w.heap.size wr2 (.slice pa al.length pc) srt/\Below w.heap.size w wr2) (λ_ vi _=>srt.length-(intOf vi).toNat);case atStart=>exact⟨0,[],Hl _,rfl,He _,rfl,bD.nil _ _,λk hk=>by simp[Value.ownBlock] at hk,HP3.o,HB3.o⟩
   case round=>
    clear HP3 HB3 HBR;rename World=>wr1;obtain⟨m,kept,hms,rfl,hkm,hgr,hkw,hkd,hall,hb1⟩:=hrel;have HKW:=aa hkw;have HKD:=aa hkd;have HALL:=aa hall;have HB1:=aa hb1;have HGR:=aa hgr;obtain⟨ka,kc,hkv⟩:=hkw.sl;subst hkv;clear hkw hkd hall hb1 hgr;by_cases hm2:m<srt.length
    ·have hma:m<al.length:=by have:=HSL.o;omega
     obtain⟨a2,c2,e2,h2⟩:=HALL.o.rq;simp only[H7] at e2;obtain⟨rfl,hlq,rfl⟩:=e2;clear hlq;obtain⟨b,off,rfl,hpq⟩:=h2 m hm2;obtain⟨f0,f1,f2,f3,f4,f5,f6,f7⟩:=hpq;have HST:=aa (Ds kept srt m hm2);have hmI:(m:Int)<(al.length:Int):=by omega
     obtain⟨w2,hw2⟩:∃w2,w2=wr1.alloc (.cells #[.pointer (some ⟨srt[m].b1,0,none⟩),.pointer (some ⟨srt[m].b2,0,none⟩),.int .u16 srt[m].a,.int .u16 srt[m].b,.int .u16 srt[m].d,.int .u16 srt[m].z,.int .i64 srt[m].dg,.int .i64 srt[m].k] 104):=⟨_,rfl⟩;have HB2:Ic (Below wr1.heap.size wr1 w2):=by rw[hw2];exact af
     have HX2:Ic (gU w2 wr1.heap.size 0 srt[m]):=by rw[hw2];exact(lO (He _) _).at
     have HCT:=aa (Da wr1.heap.size (λq r=>r=ji q srt[m]) (.slice ka kept.length kc) kept w2 (HKW.o.next HB2.o).rq (by omega) λW q hb hq=>(Dr wr1.heap.size q srt[m] W (HX2.o.keep hb)).mono λe w' h=>⟨_,h.1,rfl,h.2⟩);generalize srt[m]=x at*;clear h2;go_upto_region 13 with fail;rw[<-hw2];clear hw2 f0 f1 f2 f3 f4 f5 f6 f7;go_upto_region 14 with (go_at_call 63;refine HCT.o.mono ?_;rintro e w9 ⟨r9,rfl,q1,q2,q3⟩;have HR9:=aa (Hg q1 q2);have HB9:=aa (HB2.o.trans (q3.mono HB2.o.size));have HX9:=aa (HX2.o.keep q3);clear q1 q2 q3;cases r9)
     ·have hany:kept.any (λq=>ji q x)=false:=by rw[List.any_eq_false];intro q hq;have:=HR9.o.1 (by trivial) q hq;simp[<-this]
      rw[hany] at HST;have HG2:Ic (bY (kept++[x]) (srt.drop (m+1))=bY [] srt):=by show _=_;rw[<-HGR.o,HST.o];simp
      clear hany HST;obtain⟨y0,y1,y2,y3,y4,y5,y6,y7⟩:=HX9.o;simp only[Hy] at y0 y1 y2 y3 y4 y5 y6 y7;have HPA:=aa ((HKW.o.next HB9.o).next (af (A:=.cells #[.pointer (some ⟨x.b1,0,none⟩),.pointer (some ⟨x.b2,0,none⟩),.int .u16 x.a,.int .u16 x.b,.int .u16 x.d,.int .u16 x.z,.int .i64 x.dg,.int .i64 x.k] 104)));have HBA:Ic (Below wr1.heap.size wr1 (w9.alloc (.cells #[.pointer (some ⟨x.b1,0,none⟩),.pointer (some ⟨x.b2,0,none⟩),.int .u16 x.a,.int .u16 x.b,.int .u16 x.d,.int .u16 x.z,.int .i64 x.dg,.int .i64 x.k] 104))/\w.heap.size<=(w9.alloc (.cells #[.pointer (some ⟨x.b1,0,none⟩),.pointer (some ⟨x.b2,0,none⟩),.int .u16 x.a,.int .u16 x.b,.int .u16 x.d,.int .u16 x.z,.int .i64 x.dg,.int .i64 x.k] 104)).heap.size):=⟨HB9.o.trans (af.mono HB9.o.size),by have:=HB1.o.size;have:=HB9.o.size;simp;omega⟩;have HE8:=aa (wC w9 x 104);have HAL9:=aa (HALL.o.next HBA.o.1);have HBW:=aa (HB1.o.trans (HBA.o.1.mono HB1.o.size));go_wp2_with (at_builtin;refine wE rfl (.tmp 53) (.tmp 55) rfl w.heap.size _ kept rfl HPA.o ⟨w9.heap.size,0,none⟩ [x] 1 rfl (by simp) (by simpa [ct] using HE8.o) (by simp;omega) HBA.o.2 ?_;intro v5 w5 q1 q2 q3;obtain⟨va5,vc5,hv5⟩:=q1.sl;subst hv5;have HP5:=aa q1;have HG5:=aa q2;have HL5:=aa q3;clear q1 q2 q3);go_roundw;case rel=>
       refine⟨m+1,kept++[x],by omega,by go_num,by simp;omega,HG2.o,by have h9:=HP5.o;rw[Hx] at h9;exact h9,λk hk=>?_,?_,HBW.o.grown HG5.o HBA.o.2 λk hk=>(Hd HPA.o.own k hk).1⟩
       ·have hL:=HL5.o;have hk2:(Value.slice va5 (kept++[x]).length vc5).ownBlock=some k:=by rw[<-hk];cases va5<;>rfl
        rcases hL with e|e
        ·rw[e] at hk2;exact HKD.o k hk2
        ·rw[e] at hk2;simp only[H6] at hk2;intro e2;have:=(Hd HAL9.o.own k e2).2;omega
       ·exact HAL9.o.frm (ao.of_grown (S:=λk=>(Value.slice ka kept.length kc).ownBlock=some k) HG5.o λk e=>e) λk hk e=>HKD.o k e hk
      case measure=>simp[intOf];omega
     ·have hany:kept.any (λq=>ji q x)=true:=by obtain⟨q,hq,e⟩:=HR9.o.2 (by trivial);exact List.any_eq_true.2 ⟨q,hq,e.symm⟩
      rw[hany] at HST;have HG2:Ic (bY kept (srt.drop (m+1))=bY [] srt):=by show _=_;rw[<-HGR.o,HST.o];simp
      clear hany HST;go_wp2_with fail;go_roundw;case rel=>exact⟨m+1,kept,by omega,by go_num,by omega,HG2.o,HKW.o.next HB9.o,HKD.o,HALL.o.next HB9.o,HB1.o.trans (HB9.o.mono HB1.o.size)⟩
      case measure=>simp[intOf];omega
    ·have e:m=srt.length:=by omega
     subst e;have HE:=HGR.o;rw[List.drop_of_length_le (He _)] at HE;have HEE:=aa HE;clear HE;have hsI:¬(srt.length:Int)<(al.length:Int):=by have:=HSL.o;omega
     go_wp2;go_ret;refine⟨_,rfl,srt,by rw[HAL.o];exact HPM.o,?_,HB1.o⟩;rw[<-HEE.o];exact HKW.o
theorem Tryz.infoPm:(prog.info? 102).map (λi=>(i.zero,i.size,i.bytes))=some (some (.pointer none),1,8):=by kernel_rfl
theorem Du(ms:List Mm)(f:Mm)(pl:Nat):bI (ms++[f]) pl=if f.L.pl=pl then bI ms pl++[f] else bI ms pl:=by
 unfold bI;rw[List.filter_append];by_cases h:f.L.pl=pl
 ·rw[if_pos h];simp[h]
 ·rw[if_neg h];simp[h]
theorem uy{w:World}(ty:TypeId)(B:Nat)(v:Value)(l:List Mm)(f:Mm)(h:w.ownsRow B 102 1 v l.length (l.map fK))(hk:∀g,v.ownBlock=some g->bO dY w g)(ad:Addr)(c:Nat)(hnew:w.cell? ad=some (fK f))(hn:l.length<=600000000000)(hB:B<=w.heap.size):∃v' w',(Builtin.append_ #[150,150] ty #[v,.slice (some ad) 1 c]).run prog w=.ok v' w'/\w'.ownsRow B 102 1 v' (l++[f]).length ((l++[f]).map fK)/\w.grownBy w' v.ownBlock/\(∀g,v'.ownBlock=some g->bO dY w' g)/\(v'.ownBlock=v.ownBlock\/v'.ownBlock=some w.heap.size):=by
 obtain⟨i0,hi,hz0,hz1,hz2⟩:=info_parts Tryz.infoPm;obtain⟨v',w',hr2,h2,h3,h4,h5⟩:=qU (P:=prog) w dY B 150 ty 102 i0 _ 1 8 underlying150 hi hz0 hz1 hz2 rfl (by decide) (λu hu x e=>by subst e;simp[Value.cells] at hu) v l.length (l.map fK) h hk ad 1 c [fK f] (by decide) rfl (λj u hj=>by
  match j,hj with
  |0,hj=>
   have e:ad.add 0=ad:=by cases ad;unfold Addr.add;split<;>simp_all
   rw[e,hnew];exact hj) (λu hu=>by rw[Hw] at hu;subst hu;rfl) (λu hu x e=>by rw[Hw] at hu;subst hu;simp[fK] at e) (by unfold maxLen;omega) (by omega) hB
 refine⟨v',w',hr2,?_,h3,h4,h5⟩;rw[Hx,List.map_append];exact h2
theorem ei.snoc{p:Int}{B:Nat}{w w5:World}{R g:Nat}{us:List Value}{ms:List Mm}{f:Mm}{n:Nat}{v5:Value}(h:ei p B w R g us ms)(hf:bN p B w f)(hfd:∀x∈ms,x.blk≠f.blk)(hB:B<=w.heap.size)(hn:n<R)(hpl:f.L.pl=n)(h5:w5.ownsRow B 102 1 v5 (bI ms n++[f]).length ((bI ms n++[f]).map fK))(hg5:w.grownBy w5 (us.getD n aP).ownBlock)(hk5:∀k,v5.ownBlock=some k->bO dY w5 k)(hl5:v5.ownBlock=(us.getD n aP).ownBlock\/v5.ownBlock=some w.heap.size):ei p B (w5.setCell ⟨g,n,none⟩ v5) R g (us.set n v5) (ms++[f])/\ao (λk=>k=g\/(us.getD n aP).ownBlock=some k) w (w5.setCell ⟨g,n,none⟩ v5):=by
 have hul:us.length=R:=by have:=h.o.1;omega
 have hrow:=h.row n hn;have hf5:ao (λk=>(us.getD n aP).ownBlock=some k) w w5:=ao.of_grown hg5 λk e=>e;have hTr:∀{T:TypeId},102≠T->∀k,(us.getD n aP).ownBlock=some k->cX w T k:=λhT k hk=>bM hrow hk hT;have hout5:=eh hf5 h.o (hTr (by decide));have hst:=Hq hout5 n v5;have hf6:ao (λk=>k=g) w5 (w5.setCell ⟨g,n,none⟩ v5):=ao.of_grown hst.2 λk e=>by simpa using e.symm
 have hTg:∀{T:TypeId},150≠T->∀k,k=g->cX w5 T k:=λhT k e=>by subst e;exact bM hout5 rfl hT
 have hff:ao (λk=>k=g\/(us.getD n aP).ownBlock=some k) w (w5.setCell ⟨g,n,none⟩ v5):=(hf5.wide (T:=λk=>k=g\/(us.getD n aP).ownBlock=some k) λ_ _ h=>Or.inr h).trans hf6 λk _ e=>Or.inl e;have hkg5:bO dY w5 g:=by refine hf5.kdb h.okd (Hd h.o g rfl).2 λe=>?_;obtain⟨ai,e2⟩:=cD h.o (g:=g) rfl;exact hTr (T:=150) (by decide) g e ai e2
 have hnb:dY v5:=by obtain⟨a,c,e⟩:=cq h5;intro x ex;rw[e] at ex;simp at ex
 have h8:cO w (w5.setCell ⟨g,n,none⟩ v5):=(cO.of_frm hf5 λk hk=>h.rkd n hn k hk).trans (cO.of_frm hf6 λk hk=>by rw[hk];exact hkg5);have hgd:∀j,(us.set n v5).getD j aP=if j=n then v5 else us.getD j aP:=λj=>by
  rw[gD];by_cases e:n=j
  ·subst e;rw[if_pos ⟨rfl,by omega⟩,if_pos rfl]
  ·rw[if_neg (λh=>e h.1),if_neg (λh=>e h.symm)]
 have hmw:∀y,bN p B w y->bN p B (w5.setCell ⟨g,n,none⟩ v5) y:=λy hy=>hy.frm hff h8 λhs=>by
  rcases hs with e|e
  ·exact hy.nob h.okd e
  ·exact hy.nob (h.rkd n hn _ e) rfl
 refine⟨⟨hst.1,jt hkg5 hnb,λj hj=>?_,λj hj k hk=>?_,λi j hi hj hne k hki hkj=>?_,λx hx=>?_,?_⟩,hff⟩
 ·rw[hgd,Du];by_cases e:j=n
  ·subst e;rw[if_pos rfl,if_pos hpl];exact eh hf6 h5 (hTg (by decide))
  ·rw[if_neg e,if_neg (by omega)];refine eh hf6 (hf5.own (h.row j hj) λk hk=>?_) (hTg (by decide));exact h.dis j n hj hn e k hk
 ·rw[hgd] at hk;by_cases e:j=n
  ·rw[if_pos e] at hk;refine hf6.kdb (hk5 k hk) (Hd h5 k hk).2 λe2=>?_;obtain⟨ai,e3⟩:=cD h5 hk;exact hTg (T:=102) (by decide) k e2 ai e3
  ·rw[if_neg e] at hk;have h1:bO dY w5 k:=hf5.kdb (h.rkd j hj k hk) (Hd (h.row j hj) k hk).2 (h.dis j n hj hn e k hk);have ho5:w5.ownsRow B 102 1 (us.getD j aP) _ _:=hf5.own (h.row j hj) λk hk=>h.dis j n hj hn e k hk;refine hf6.kdb h1 (Hd ho5 k hk).2 λe2=>?_;obtain⟨ai,e3⟩:=cD ho5 hk;exact hTg (T:=102) (by decide) k e2 ai e3
 ·rw[hgd] at hki hkj;by_cases e1:i=n
  ·have e2:j≠n:=by omega
   rw[if_pos e1] at hki;rw[if_neg e2] at hkj;rcases hl5 with e|e
   ·rw[e] at hki;exact h.dis n j hn hj (by omega) k hki hkj
   ·rw[e] at hki;simp only[H6] at hki;have:=(Hd (h.row j hj) k hkj).2;omega
  ·rw[if_neg e1] at hki;by_cases e2:j=n
   ·rw[if_pos e2] at hkj;rcases hl5 with e|e
    ·rw[e] at hkj;exact h.dis i n hi hn e1 k hki hkj
    ·rw[e] at hkj;simp only[H6] at hkj;have:=(Hd (h.row i hi) k hki).2;omega
   ·rw[if_neg e2] at hkj;exact h.dis i j hi hj hne k hki hkj
 ·rcases Hv.1 hx with hx|hx
  ·exact hmw x (h.mem x hx)
  ·rw[Hw] at hx;subst hx;exact hmw _ hf
 ·rw[List.map_append];refine List.nodup_append.2 ⟨h.nd,by simp,λa ha b hb=>?_⟩;simp at hb;obtain⟨x,hx,rfl⟩:=H8.1 ha;rw[hb];exact hfd x hx
theorem ux(w:World)(b:Nat)(T:TypeId):(w.alloc (.cells #[.pointer (some ⟨b,0,none⟩)] T)).cell? ⟨w.heap.size,0,none⟩=some (.pointer (some ⟨b,0,none⟩)):=by simp[go_sem]
theorem Dw(p:Int)(B:Nat)(w:World)(mb ob R g:Nat)(dv pv:Value)(us:List Value)(ms:List Mm)(qs:List Pq)(f:Mm)(hm:bH p B w mb ob R g dv pv us ms qs)(hf:bN p B w f)(hfd:∀x∈ms,x.blk≠f.blk)(hB:B<=w.heap.size)(hpl:0<=f.L.pl/\f.L.pl<R)(hml:ms.length<=1000)(hR:R<=255):Calls prog 105 #[.pointer (some ⟨mb,0,none⟩),.pointer (some ⟨f.blk,0,none⟩)] w λe w'=>e=.returned (.tuple #[])/\∃us',bH p B w' mb ob R g dv pv us' (ms++[f]) qs/\Below B w w'/\bS w w':=by
 obtain⟨n,hnpl⟩:∃n:Nat,f.L.pl=n:=⟨f.L.pl.toNat,by omega⟩;have hnR:n<R:=by omega
 obtain⟨w1,hw1⟩:∃w1,w1=(w.alloc (.cells #[.pointer (some ⟨f.blk,0,none⟩)] 102)).drew:=⟨_,rfl⟩;have HB1:Ic (Below w.heap.size w w1):=by rw[hw1];exact(af (w:=w)).drew
 have HM1:=aa (hm.next HB1.o);have HF1:=aa (hf.next HB1.o);have hB1:B<=w1.heap.size:=Hk hB HB1.o.size;have hc1:w1.cell? ⟨w.heap.size,0,none⟩=some (fK f):=by rw[hw1];exact ux w _ _
 obtain⟨v5,w5,hap,h5,hg5,hk5,hl5⟩:=uy 150 B (us.getD n aP) (bI ms n) f (HM1.o.mks.row n hnR) (HM1.o.mks.rkd n hnR) ⟨w.heap.size,0,none⟩ 1 hc1 (by have:=List.length_filter_le (λx:Mm=>decide (x.L.pl=n)) ms;unfold bI;omega) hB1;have hsn:=HM1.o.mks.snoc HF1.o hfd hB1 hnR hnpl h5 hg5 hk5 hl5;have hS:∀{T:TypeId},150≠T->102≠T->∀k,(k=g\/(us.getD n aP).ownBlock=some k)->cX w1 T k:=fun {T} t1 t2 k hk=>by
  rcases hk with e|e
  ·subst e;exact bM HM1.o.mks.o rfl t1
  ·exact bM (HM1.o.mks.row n hnR) e t2
 have HFIN:Ic (bH p B (w5.setCell ⟨g,n,none⟩ v5) mb ob R g dv pv (us.set n v5) (ms++[f]) qs/\Below B w (w5.setCell ⟨g,n,none⟩ v5)/\bS w (w5.setCell ⟨g,n,none⟩ v5)):=by
  refine⟨⟨eh hsn.2 HM1.o.box (hS (by decide) (by decide)),HM1.o.dvs,hsn.1,HM1.o.prs.frm hsn.2 λk hk hs=>?_⟩,(HB1.o.mono hB).trans (hsn.2.to_below hB1 λk hk=>?_),(bS.of_below HB1.o).trans (bS.of_frm hsn.2 (hS (by decide) (by decide)))⟩
  ·obtain⟨ai,e2⟩:=cD HM1.o.prs.own hk;exact hS (T:=104) (by decide) (by decide) k hs ai e2
  ·rcases hk with rfl|hk
   ·exact(Hd HM1.o.mks.o k rfl).1
   ·exact(Hd (HM1.o.mks.row n hnR) k hk).1
 have hf5:ao (λk=>(us.getD n aP).ownBlock=some k) w1 w5:=ao.of_grown hg5 λk e=>e;have hfar:∀{T:TypeId}{bb:Value}{kk ss nn:Nat}{xs:List Value},102≠T->w1.ownsRow B T ss (.slice (some ⟨kk,0,none⟩) nn nn) nn xs->¬(us.getD n aP).ownBlock=some kk:=fun {T bb kk ss nn xs} t1 ho e=>by obtain⟨ai,e2⟩:=cD ho (g:=kk) rfl;exact bM (HM1.o.mks.row n hnR) e t1 ai e2
 obtain⟨_,_,m2,_,_⟩:=hm.cells;obtain⟨r0,r1⟩:=hm.mks.at n hnR;have c5:=hf.mbr.div.cells.2.2.2.2.2.1;simp only[Hy] at c5;rw[hnpl] at c5;have a2:=ae m2 HB1.o;have a0:=ae r0 HB1.o;have a5:=ae c5 HB1.o;have b2:=hf5.cell a2 (hfar (bb:=aP) (by decide) HM1.o.box);have b0:=hf5.cell a0 (hfar (bb:=aP) (by decide) HM1.o.mks.o);have b5:=hf5.cell a5 (hfar (bb:=aP) (by decide) HF1.o.own);have bz:w5.frozen? ⟨g,n,none⟩=false:=by have ho:=eh hf5 HM1.o.mks.o λk hk=>bM (HM1.o.mks.row n hnR) hk (by decide);exact Hb ho n
 have hnI:(n:Int)<(R:Int):=by omega
 obtain⟨ra,rc,hrow⟩:=cq (HM1.o.mks.row n hnR);obtain⟨va,vc,hv5⟩:=cq h5;rw[jT] at hv5;subst hv5;rw[hrow] at hap r0 a0 b0;unfold fK at hc1;clear hm hf hfd HM1 HF1 hsn hS hf5 hfar h5 hg5 hk5 hl5 hpl hml r1;subst hw1;have d2:(w.alloc (.cells #[.pointer (some ⟨f.blk,0,none⟩)] 102)).cell? _=some _:=a2;have d0:(w.alloc (.cells #[.pointer (some ⟨f.blk,0,none⟩)] 102)).cell? _=some _:=a0;have d5:(w.alloc (.cells #[.pointer (some ⟨f.blk,0,none⟩)] 102)).cell? _=some _:=a5;simp[go_sem] at hap;go_enter func105,ntmps105;go_region;clear hap;go_end0;exact⟨rfl,_,HFIN.o⟩
theorem uh{P:Program}(w:World)(base:Nat)(t ty e:TypeId)(i:TypeInfo)(size:Nat)(ht:P.underlying t=some (.slice e))(hi:P.info? e=some i)(v:Value)(n c:Nat)(a:Option Addr)(xs:List Value)(hown:w.ownsRow base e size v n xs):(Builtin.append_ #[t,t] ty #[v,.slice a 0 c]).run P w=.ok v w:=by
 cases a with
 |none=>exact nQ w base t ty e i size ht hi v n c xs hown
 |some ad=>
  rcases hown.2 with ⟨rfl,rfl⟩|⟨g,cap,ai,rfl,_,_,hnc,_⟩
  ·simp[Builtin.append_,run_underlying ht,sizeOf,typeInfo,hi,Builtin.lenOf,Builtin.firstCells,loadCells,loadCellsFrom]
  ·simp[Builtin.append_,run_underlying ht,sizeOf,typeInfo,hi,Builtin.lenOf,Builtin.firstCells,hnc,storeCells,loadCells,loadCellsFrom]
theorem bH.app{p:Int}{B:Nat}{w w3:World}{mb ob R g:Nat}{dv pv v3:Value}{us:List Value}{ms:List Mm}{qs rs:List Pq}{f:Mm}(hm:bH p B w mb ob R g dv pv us ms qs)(hf:bN p B w f)(hB:B<=w.heap.size)(hp:bD w.heap.size w3 v3 rs)(hb:Below w.heap.size w w3)(hn:qs.length+rs.length<=600000000000):∃v4 w4,(Builtin.append_ #[95,95] 95 #[pv,v3]).run prog w3=.ok v4 w4/\w3.cell? ⟨mb,3,none⟩=some pv/\w4.cell? ⟨mb,3,none⟩=some pv/\w4.frozen? ⟨mb,3,none⟩=false/\(∃a c,v4=.slice a (qs++rs).length c)/\bH p B (w4.setCell ⟨mb,3,none⟩ v4) mb ob R g dv v4 us ms (qs++rs)/\bN p B (w4.setCell ⟨mb,3,none⟩ v4) f/\Below B w (w4.setCell ⟨mb,3,none⟩ v4)/\bS w (w4.setCell ⟨mb,3,none⟩ v4):=by
 have hm3:=hm.next hb;have hf3:=hf.next hb;have hB3:B<=w3.heap.size:=Hk hB hb.size;have FIN:∀v4 w4,bD B w4 v4 (qs++rs)->ao (λk=>pv.ownBlock=some k) w3 w4->w3.cell? ⟨mb,3,none⟩=some pv/\w4.cell? ⟨mb,3,none⟩=some pv/\w4.frozen? ⟨mb,3,none⟩=false/\(∃a c,v4=.slice a (qs++rs).length c)/\
   bH p B (w4.setCell ⟨mb,3,none⟩ v4) mb ob R g dv v4 us ms (qs++rs)/\bN p B (w4.setCell ⟨mb,3,none⟩ v4) f/\Below B w (w4.setCell ⟨mb,3,none⟩ v4)/\bS w (w4.setCell ⟨mb,3,none⟩ v4):=λv4 w4 h1 h2=>by
  have hbx:w4.ownsRow B 98 5 (jq mb) 1 (gS ob g R dv pv):=eh h2 hm3.box λk hk=>bM hm3.prs.own hk (by decide);obtain⟨r1,r2,r3⟩:=hm3.repair hB3 h2 h1;refine⟨hm3.cells.2.2.2.1,?_,Hb hbx 3,h1.sl,r1,?_,(hb.mono hB).trans r3,(bS.of_below hb).trans (bS.of_frm r2 λk hk=>?_)⟩
  rotate_right
  ·rcases hk with rfl|hk
   ·exact bM hm3.box rfl (by decide)
   ·exact bM hm3.prs.own hk (by decide)
  ·have:=Hc hbx 3 (by omega);rw[this];rfl
  ·refine hf3.frm r2 (cO.of_frm r2 λk hk=>?_) λhs=>?_
   ·rcases hk with rfl|hk
    ·exact hm3.kd
    ·exact hm3.prs.kd k hk
   ·rcases hs with e|e
    ·exact hf3.nob hm3.kd e
    ·exact hf3.nob (hm3.prs.kd _ e) rfl
 by_cases h0:rs.length=0
 ·have e:rs=[]:=List.eq_nil_of_length_eq_zero h0;subst e;obtain⟨a,c,rfl⟩:=hp.sl;obtain⟨i0,hi,_,_,_⟩:=info_parts Tryz.infoPr;refine⟨pv,w3,uh w3 B _ _ _ i0 8 underlying95 hi pv qs.length c a (ct qs) hm3.prs.own,FIN pv w3 (by rw[List.append_nil];exact hm3.prs) (ao.refl _ _)⟩
 ·rcases hp.own.2 with ⟨h1,h2⟩|⟨g2,cap,ai,rfl,_⟩
  ·exfalso;exact h0 (by simpa [lF] using h2)
  ·obtain⟨v4,w4,hr,h1,h2,_⟩:=wD 95 B pv qs hm3.prs ⟨g2,0,none⟩ rs cap (by omega) (λj y hj=>by
    have hlen:(ct rs).length=rs.length*8:=lF rs;have hj8:j<rs.length*8:=by rw[<-hlen];exact(List.getElem?_eq_some_iff.1 hj).1
    have:=Hc hp.own j (by omega);rw[hj] at this;by_cases ej:j=0
    ·subst ej;simpa [Addr.add] using this
    ·simpa [Addr.add,ej] using this) hn hB3
   exact⟨v4,w4,hr,FIN v4 w4 h1 (ao.of_grown h2 λk e=>e)⟩
theorem bH.put{p:Int}{B:Nat}{w:World}{mb ob R g:Nat}{dv pv:Value}{us:List Value}{ms:List Mm}{qs:List Pq}{f x:Mm}(hm:bH p B w mb ob R g dv pv us ms qs)(hf:bN p B w f)(hB:B<=w.heap.size)(hx:x∈ms)(hfx:f.blk≠x.blk)(c:Bool):bH p B (w.setCell ⟨x.blk,10,none⟩ (.bool c)) mb ob R g dv pv us (ms.map (fq x.blk c)) qs/\bN p B (w.setCell ⟨x.blk,10,none⟩ (.bool c)) f/\Below B w (w.setCell ⟨x.blk,10,none⟩ (.bool c))/\bS w (w.setCell ⟨x.blk,10,none⟩ (.bool c)):=by
 obtain⟨h1,h2,h8⟩:=(hm.mks.mem x hx).put c;have hfr:ao (λk=>k=x.blk) w (w.setCell ⟨x.blk,10,none⟩ (.bool c)):=ao.of_grown h2 λk e=>by simpa using e.symm
 have hT:∀{T:TypeId},154≠T->∀k,k=x.blk->cX w T k:=λhT k e=>by subst e;exact bM (hm.mks.mem x hx).own rfl hT
 refine⟨⟨eh hfr hm.box (hT (by decide)),hm.dvs,hm.mks.put hx c,hm.prs.frm hfr λk hk e=>?_⟩,hf.frm hfr h8 hfx,hfr.to_below hB λk hk=>?_,bS.of_frm hfr (hT (by decide))⟩
 ·obtain⟨ai,e2⟩:=cD hm.prs.own hk;exact hT (T:=104) (by decide) k e ai e2
 ·subst hk;exact(hm.mks.mem x hx).lt.1
theorem kK{ms:List Mm}{x y:Mm}(hnd:(ms.map Mm.blk).Nodup)(hx:x∈ms)(hy:y∈ms)(e:x.blk=y.blk):x=y:=by
 induction ms with
 |nil=>simp at hx
 |cons z zs ih=>
  rw[List.map_cons,List.nodup_cons] at hnd;rcases List.mem_cons.1 hx with rfl|hx2
  ·rcases List.mem_cons.1 hy with rfl|hy2
   ·rfl
   ·exact absurd (H8.2 ⟨y,hy2,e.symm⟩) hnd.1
  ·rcases List.mem_cons.1 hy with rfl|hy2
   ·exact absurd (H8.2 ⟨x,hx2,e⟩) hnd.1
   ·exact ih hnd.2 hx2 hy2
def kJ(L:Ft)(x:Mm):Mm:={x with gone:=x.gone||dE L x.L}
def em(L:Ft)(bs:List Nat)(x:Mm):Mm:=if x.blk∈bs then kJ L x else x
theorem wF(L:Ft)(bs:List Nat)(x:Mm):(em L bs x).L=x.L/\(em L bs x).blk=x.blk:=by unfold em kJ;split<;>simp
theorem Dx{L:Ft}{ms:List Mm}{bs:List Nat}{x:Mm}(hnd:(ms.map Mm.blk).Nodup)(hx:x∈ms)(hb:x.blk∉bs):(ms.map (em L bs)).map (fq x.blk (x.gone||dE L x.L))=ms.map (em L (bs++[x.blk])):=by
 rw[List.map_map];refine List.map_congr_left λy hy=>?_;by_cases e:y.blk=x.blk
 ·have exy:y=x:=kK hnd hy hx e;subst exy;simp[em,kJ,fq,hb]
 ·have e2:y.blk≠x.blk:=e;by_cases h:y.blk∈bs
  ·simp[em,kJ,fq,h,e2]
  ·simp[em,fq,h,e2]
def cE(L:Ft)(x:Mm):Mm:=if x.L.pl=L.pl then kJ L x else x
theorem Dy{L:Ft}{ms:List Mm}{n:Nat}(hL:L.pl=n)(hnd:(ms.map Mm.blk).Nodup):ms.map (em L ((bI ms n).map Mm.blk))=ms.map (cE L):=by
 refine List.map_congr_left λy hy=>?_;unfold em cE;have:y.blk∈(bI ms n).map Mm.blk↔y.L.pl=L.pl:=by
  rw[hL];constructor
  ·intro h;obtain⟨x,hx,e⟩:=H8.1 h;have:=kK hnd (List.mem_filter.1 hx).1 hy e;subst this;simpa using (List.mem_filter.1 hx).2
  ·intro h;exact H8.2 ⟨y,List.mem_filter.2 ⟨hy,by simpa using h⟩,rfl⟩
 simp[this]
def lk(ms:List Mm)(b:Nat):Ft:=((ms.find? λx=>x.blk==b).map Mm.L).getD ⟨0,0,0,0,0,0,0⟩
theorem n5{ms:List Mm}{x:Mm}(hnd:(ms.map Mm.blk).Nodup)(hx:x∈ms):lk ms x.blk=x.L:=by
 unfold lk;cases h:ms.find? λy=>y.blk==x.blk with
 |none=>have:=List.find?_eq_none.1 h x hx;simp at this
 |some y=>have h1:=List.mem_of_find?_eq_some h;have h2:=List.find?_some h;have:=kK hnd h1 hx (by simpa using h2);subst this;rfl
def io(ms:List Mm)(L:Ft)(q:Pq):Bool:=lE (lk ms q.b1) (lk ms q.b2) L q
theorem qj{P:Program}{ops:Array Oper}{o:Oper}{a:Act}{w w':World}{K:Act->World->Prop}{Q:Exit->Act->World->Prop}{E:Prop}(hgd:o.guard=none)(s x:Operand)(t ty:TypeId)(ho:o.op=.call {callee:=.builtin .append,args:=#[s,x],argTypes:=#[t,t]})(hty:o.type=ty)(v u v':Value)(hs:a.eval s=v)(hx:a.eval x=u)(hrun:(Builtin.append_ #[t,t] ty #[v,u]).run P w=.ok v' w')(hK:K (a.put o.dst v') w'):if Region.wanted o (yielded ops a.tmps)=true then Oper.wp P o a w K Q else E:=by
 have hw:Region.wanted o (yielded ops a.tmps)=true:=by simp[Region.wanted,hgd]
 rw[if_pos hw];subst hty;unfold Oper.wp execOp;simp only[ho,resolve,invoke,builtin,Sem.run_bind,Sem.run_pure,Result.andThen_ok,List.map_toArray,List.map_cons,List.map_nil,hs,hx,hrun];exact hK
theorem fP{P:Program}{ops:Array Oper}{Q:Exit->Act->World->Prop}{md:Region.Mode}{S:World->Prop}{i:Nat}{oi:Oper}{d:Option Tmp}{v:Value}{fuel:Nat}{listed:Array Bool}{a:Act}{w:World}(hi:ops[i]?=some oi)(hd:oi.dst=d)(hs:Region.noSelect ops=true)(hf:Region.free md ops listed i=true)(hr:(Region.ready md ops listed).contains i=true)(hQ:∀c a w,Q (.panic c) (a.put d v) w->Q (.panic c) a w)(hy:YieldsIf P ops S oi v a)(hS:S w)(h:wpAnyH P md ops Q S fuel (listed.setIfInBounds i true) (a.put d v) w):wpAnyH P md ops Q S (fuel+1) listed a w:=by subst hd;exact wpAnyH_take hi hs hf hr hQ hy hS h
theorem Dz(L:Ft)(ms:List Mm):ms.map (em L [])=ms:=by
 have:em L []=id:=by funext x;simp[em]
 rw[this,List.map_id]
theorem fp(L:Ft)(x:Mm):(cE L x).L=x.L/\(cE L x).blk=x.blk/\(cE L x).r=x.r:=by unfold cE kJ;split<;>simp
theorem DA{l:List Mm}{m:Nat}(hnd:(l.map Mm.blk).Nodup)(hm:m<l.length):l[m].blk∉(l.take m).map Mm.blk:=by
 intro h;obtain⟨y,hy,e⟩:=H8.1 h;obtain⟨j,hj,e2⟩:=List.mem_iff_getElem.1 hy;rw[List.length_take] at hj;rw[List.getElem_take] at e2;have h1:(l.map Mm.blk)[j]'(by simp;omega)=(l.map Mm.blk)[m]'(by simp;omega):=by simp[e2,e]
 have:=(List.getElem_inj hnd).1 h1;omega
theorem uH(p k0 k1 k2:Int)(w0 w:World)(mb ob R g:Nat)(dv pv sv vv:Value)(us:List Value)(ms:List Mm)(qs:List Pq)(t:Ft)(ts:List Ft)(dg:Nat->Int)(hb0:Below w0.heap.size w0 w)(hm:bH p w0.heap.size w mb ob R g dv pv us ms qs)(hob:aQ w0 ob p k0 k1 k2 sv)(hdg:fI w0 dv R dg)(hpr:aZ p=0)(hd:∀pl,pl<R->0<=dg pl/\dg pl<=100000)(hR:R<=255)(k0b:0<=k0/\k0<=137438953472)(k1b:0<=k1/\k1<=137438953472)(k2b:0<=k2/\k2<=137438953472)(bx:∀x∈ms,kO x.L)(hc:0<t.c/\t.c<p)(hfs:∀u∈t::ts,eH p u)(hlen:(t::ts).length<=100000000000)(hfv:Fv w vv (t::ts))(hpl:0<=t.pl/\t.pl<R)(hml:ms.length<=1000)(hql:qs.length<=1000000)(hq:∀q∈qs,∃x y,x∈ms/\y∈ms/\q.b1=x.blk/\q.b2=y.blk):Calls prog 60 #[.pointer (some ⟨mb,0,none⟩),vv] w λe w'=>e=.returned (.tuple #[])/\∃pv' us' f srt,f.L=dD p (aC p t.c) t/\f.r=ts.map (dD p (aC p t.c))/\f.gone=false/\(∀x∈ms,x.blk≠f.blk)/\srt.Perm ((jk ms t.pl.toNat).map λx=>dN k0 k1 k2 dg x f)/\bH p w0.heap.size w' mb ob R g dv pv' us' (ms.map (cE f.L)++[f]) (qs.filter (λq=>!io ms f.L q)++bY [] srt)/\Below w0.heap.size w w'/\bS w w':=by
 obtain⟨n,hnpl⟩:∃n:Nat,t.pl=n:=⟨t.pl.toNat,by omega⟩;have hnR:n<R:=by omega
 have hnI:(n:Int)<(R:Int):=by omega
 have HOB:Ic (∀W,Below w0.heap.size w0 W->aQ W ob p k0 k1 k2 sv):=λW h=>hob.below h;have HDG:Ic (∀W,Below w0.heap.size w0 W->fI W dv R dg):=λW h=>hdg.below h;have hi:=gJ hpr hc;have HMO:=aa (C3 ob p k0 k1 k2 sv vv t ts w (HOB.o w hb0) hpr k0b k1b k2b hc hfs hlen hfv);obtain⟨L,hL⟩:∃L,L=dD p (aC p t.c) t:=⟨_,rfl⟩;obtain⟨r,hr⟩:∃r,r=ts.map (dD p (aC p t.c)):=⟨_,rfl⟩;have hLc:0<L.c/\L.c<p:=by rw[hL];have:=dU hpr;simp only[dD];rw[hi.2.2];omega
 have hLp:L.pl=n:=by rw[hL];exact hnpl
 have bf:kO L:=by have:=hfs t (by simp);rw[hL];exact⟨this.k,this.a,this.b,this.d,this.z⟩
 have htn:t.pl.toNat=n:=by omega
 have htl:L.pl.toNat=n:=by omega
 rw[htn];rw[List.map_cons,<-hL,<-hr] at HMO;rw[<-hL,<-hr];have HM:=aa hm;have HB0:=aa hb0;have HQ:=aa hq;have HHD:=aa hd;have HBX:=aa bx;have HBF:=aa bf;obtain⟨va,vc,hvv,_,_⟩:=hfv;subst hvv;have m0:=hm.cells.1;clear hm hb0 hq hd bx bf hob hdg hi hfs hc hL hr htn;clear hpl hnpl;go_enter func60,ntmps60;go_upto_region 1 with (first|(go_at_call 101;refine HMO.o.mono ?_;rintro e w2 ⟨u2,rfl,q1,q2⟩;have HB2:=aa q2;have HB02:=aa (HB0.o.trans (q2.mono HB0.o.size));have HNM:=aa (uw w0.heap.size mb ob p k0 k1 k2 sv u2 L r w2 HB02.o.size (ae m0 q2) (HOB.o w2 HB02.o) hpr hLc q1);obtain⟨ua2,uc2,hu2,_,_⟩:=q1;subst hu2;clear q2)|(go_at_call 100;refine HNM.o.mono ?_;rintro e w3 ⟨blk,rv,rfl,q1,q2,q3⟩;have HF3:=aa q1;have HB3:=aa (HB2.o.trans (q3.mono HB2.o.size));have HBK:Ic (w.heap.size<=blk):=Hk HB2.o.size q2;clear q1 q2 q3));obtain⟨f,hf⟩:∃f:Mm,f=⟨blk,L,rv,r,false⟩:=⟨_,rfl⟩;rw[<-hf] at HF3;have hfb:blk=f.blk:=by rw[hf]
 have hfL:L=f.L:=by rw[hf]
 have HFR:Ic (f.r=r/\f.gone=false):=by rw[hf];exact⟨rfl,rfl⟩
 have HM3:=aa (HM.o.next HB3.o);have HB03:=aa (HB0.o.trans (HB3.o.mono HB0.o.size));have HNE:Ic (∀x∈ms,x.blk≠f.blk):=λx hx e=>by have h1:=(HM.o.mks.mem x hx).lt.2;have h2:=HBK.o;rw[hfb] at h2;omega
 have hnd:=HM.o.mks.nd;have HND:=aa hnd;have HDP:=aa (Df p w0.heap.size w3 mb ob R g dv pv us ms qs f (io ms L) HM3.o HB03.o.size HF3.o hql λq hq=>by
  obtain⟨x,y,hx,hy,e1,e2⟩:=HQ.o q hq;exact⟨x,y,hx,hy,e1,e2,by unfold io;rw[e1,e2,n5 hnd hx,n5 hnd hy,hfL]⟩)
 have HFL:Ic (f.L=L):=hfL.symm;rw[hfL] at HDP HBF hLp htl;have hLP:Ic (f.L.pl=n):=hLp;rw[hfb];clear hf hfb hfL hnd HMO HNM HB2 HB02 m0 HQ hLc;go_upto_region 2 with (go_at_call 102;refine HDP.o.mono ?_;rintro e w4 ⟨rfl,pv4,q1,q2,q3,q9⟩;have HK4:=aa ((bS.of_below HB3.o).trans q9);have HM4:=aa q1;have HF4:=aa q2;have HB4:=aa ((HB3.o.mono HB0.o.size).trans q3);have HB04:=aa (HB03.o.trans q3);clear q1 q2 q3 q9);have hlq:(qs.filter λq=>!io ms f.L q).length<=1000000:=Hk (List.length_filter_le _ _) hql;generalize hq4:(qs.filter λq=>!io ms f.L q)=q4 at HM4 hlq;have HQ4:=aa hq4;clear hq4;clear HDP HM3 HF3 HB3 HB03 HB0;have hB4:w0.heap.size<=w4.heap.size:=HB04.o.size;have HNP:=aa (Dt p w0.heap.size w4.drew mb ob R g dv pv4 sv us ms q4 f k0 k1 k2 dg (HM4.o.next (Hf _ _).drew) (HF4.o.next (Hf _ _).drew) (HOB.o _ HB04.o.drew) (HDG.o _ HB04.o.drew) HHD.o hR k0b k1b k2b HBX.o HBF.o ⟨by omega,by omega⟩ hml);rw[htl] at HNP;have HALN:Ic ((jk ms n).length<=1000):=by refine Hk (List.length_filter_le _ _) (Hk (List.length_filter_le _ _) hml)
 have HAPP:Ic (∀w5 v5 srt,srt.Perm ((jk ms n).map λx=>dN k0 k1 k2 dg x f)->bD w4.drew.heap.size w5 v5 (bY [] srt)->Below w4.drew.heap.size w4.drew w5->∃v6 w6,(Builtin.append_ #[95,95] 95 #[pv4,v5]).run prog w5=.ok v6 w6/\w5.cell? ⟨mb,3,none⟩=some pv4/\w6.cell? ⟨mb,3,none⟩=some pv4/\w6.frozen? ⟨mb,3,none⟩=false/\(∃a c,v6=.slice a (q4++bY [] srt).length c)/\bH p w0.heap.size (w6.setCell ⟨mb,3,none⟩ v6) mb ob R g dv v6 us ms (q4++bY [] srt)/\bN p w0.heap.size (w6.setCell ⟨mb,3,none⟩ v6) f/\Below w0.heap.size w4.drew (w6.setCell ⟨mb,3,none⟩ v6)/\bS w4.drew (w6.setCell ⟨mb,3,none⟩ v6)):=λw5 v5 srt h1 h2 h3=>by refine bH.app (HM4.o.next (Hf _ _).drew) (HF4.o.next (Hf _ _).drew) hB4 h2 h3 ?_;have e1:=n7 srt [];have e2:=h1.length_eq;rw[Ia] at e2;have:=HALN.o;simp only[List.length_nil] at e1;omega
 obtain⟨pa4,pc4,hpv4⟩:=HM4.o.prs.sl;have c34:=HM4.o.cells.2.2.2.1;rw[hpv4] at c34 HAPP;clear hpv4;go_region_law (first|(refine qj rfl (.tmp 22) (.tmp 25) 95 95 rfl rfl _ _ _ (by simp[Act.eval,Act.put]) (by simp[Act.eval,Act.put]) HAP.o ?_)|(go_simp;refine HNP.o.mono ?_;rintro e w5 ⟨v5,rfl,srt,q1,q2,q3⟩;obtain⟨v6,w6,h1,h2,h3,h4,⟨va6,vc6,h5⟩,h6,h7,h8,h10⟩:=HAPP.o w5 v5 srt q1 q2 q3;rw[Hx] at h5;subst h5;obtain⟨va5,vc5,h9⟩:=q2.sl;subst h9;have HAP:=aa h1;have HPM:=aa q1;have HM6:=aa h6;have HF6:=aa h7;have HB6:=aa (HB4.o.drew.trans h8);have HK6:=aa ((HK4.o.trans (bS.of_below (Hf _ _).drew)).trans h10);clear h1 q1 q2 q3 h6 h7 h8 h10;dsimp only));all_goals
  clear HNP HAPP HAP HALN;generalize w6.setCell ⟨mb,3,none⟩ _=w7 at HM6 HF6 HB6 HK6⊢;have HPT:=aa (HM6.o.mks.pts n hnR);obtain⟨ra,rc,hrow,_⟩:=HPT.o;have HROW:=aa hrow;have a2:=HM6.o.cells.2.2.1;have a0:=(HM6.o.mks.at n hnR).1;rw[hrow] at a0;have a5:=HF6.o.mbr.div.cells.2.2.2.2.2.1;simp only[Hy] at a5;rw[hLP.o] at a5;clear hrow HPT;go_wp2_with fail;go_quiet (fail);have HB7:=aa (below_drewN HB6.o nq);have HK7:=aa (HK6.o.trans (bS.of_below (below_drewN (Hf _ _) nq)));have HM7:=aa (HM6.o.next (below_drewN (Hf _ _) nq));have HF7:=aa (HF6.o.next (below_drewN (Hf _ _) nq));clear a2 a0 a5 HM6 HF6 HB6 HK6;generalize w7.drewN nq=w8 at*;clear h2 h3 h4 c34 HM4 HF4 HOB HDG HHD HBX;have HLN:Ic ((bI ms n).length<=1000):=Hk (List.length_filter_le _ _) hml;have HSUB:Ic (∀x∈bI ms n,x∈ms):=λx hx=>(List.mem_filter.1 hx).1;have HLND:Ic (((bI ms n).map Mm.blk).Nodup):=List.Nodup.sublist (List.Sublist.map _ List.filter_sublist) HND.o;have HALL:=aa (Dy (L:=f.L) (ms:=ms) (n:=n) hLP.o HND.o);have HATP:Ic (∀bs,bI (ms.map (em f.L bs)) n=(bI ms n).map (em f.L bs)):=λbs=>vU _ (λx=>(wF f.L bs x).1) ms n;have hln:=HLN.o;generalize hl:bI ms n=l at*;clear hl;go_wp2_with fail;go_loopw [42] (λvi wr=>∃m:Nat,m<=l.length/\vi=.int .i64 m/\bH p w0.heap.size wr mb ob R g dv (.slice va6 (q4.length+(bY [] srt).length) vc6) us (ms.map (em f.L ((l.take m).map Mm.blk))) (q4++bY [] srt)/\bN p w0.heap.size wr f/\Below w0.heap.size w wr/\bS w wr) (λvi _=>l.length-(intOf vi).toNat);case atStart=>exact⟨0,Hl _,rfl,by rw[List.take_zero,List.map_nil,Dz];exact HM7.o,HF7.o,HB7.o,HK7.o⟩
  case round=>
   clear HB7 HM7 HF7 HK7;rename World=>wr;obtain⟨m,hml2,rfl,hmw,hfw,hbr,hkr⟩:=hrel;have HKR:=aa hkr;have HMR:=aa hmw;have HFW:=aa hfw;have HBR:=aa hbr;clear hmw hfw hbr hkr;have hBr:w0.heap.size<=wr.heap.size:=HMR.o.box|>λh=>by have:=(Hd h mb rfl);omega
   by_cases hm2:m<l.length
   ·have hnot:=DA HLND.o hm2;have hgo:em f.L ((l.take m).map Mm.blk) l[m]=l[m]:=by unfold em;rw[if_neg hnot]
    have hxm:=HSUB.o l[m] (Hp hm2);have hxi:l[m]∈ms.map (em f.L ((l.take m).map Mm.blk)):=H8.2 ⟨_,hxm,hgo⟩;have HMX:=aa (HMR.o.mks.mem _ hxi);have HCE:Ic (∃b off,ra=some ⟨b,off,none⟩/\wr.cell? ⟨b,off+m,none⟩=some (.pointer (some ⟨l[m].blk,0,none⟩))):=by obtain⟨a,c,e,h⟩:=HMR.o.mks.pts n hnR;rw[HROW.o] at e;simp only[H7] at e;obtain⟨rfl,_,_⟩:=e;obtain⟨b,off,e2,e3⟩:=h m (by rw[HATP.o,Ia];exact hm2);refine⟨b,off,e2,?_⟩;rw[e3];simp only[HATP.o,List.getElem_map,(wF f.L _ _).2]
    have HPUT:Ic (∀W c,Below wr.heap.size wr W->c=(l[m].gone||dE f.L l[m].L)->bH p w0.heap.size (W.setCell ⟨l[m].blk,10,none⟩ (.bool c)) mb ob R g dv (.slice va6 (q4.length+(bY [] srt).length) vc6) us (ms.map (em f.L ((l.take (m+1)).map Mm.blk))) (q4++bY [] srt)/\bN p w0.heap.size (W.setCell ⟨l[m].blk,10,none⟩ (.bool c)) f/\Below w0.heap.size w (W.setCell ⟨l[m].blk,10,none⟩ (.bool c))/\W.cell? ⟨l[m].blk,10,none⟩=some (.bool l[m].gone)/\W.frozen? ⟨l[m].blk,10,none⟩=false/\bS w (W.setCell ⟨l[m].blk,10,none⟩ (.bool c))):=λW c hb hc=>by have hmW:=HMR.o.next hb;have hxW:=HMX.o.next hb;obtain⟨h1,h2,h3,h4⟩:=hmW.put (HFW.o.next hb) (Hk hBr hb.size) hxi (λe=>HNE.o _ hxm e.symm) c;refine⟨?_,h2,HBR.o.trans ((hb.mono hBr).trans h3),hxW.mbr.gone,Hb hxW.own 10,(HKR.o.trans (bS.of_below hb)).trans h4⟩;have e:=Dx (L:=f.L) HND.o hxm hnot;rw[<-hc] at e;rw[e] at h1;rw[List.take_add_one,Ht hm2,List.map_append];exact h1
    have HIN:Ic (∀W,Below wr.heap.size wr W->Calls prog 104 #[.pointer (some ⟨f.blk,0,none⟩),aY l[m].L] W λe w'=>e=.returned (.bool (dE f.L l[m].L))/\Below W.heap.size W w'):=λW hb=>vS f.blk 0 f.L l[m].L f.rv 0 _ W (HFW.o.next hb).mbr.div;unfold aY at HIN;obtain⟨b,off,hra,c1⟩:=HCE.o;subst hra;have hmI:(m:Int)<(l.length:Int):=by omega
    have hxg:=HMX.o.mbr.gone;obtain⟨d0,d1,d2,d3,d4,d5,d6⟩:=HMX.o.mbr.div.cells;simp only[Hy] at d0 d1 d2 d3 d4 d5 d6;clear hxi hgo hnot HCE hxm;generalize l[m]=x at*;have HLN2:=HLN;clear HROW;cases hgo:x.gone with
    |true=>
     rw[hgo] at hxg HPUT;have HP:=aa (HPUT.o wr.drew true (Hf _ _).drew (by simp));have z0:wr.frozen? ⟨x.blk,10,none⟩=false:=HP.o.2.2.2.2.1;clear hgo HPUT HIN;go_upto_region 6 with fail;go_region;all_goals
      go_wp2_with fail;go_roundw;case rel=>exact⟨m+1,by omega,by go_num,HP.o.1,HP.o.2.1,HP.o.2.2.1,HP.o.2.2.2.2.2⟩
      case measure=>simp[intOf];omega
    |false=>
     rw[hgo] at hxg HPUT;have HP2:Ic (∀W,Below wr.drew.heap.size wr.drew W->_):=λW hb=>HPUT.o W (dE f.L x.L) ((Hf _ _).drew.trans hb) (by simp);have HIN2:=aa (HIN.o wr.drew (Hf _ _).drew);clear hgo HPUT HIN;go_upto_region 6 with fail;refine wp_region_held_drew (S:=λ_=>True) (by kernel_rfl) trivial (λhHeld=>?_);refine fP (i:=0) (d:=some 46) (v:=?_) rfl rfl (by kernel_rfl) (by kernel_rfl) (by kernel_rfl) (λ_ _ _ h=>h) (Or.inl ⟨by rfl,?_⟩) trivial ?_
     rotate_left
     ·(intro w hSw;go_simp<;>with_reducible rfl)
     simp only[Act.put,List.setIfInBounds_toArray,List.set_cons_zero,List.set_cons_succ];refine fP (i:=1) (d:=some 47) (v:=?_) rfl rfl (by kernel_rfl) (by kernel_rfl) (by kernel_rfl) (λ_ _ _ h=>h) (Or.inl ⟨by rfl,?_⟩) trivial ?_
     rotate_left
     ·(intro w hSw;go_simp<;>with_reducible rfl)
     simp only[Act.put,List.setIfInBounds_toArray,List.set_cons_zero,List.set_cons_succ];refine fP (i:=2) (d:=some 48) (v:=?_) rfl rfl (by kernel_rfl) (by kernel_rfl) (by kernel_rfl) (λ_ _ _ h=>h) (Or.inl ⟨by rfl,?_⟩) trivial ?_
     rotate_left
     ·(intro w hSw;go_simp<;>with_reducible rfl)
     simp only[Act.put,List.setIfInBounds_toArray,List.set_cons_zero,List.set_cons_succ];refine fP (i:=3) (d:=some 49) (v:=?_) rfl rfl (by kernel_rfl) (by kernel_rfl) (by kernel_rfl) (λ_ _ _ h=>h) (Or.inl ⟨by rfl,?_⟩) trivial ?_
     rotate_left
     ·(intro w hSw;go_simp<;>with_reducible rfl)
     simp only[Act.put,List.setIfInBounds_toArray,List.set_cons_zero,List.set_cons_succ];refine wpAnyH_ready (rs:=[4]) (by kernel_rfl) (by simp) ?_;refine AllReadyH.cons rfl (λK hK=>?_) AllReadyH.nil;go_simp;refine hK.out _ _ trivial (λhHeld=>?_);clear hK K;try simp only[Act.put,List.setIfInBounds_toArray,List.set_cons_zero,List.set_cons_succ]
     refine fP (i:=5) (d:=some 51) (v:=?_) rfl rfl (by kernel_rfl) (by kernel_rfl) (by kernel_rfl) (λ_ _ _ h=>h) (Or.inl ⟨by rfl,?_⟩) trivial ?_
     rotate_left
     ·(intro w hSw;go_simp<;>with_reducible rfl)
     simp only[Act.put,List.setIfInBounds_toArray,List.set_cons_zero,List.set_cons_succ];refine fP (i:=6) (d:=some 52) (v:=?_) rfl rfl (by kernel_rfl) (by kernel_rfl) (by kernel_rfl) (λ_ _ _ h=>h) (Or.inl ⟨by rfl,?_⟩) trivial ?_
     rotate_left
     ·(intro w hSw;go_simp<;>with_reducible rfl)
     simp only[Act.put,List.setIfInBounds_toArray,List.set_cons_zero,List.set_cons_succ];refine fP (i:=7) (d:=some 53) (v:=?_) rfl rfl (by kernel_rfl) (by kernel_rfl) (by kernel_rfl) (λ_ _ _ h=>h) (Or.inl ⟨by rfl,?_⟩) trivial ?_
     rotate_left
     ·(intro w hSw;go_simp<;>with_reducible rfl)
     simp only[Act.put,List.setIfInBounds_toArray,List.set_cons_zero,List.set_cons_succ];refine fP (i:=8) (d:=some 54) (v:=?_) rfl rfl (by kernel_rfl) (by kernel_rfl) (by kernel_rfl) (λ_ _ _ h=>h) (Or.inl ⟨by rfl,?_⟩) trivial ?_
     rotate_left
     ·(intro w hSw;go_simp<;>with_reducible rfl)
     simp only[Act.put,List.setIfInBounds_toArray,List.set_cons_zero,List.set_cons_succ];refine fP (i:=9) (d:=some 55) (v:=?_) rfl rfl (by kernel_rfl) (by kernel_rfl) (by kernel_rfl) (λ_ _ _ h=>h) (Or.inl ⟨by rfl,?_⟩) trivial ?_
     rotate_left
     ·(intro w hSw;go_simp<;>with_reducible rfl)
     simp only[Act.put,List.setIfInBounds_toArray,List.set_cons_zero,List.set_cons_succ];refine fP (i:=10) (d:=some 56) (v:=?_) rfl rfl (by kernel_rfl) (by kernel_rfl) (by kernel_rfl) (λ_ _ _ h=>h) (Or.inl ⟨by rfl,?_⟩) trivial ?_
     rotate_left
     ·(intro w hSw;go_simp<;>with_reducible rfl)
     simp only[Act.put,List.setIfInBounds_toArray,List.set_cons_zero,List.set_cons_succ];refine fP (i:=11) (d:=some 57) (v:=?_) rfl rfl (by kernel_rfl) (by kernel_rfl) (by kernel_rfl) (λ_ _ _ h=>h) (Or.inl ⟨by rfl,?_⟩) trivial ?_
     rotate_left
     ·(intro w hSw;go_simp<;>with_reducible rfl)
     simp only[Act.put,List.setIfInBounds_toArray,List.set_cons_zero,List.set_cons_succ];refine fP (i:=12) (d:=some 58) (v:=?_) rfl rfl (by kernel_rfl) (by kernel_rfl) (by kernel_rfl) (λ_ _ _ h=>h) (Or.inl ⟨by rfl,?_⟩) trivial ?_
     rotate_left
     ·(intro w hSw;go_simp<;>with_reducible rfl)
     simp only[Act.put,List.setIfInBounds_toArray,List.set_cons_zero,List.set_cons_succ];refine wpAnyH_ready (rs:=[13]) (by kernel_rfl) (by simp) ?_;refine AllReadyH.cons rfl (λK hK=>?_) AllReadyH.nil;go_simp;refine hK.out _ _ trivial (λhHeld=>?_);clear hK K;try simp only[Act.put,List.setIfInBounds_toArray,List.set_cons_zero,List.set_cons_succ]
     refine wpAnyH_ready (rs:=[14]) (by kernel_rfl) (by simp) ?_;refine AllReadyH.cons rfl (λK hK=>?_) AllReadyH.nil;go_simp;refine HIN2.o.mono ?_;rintro e w9 ⟨rfl,hb9⟩;have HP:=aa (HP2.o w9 hb9);have y1:=HP.o.2.2.2.1;have y2:=HP.o.2.2.2.2.1;clear hb9;dsimp only;refine hK.out _ _ trivial (λhHeld=>?_);clear hK K;try simp only[Act.put,List.setIfInBounds_toArray,List.set_cons_zero,List.set_cons_succ]
     refine fP (i:=15) (d:=some 61) (v:=?_) rfl rfl (by kernel_rfl) (by kernel_rfl) (by kernel_rfl) (λ_ _ _ h=>h) (Or.inl ⟨by rfl,?_⟩) trivial ?_
     rotate_left
     ·(intro w hSw;go_simp<;>with_reducible rfl)
     simp only[Act.put,List.setIfInBounds_toArray,List.set_cons_zero,List.set_cons_succ];refine fP (i:=16) (d:=some 62) (v:=?_) rfl rfl (by kernel_rfl) (by kernel_rfl) (by kernel_rfl) (λ_ _ _ h=>h) (Or.inl ⟨by rfl,?_⟩) trivial ?_
     rotate_left
     ·(intro w hSw;go_simp<;>with_reducible rfl)
     simp only[Act.put,List.setIfInBounds_toArray,List.set_cons_zero,List.set_cons_succ];refine fP (i:=17) (d:=some 63) (v:=?_) rfl rfl (by kernel_rfl) (by kernel_rfl) (by kernel_rfl) (λ_ _ _ h=>h) (Or.inl ⟨by rfl,?_⟩) trivial ?_
     rotate_left
     ·(intro w hSw;go_simp<;>with_reducible rfl)
     simp only[Act.put,List.setIfInBounds_toArray,List.set_cons_zero,List.set_cons_succ];refine wpAnyH_ready (rs:=[18]) (by kernel_rfl) (by simp) ?_;refine AllReadyH.cons rfl (λK hK=>?_) AllReadyH.nil;go_simp;refine hK.out _ _ trivial (λhHeld=>?_);clear hK K;try simp only[Act.put,List.setIfInBounds_toArray,List.set_cons_zero,List.set_cons_succ]
     refine wpAnyH_done (by kernel_rfl) ?_ _;all_goals
      go_wp2_with fail;go_roundw;case rel=>exact⟨m+1,by omega,by go_num,HP.o.1,HP.o.2.1,HP.o.2.2.1,HP.o.2.2.2.2.2⟩
      case measure=>simp[intOf];omega
   ·have e:m=l.length:=by omega
    subst e;rw[Hz (He _),HALL.o] at HMR;have HPU:=aa (Dw p w0.heap.size wr mb ob R g dv _ us (ms.map (cE f.L)) _ f HMR.o HFW.o (λx hx=>by obtain⟨y,hy,rfl⟩:=H8.1 hx;rw[(fp f.L y).2.1];exact HNE.o y hy) hBr ⟨by rw[hLP.o];omega,by rw[hLP.o];omega⟩ (by simpa using hml) hR);go_wp2_with (go_at_call 105;refine HPU.o.mono ?_;rintro e w9 ⟨rfl,us9,q1,q2,q3⟩;have HM9:=aa q1;have HB9:=aa (HBR.o.trans q2);have HK9:=aa (HKR.o.trans q3);clear q1 q2 q3);go_end0;exact⟨rfl,_,us9,f,srt,HFL.o,HFR.o.1,HFR.o.2,HNE.o,HPM.o,by rw[HQ4.o];exact HM9.o,HB9.o,HK9.o⟩
end Go.Proofs.YtglijodcbdcngaaGreat
