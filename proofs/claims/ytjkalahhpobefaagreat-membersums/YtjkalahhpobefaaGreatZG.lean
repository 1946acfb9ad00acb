/- A term, made flat. -/
import Derived.Test.YtjkalahhpobefaaGreatZB
import Derived.Test.YtjkalahhpobefaaGreatPL
set_option maxHeartbeats 2000000
set_option maxRecDepth 100000
namespace Go.Proofs.YtjkalahhpobefaaGreat
set_option linter.all false
open Go.Proofs.Tryz Go.RowKit
def dK(xs:PI)(k:Nat)(j:Nat):Int:=(xs.take k).getD j 0
def tC(s pl c:Int)(xs:PI)(k:Nat):Ft:=⟨s,dK xs k 0,dK xs k 1,dK xs k 2,0,pl,c⟩
structure ix(w wr:PJ)(c:Int)(ev:PK)(t:Ft):Prop where
 below:Io w wr
 b0:wr.cell? (PN w.heap.size 0)=some (PO c)
 b1:wr.cell? (PN w.heap.size 1)=some ev
 res:wr.ownsRow w.heap.size 88 7 (PM (w.heap.size+1) 1 1) 1 (aB dT)
 own:wr.ownsRow w.heap.size 88 7 (PM (w.heap.size+1+1) 1 1) 1 (aB t)
 lt:w.heap.size<wr.heap.size
variable{t:Ft}{ev:PK}{c:Int}{w wr w':PJ}
theorem ix.next(h:ix w wr c ev t)(hb:Io wr w'):ix w w' c ev t:=
 ⟨In h.below hb,af h.b0 hb,af h.b1 hb,aF h.res hb,aF h.own hb,Oz h.lt hb.size⟩
theorem ix.first(w:PJ)(c:Int)(ev:PK)(t:Ft):ix w (((w.alloc (.cells #[PO c,ev] 47)).alloc (.cells #[PO 0,PP 0,PP 0,PP 0,PP 0,PQ 0,PQ 0] 88)).alloc (.cells #[PO t.k,PP t.a,PP t.b,PP t.d,PP t.z,PQ t.pl,PQ t.c] 88)) c ev t:=by
 have h1:=dr (w:=w.alloc (.cells #[PO c,ev] 47)) (B:=w.heap.size) (by simp) dT;have h2:=dr (w:=(w.alloc (.cells #[PO c,ev] 47)).alloc (.cells #[PO 0,PP 0,PP 0,PP 0,PP 0,PQ 0,PQ 0] 88)) (B:=w.heap.size) (by simp;omega) t;refine⟨n7,by simp[go_sem],by simp[go_sem],?_,?_,by simp;omega⟩
 .have:=aF h1 (ai (A:=.cells #[PO t.k,PP t.a,PP t.b,PP t.d,PP t.z,PQ t.pl,PQ t.c] 88));simpa [dT] using this
 .simpa using h2
theorem ix.put{t2:Ft}(h:ix w wr c ev t)(j:Nat)(v:PK)(he:(aB t).set j v=aB t2):ix w (wr.setCell (PN (w.heap.size+1+1) j) v) c ev t2:=by have s1:=h.own.stored j v;rw[he] at s1;have far:=λo=>j7 (o:=o) (b:=w.heap.size) s1.2 h.lt (by omega);exact⟨h.below.trans (cQ s1.2 (by omega) h.below.size),by rw[far];exact h.b0,by rw[far];exact h.b1,h.res.kept s1.2 (Pg (by simp[Value.ownBlock])),s1.1,Oz h.lt s1.2.size⟩
theorem ix.cells(h:ix w wr c ev t):wr.cell? (PN (w.heap.size+1+1) 0)=some (PO t.k)/\wr.cell? (PN (w.heap.size+1+1) 1)=some (PP t.a)/\wr.cell? (PN (w.heap.size+1+1) 2)=some (PP t.b)/\wr.cell? (PN (w.heap.size+1+1) 3)=some (PP t.d)/\wr.cell? (PN (w.heap.size+1+1) 4)=some (PP t.z)/\wr.cell? (PN (w.heap.size+1+1) 5)=some (PQ t.pl)/\wr.cell? (PN (w.heap.size+1+1) 6)=some (PQ t.c):=
 ⟨h.own.cellAt 0 (by omega),h.own.cellAt 1 (by omega),h.own.cellAt 2 (by omega),h.own.cellAt 3 (by omega),h.own.cellAt 4 (by omega),h.own.cellAt 5 (by omega),h.own.cellAt 6 (by omega)⟩
def fe(s k0 k1 k2 pl:Int)(t:Tm):Ft:=⟨s+(t.2.getD 0 0*k0+t.2.getD 1 0*k1+t.2.getD 2 0*k2),t.2.getD 0 0,t.2.getD 1 0,t.2.getD 2 0,0,pl,t.1⟩
theorem NR{B g:Nat}{u:Ft}(h:w.ownsRow B 88 7 (PM g 1 1) 1 (aB u))(t:Ft):(qr w g 0 t).ownsRow B 88 7 (PM g 1 1) 1 (aB t)/\w.grownBy (qr w g 0 t) (some g):=by have s1:=h.stored 0 (PO t.k);have s2:=s1.1.stored 1 (PP t.a);have s3:=s2.1.stored 2 (PP t.b);have s4:=s3.1.stored 3 (PP t.d);have s5:=s4.1.stored 4 (PP t.z);have s6:=s5.1.stored 5 (PQ t.pl);have s7:=s6.1.stored 6 (PQ t.c);exact⟨s7.1,cW (cW (cW (cW (cW (cW s1.2 s2.2) s3.2) s4.2) s5.2) s6.2) s7.2⟩
theorem NS(s pl c:Int)(xs:PI)(k:Nat)(h:k<xs.length)(h3:xs.length<=3):(aB (tC s pl c xs k)).set (1+k) (PP (xs.getD k 0))=aB (tC s pl c xs (k+1)):=by
 match xs,k,h,h3 with
 |[x],0,_,_=>rfl
 |[x,y],0,_,_=>rfl
 |[x,y],1,_,_=>rfl
 |[x,y,z],0,_,_=>rfl
 |[x,y,z],1,_,_=>rfl
 |[x,y,z],2,_,_=>rfl
 |_::_::_::_::_,_,_,h=>exact absurd h (by simp)
theorem oM{xs:PI}(h:∀x∈xs,0<=x/\x<=30000)(k j:Nat):0<=dK xs k j/\dK xs k j<=65535:=by
 unfold dK;rw[OH];cases hj:(xs.take k)[j]? with
 |none=>simp
 |some x=>have:=h x (Pj (List.mem_of_getElem? hj));simp;omega
theorem LW(ob pl:Nat)(p k0 k1 k2:Int)(sv ev:PK)(ss xs:PI)(c:Int)(w:PJ)(hob:aQ w ob p k0 k1 k2 sv)(hs:Sl w sv ss)(hpl:pl<ss.length)(hpl2:pl<=255)(hss:∀s∈ss,-600000000000000000<=s/\s<=600000000000000000)(h0:0<=k0/\k0<=137438953472)(h1:0<=k1/\k1<=137438953472)(h2:0<=k2/\k2<=137438953472)(hc:0<=c/\c<=255)(hx0:0<xs.length)(hx3:xs.length<=3)(hxs:∀x∈xs,0<=x/\x<=30000)(he:Sl w ev xs):Calls prog 119 #[PL ob,PO pl,.agg #[PO c,ev]] w λe w'=>e=.returned (aX (fe (ss.getD pl 0) k0 k1 k2 pl (c,xs)))/\Io w w':=by
 obtain⟨hc0,hc1⟩:=hc;have HE:=ae he;have HXS:=ae hxs;have HSS:=ae (hss _ (mQ ss pl hpl));have HOB:=ae hob;obtain⟨ea,ec,rfl,hei⟩:=he;obtain⟨eb,eoff,rfl,helt,hec⟩:=hei hx0;obtain⟨sa,sc,rfl,hsi⟩:=hs;obtain⟨sb,soff,rfl,hslt,hsc⟩:=hsi (by omega);have s0:=hsc pl hpl;have HS0:=ae s0;generalize ss.getD pl 0=s at s0 HS0 HSS⊢;obtain⟨olt,o0,o1,o2,o3,o4⟩:=hob;clear hxs hss hei hsi hsc;have HT0:=ae (ix.first w c (.slice (some (PN eb eoff)) xs.length ec) ⟨s,0,0,0,0,pl,c⟩);obtain⟨wa,hwa⟩:∃wa,wa=(w.alloc (.cells #[PO c,.slice (some (PN eb eoff)) xs.length ec] 47)).alloc (.cells #[PO 0,PP 0,PP 0,PP 0,PP 0,PQ 0,PQ 0] 88):=⟨_,rfl⟩;have HBA:Po (Io w wa):=by rw[hwa];exact cY
 have HSZ:Po (wa.heap.size=w.heap.size+1+1):=by show _=_;rw[hwa];simp
 have z0:wa.cell? (PN w.heap.size 0)=some (PO c):=by rw[hwa];simp[go_sem]
 have z1:wa.cell? (PN w.heap.size 1)=some (.slice (some (PN eb eoff)) xs.length ec):=by rw[hwa];simp[go_sem]
 have y0:=af s0 HBA.o;have y1:=af o4 HBA.o;clear s0 o0 o1 o2 o3 o4;have hpi:(pl:Int)<(ss.length:Int):=by omega
 have hwp:IntKind.u8.wrap (pl:Int)=pl:=by rw[IntKind.wrap_u8];omega
 have hwc:IntKind.u8.wrap c=c:=by rw[IntKind.wrap_u8];omega
 go_enter func119,ntmps119;go_wp2_with fail;rw[<-hwa];rw[<-hwa] at HT0;clear hwa;have n0:=World.new_ne wa _ z0;have n1:=World.new_ne wa _ y0;have n2:=World.new_ne wa _ y1;simp only at n0 n1 n2;go_region_held (λW=>W.cell? (PN w.heap.size 0)=some (PO c)/\W.cell? (PN sb (soff+pl))=some (PO s)/\W.cell? (PN ob 4)=some (.slice (some (PN sb soff)) ss.length sc)) (go_keep) (fail);have HT1:Po (ix w (wa.alloc (.cells #[PO s,PP 0,PP 0,PP 0,PP 0,PQ pl,PQ c] 88)).drew c (.slice (some (PN eb eoff)) xs.length ec) (tC s pl c xs 0)):=HT0.o.next (Ov _ _).drew;generalize (wa.alloc (.cells #[PO s,PP 0,PP 0,PP 0,PP 0,PQ pl,PQ c] 88)).drew=wb at HT1⊢;rw[HSZ.o];clear HT0 z0 z1 y0 y1 n0 n1 n2;have zb:=HT1.o.b1;go_wp2;clear zb;go_loopw [26] (λi wr=>∃k:Nat,k<=xs.length/\i=PO k/\ix w wr c (.slice (some (PN eb eoff)) xs.length ec) (tC s pl c xs k)) (λi _=>xs.length-(intOf i).toNat);case atStart=>exact⟨0,OB _,rfl,HT1.o⟩
 case round=>
  clear HT1;obtain⟨k,hk,rfl,ht⟩:=hrel;have HT:=ae ht;clear ht;by_cases hk2:k<xs.length
  .have x0:=af (hec k hk2) HT.o.below;obtain⟨hx1,hx2⟩:=HXS.o _ (mQ xs k hk2);have HSET:=ae (NS s pl c xs k hk2 hx3);generalize xs.getD k 0=x at x0 hx1 hx2 HSET;have hwx:IntKind.u16.wrap x=x:=by rw[IntKind.wrap_u16];omega
   have hk4:(k:Int)<4:=by omega
   have z1:∃u,wr.cell? (PN (w.heap.size+1+1) (1+k))=some u:=by have h:=HT.o.own.cellAt (1+k) (by omega);rw[OI (by simp[aB];omega)] at h;exact⟨_,h⟩
   obtain⟨u,z1⟩:=z1;have z2:=HT.o.own.frozenAt (1+k);go_wp2;go_roundw;case rel=>exact⟨k+1,by omega,by go_num,HT.o.put _ _ HSET.o⟩
   case measure=>simp[intOf];omega
  .have e:k=xs.length:=by omega
   subst e;have HAD:=ae (fun(W:PJ) (hW:aQ W ob p k0 k1 k2 (.slice (some (PN sb soff)) ss.length sc))=>vG ob p k0 k1 k2 _ (dK xs xs.length 0) (dK xs xs.length 1) (dK xs xs.length 2) 0 W hW (oM HXS.o _ _) (oM HXS.o _ _) (oM HXS.o _ _) h0 h1 h2);unfold cw at HAD;have HADB:=ae (show-9007061815787520*3<=dK xs xs.length 0*k0+dK xs xs.length 1*k1+dK xs xs.length 2*k2/\dK xs xs.length 0*k0+dK xs xs.length 1*k1+dK xs xs.length 2*k2<=9007061815787520*3 from by
    obtain⟨m0,q0⟩:=i8 (oM HXS.o xs.length 0) h0;obtain⟨m1,q1⟩:=i8 (oM HXS.o xs.length 1) h1;obtain⟨m2,q2⟩:=i8 (oM HXS.o xs.length 2) h2;exact⟨by omega,by omega⟩)
   have HFIN:Po (fe s k0 k1 k2 pl (c,xs)=⟨s+(dK xs xs.length 0*k0+dK xs xs.length 1*k1+dK xs xs.length 2*k2),dK xs xs.length 0,dK xs xs.length 1,dK xs xs.length 2,0,pl,c⟩):=by show _=_;unfold fe dK;rw[OO (Ou _)]
   have HTE:Po (ix w wr c (.slice (some (PN eb eoff)) xs.length ec) ⟨s,dK xs xs.length 0,dK xs xs.length 1,dK xs xs.length 2,0,pl,c⟩):=HT.o;generalize dK xs xs.length 0=xa at HAD HADB HFIN HTE;generalize dK xs xs.length 1=xb at HAD HADB HFIN HTE;generalize dK xs xs.length 2=xd at HAD HADB HFIN HTE;generalize xa*k0+xb*k1+xd*k2=more at HAD HADB HFIN;clear HT;obtain⟨m0,q0⟩:=HADB.o;obtain⟨m1,q1⟩:=HSS.o;have hwk:IntKind.i64.wrap (s+more)=s+more:=by rw[IntKind.wrap_i64];omega
   clear m0 q0 m1 q1;obtain⟨y0,y1,y2,y3,y4,y5,y6⟩:=HTE.o.cells;simp only at y0 y1 y2 y3 y4 y5 y6;go_wp2;go_region_with (go_at_call 111;refine(HAD.o _ ((HOB.o.below HTE.o.below).below (Ov _ _).drew)).mono ?_;rintro e w8 ⟨rfl,hb8⟩;have HT8:=ae ((HTE.o.next (Ov _ _).drew).next hb8);obtain⟨u0,u1,u2,u3,u4,u5,u6⟩:=HT8.o.cells;simp only at u0 u1 u2 u3 u4 u5 u6;have uf:=HT8.o.own.frozenAt 0;clear hb8);all_goals
    have HT9:=ae (HT8.o.put 0 (PO (s+more)) (t2:=⟨s+more,xa,xb,xd,0,pl,c⟩) rfl);generalize w8.setCell (PN (w.heap.size+1+1) 0) (PO (s+more))=w9 at HT9⊢;clear y0 y1 y2 y3 y4 y5 y6 u0 u1 u2 u3 u4 u5 u6 uf HT8 HTE;obtain⟨y0,y1,y2,y3,y4,y5,y6⟩:=HT9.o.cells;simp only at y0 y1 y2 y3 y4 y5 y6;have r0:=HT9.o.res.cellAt 0 (by omega);have q0:=HT9.o.res.frozenAt 0;have r1:=HT9.o.res.cellAt 1 (by omega);have q1:=HT9.o.res.frozenAt 1;have r2:=HT9.o.res.cellAt 2 (by omega);have q2:=HT9.o.res.frozenAt 2;have r3:=HT9.o.res.cellAt 3 (by omega);have q3:=HT9.o.res.frozenAt 3;have r4:=HT9.o.res.cellAt 4 (by omega);have q4:=HT9.o.res.frozenAt 4;have r5:=HT9.o.res.cellAt 5 (by omega);have q5:=HT9.o.res.frozenAt 5;have r6:=HT9.o.res.cellAt 6 (by omega);have q6:=HT9.o.res.frozenAt 6;simp only[aB,List.getElem?_cons_zero,List.getElem?_cons_succ] at r0 r1 r2 r3 r4 r5 r6;have HRP:=ae (NR HT9.o.res ⟨s+more,xa,xb,xd,0,pl,c⟩);go_wp2;have HRP2:Po ((((((((w9.setCell (PN (w.heap.size+1) 0) (PO (s+more))).setCell (PN (w.heap.size+1) 1) (PP xa)).setCell (PN (w.heap.size+1) 2) (PP xb)).setCell (PN (w.heap.size+1) 3) (PP xd)).setCell (PN (w.heap.size+1) 4) (PP 0)).setCell (PN (w.heap.size+1) 5) (PQ pl)).setCell (PN (w.heap.size+1) 6) (PQ c)).ownsRow w.heap.size 88 7 (PM (w.heap.size+1) 1 1) 1 (aB ⟨s+more,xa,xb,xd,0,pl,c⟩)/\w9.grownBy (((((((w9.setCell (PN (w.heap.size+1) 0) (PO (s+more))).setCell (PN (w.heap.size+1) 1) (PP xa)).setCell (PN (w.heap.size+1) 2) (PP xb)).setCell (PN (w.heap.size+1) 3) (PP xd)).setCell (PN (w.heap.size+1) 4) (PP 0)).setCell (PN (w.heap.size+1) 5) (PQ pl)).setCell (PN (w.heap.size+1) 6) (PQ c)) (some (w.heap.size+1))):=HRP.o;generalize (((((((w9.setCell (PN (w.heap.size+1) 0) (PO (s+more))).setCell (PN (w.heap.size+1) 1) (PP xa)).setCell (PN (w.heap.size+1) 2) (PP xb)).setCell (PN (w.heap.size+1) 3) (PP xd)).setCell (PN (w.heap.size+1) 4) (PP 0)).setCell (PN (w.heap.size+1) 5) (PQ pl)).setCell (PN (w.heap.size+1) 6) (PQ c))=wz at HRP2⊢;have HBF:=ae (HT9.o.below.trans (cQ HRP2.o.2 (by omega) HT9.o.below.size));have HRR:=ae (HRP2.o.1);rw[HFIN.o];refine OC (v:=.agg #[PO (s+more),PP xa,PP xb,PP xd,PP 0,PQ pl,PQ c]) ?_ rfl ⟨rfl,HBF.o⟩;have x0:=HRR.o.cellAt 0 (by omega);have x1:=HRR.o.cellAt 1 (by omega);have x2:=HRR.o.cellAt 2 (by omega);have x3:=HRR.o.cellAt 3 (by omega);have x4:=HRR.o.cellAt 4 (by omega);have x5:=HRR.o.cellAt 5 (by omega);have x6:=HRR.o.cellAt 6 (by omega);simp only[aB,List.getElem?_cons_zero,List.getElem?_cons_succ] at x0 x1 x2 x3 x4 x5 x6;simp[results,Tryz.results119,go_sem,x0,x1,x2,x3,x4,x5,x6]
theorem Tryz.infoI64Z:(prog.info? 2).map (λi=>(i.zero,i.size,i.bytes))=some (some (PO 0),1,8):=by kernel_rfl
structure fj(w wr:PJ)(p n o v k0 k1 k2:Int)(sv:PK)(ss:PI):Prop where
 below:Io w wr
 box:bO wr w.heap.size p n o v
 own:wr.ownsRow w.heap.size 122 5 (PM (w.heap.size+1) 1 1) 1 [.int .u32 p,PO k0,PO k1,PO k2,sv]
 st:wr.ownsRow (w.heap.size+1+1) 2 1 sv ss.length (ss.map (Value.int .i64))
 ge:w.heap.size+1+1<=wr.heap.size
variable{ss:PI}{sv:PK}{p n o v k0 k1 k2:Int}
theorem fj.next(h:fj w wr p n o v k0 k1 k2 sv ss)(hb:Io wr w'):fj w w' p n o v k0 k1 k2 sv ss:=
 ⟨In h.below hb,h.box.below hb,aF h.own hb,aF h.st hb,OA h.ge hb.size⟩
theorem fj.first(w:PJ)(p n o v:Int):fj w ((w.alloc (.cells #[PO p,PO n,PO o,PO v] 23)).alloc (.cells #[.int .u32 p,PO 0,PO 0,PO 0,.slice none 0 0] 122)) p n o v 0 0 0 (.slice none 0 0) []:=by refine⟨cY,(bO.new w p n o v _).below ai,?_,World.ownsRow_nil _ _ _ _,by simp⟩;exact⟨by simp,.inr ⟨w.heap.size+1,1,_,rfl,by omega,by have:=heap_alloc_new (w.alloc (.cells #[PO p,PO n,PO o,PO v] 23)) (.cells #[.int .u32 p,PO 0,PO 0,PO 0,.slice none 0 0] 122);simpa using this,Ou _,by decide,by simp,by simp⟩⟩
variable{l0 l1 l2:Int}
theorem fj.put{sv2:PK}(h:fj w wr p n o v k0 k1 k2 sv ss)(j:Nat)(u:PK)(he:([.int .u32 p,PO k0,PO k1,PO k2,sv]:PH).set j u=[.int .u32 p,PO l0,PO l1,PO l2,sv2])(hs:(wr.setCell (PN (w.heap.size+1) j) u).ownsRow (w.heap.size+1+1) 2 1 sv2 ss.length (ss.map (Value.int .i64))):fj w (wr.setCell (PN (w.heap.size+1) j) u) p n o v l0 l1 l2 sv2 ss:=by have s1:=h.own.stored j u;rw[he] at s1;have far:=λo=>j7 (o:=o) (b:=w.heap.size) s1.2 h.box.1 (by omega);obtain⟨bl,b0,b1,b2,b3⟩:=h.box;exact⟨h.below.trans (cQ s1.2 (by omega) h.below.size),⟨Oz bl s1.2.size,by rw[far];exact b0,by rw[far];exact b1,by rw[far];exact b2,by rw[far];exact b3⟩,s1.1,hs,OA h.ge s1.2.size⟩
theorem fj.putK(h:fj w wr p n o v k0 k1 k2 sv ss)(j:Nat)(u:PK)(he:([.int .u32 p,PO k0,PO k1,PO k2,sv]:PH).set j u=[.int .u32 p,PO l0,PO l1,PO l2,sv]):fj w (wr.setCell (PN (w.heap.size+1) j) u) p n o v l0 l1 l2 sv ss:=
 h.put j u he (h.st.kept (h.own.stored j u).2 (by
  cases ho:sv.ownBlock with
  |none=>exact Pf rfl
  |some g=>right;have:=(Ot h.st g ho).1;simp[Value.ownBlock];omega))
variable{w5:PJ}
theorem fj.grow{x:Int}{v5:PK}(h:fj w wr p n o v k0 k1 k2 sv ss)(h5:w5.ownsRow (w.heap.size+1+1) 2 1 v5 (ss.length+1) (ss.map (Value.int .i64)++[PO x]))(hg:wr.grownBy w5 sv.ownBlock):fj w (w5.setCell (PN (w.heap.size+1) 4) v5) p n o v k0 k1 k2 v5 (ss++[x]):=by
 have hlt:∀g,sv.ownBlock=some g->w.heap.size+1+1<=g:=λg e=>(Ot h.st g e).1;have o5:=h.own.kept hg (by
  right;intro e;have:=hlt (w.heap.size+1) (by rw[<-e];rfl);omega)
 have b5:Below (w.heap.size+1) wr w5:=(Ov _ _).grown hg (OA (by omega) h.ge) (λk hk=>by have:=hlt k hk;omega);have s1:=o5.stored 4 v5;have b6:Below (w.heap.size+1) wr (w5.setCell (PN (w.heap.size+1) 4) v5):=b5.trans (cQ s1.2 (Ou _) (by have:=h.ge;have:=b5.size;omega));have far:∀o,(w5.setCell (PN (w.heap.size+1) 4) v5).cell? (PN w.heap.size o)=wr.cell? (PN w.heap.size o):=λo=>World.cell?_of_block (b6.block w.heap.size (by omega));obtain⟨bl,b0,b1,b2,b3⟩:=h.box;refine⟨h.below.trans (b6.mono (by omega)),⟨Oz bl b6.size,by rw[far];exact b0,by rw[far];exact b1,by rw[far];exact b2,by rw[far];exact b3⟩,by have h:=s1.1;exact h,?_,OA h.ge b6.size⟩;have h6:=h5.kept s1.2 (by
  right;intro e;have:=(Ot h5 (w.heap.size+1) e).1;omega)
 simpa using h6
theorem fj.mid(h:fj w wr p n o v k0 k1 k2 sv ss)(hg:wr.grownBy w5 sv.ownBlock):w5.ownsRow w.heap.size 122 5 (PM (w.heap.size+1) 1 1) 1 [.int .u32 p,PO k0,PO k1,PO k2,sv]:=
 h.own.kept hg (by
  right;intro e;have:=(Ot h.st (w.heap.size+1) (by rw[<-e];rfl)).1;omega)
theorem D6(wr:PJ)(x:Int)(T:TypeId):∀j u,[Value.int .i64 x][j]?=some u->(wr.alloc (.cells #[PO x] T)).drew.cell? (((PN wr.heap.size 0):Addr).add j)=some u:=by intro j u hj;show (wr.alloc (.cells #[PO x] T)).cell? _=_;exact cell_one_new _ _ _ j u hj
theorem D7(wr:PJ)(x:Int)(T:TypeId):∀j u,[Value.int .i64 x][j]?=some u->(wr.drew.alloc (.cells #[PO x] T)).cell? (((PN wr.heap.size 0):Addr).add j)=some u:=by intro j u hj;exact cell_one_new wr.drew _ _ j u hj
def am(o:Int)(n k i:Nat):Int:=if i<k/\i<n then kN o i else 0
theorem NT(p o:Int)(n k:Nat)(sv:PK)(h:k<n)(h3:n<=3):([.int .u32 p,PO (am o n k 0),PO (am o n k 1),PO (am o n k 2),sv]:PH).set (1+k) (PO (kN o k))=[.int .u32 p,PO (am o n (k+1) 0),PO (am o n (k+1) 1),PO (am o n (k+1) 2),sv]:=by
 have hk:k=0\/k=1\/k=2:=by omega
 have hn:n=1\/n=2\/n=3:=by omega
 rcases hk with rfl|rfl|rfl<;>rcases hn with rfl|rfl|rfl<;>first|(exfalso;omega)|rfl
def fE:Int:=-288230376151711744
theorem NU(m:Nat)(h:m<=200):0<=bS 1 m/\bS 1 m<=255:=by unfold bS;simp;omega
theorem rC(p o v:Int)(n R M:Nat)(w:PJ)(hp:2<=p/\p<=101)(ho:o=1\/o=2)(hv:v=1\/v=2)(hn:n<=3)(hR:R<=200)(hM:M<=200):Calls prog 40 #[aI p n o v,PO R,PO M] w λe w'=>∃ob sv,e=.returned (PL ob)/\aQ w' ob p (am o n n 0) (am o n n 1) (am o n n 2) sv/\Sl w' sv ((List.range R).map (λi:Nat=>bS v (i:Int))++(List.range M).map λi:Nat=>fE+bS 1 (i:Int))/\Io w w':=by
 have HO:=ae ho;have HV:=ae hv;obtain⟨hp0,hp1⟩:=hp;have hwp:IntKind.u32.wrap p=p:=by rw[IntKind.wrap_u32];omega
 have H0:=ae (fj.first w p n o v);obtain⟨w1,hw1⟩:∃w1,w1=(w.alloc (.cells #[PO p,PO n,PO o,PO v] 23)).alloc (.cells #[.int .u32 p,PO 0,PO 0,PO 0,.slice none 0 0] 122):=⟨_,rfl⟩;rw[<-hw1] at H0;clear ho hv;go_enter func40,ntmps40;go_wp2_with fail;rw[<-hw1];clear hw1;go_loopw [18] (λi wr=>∃k:Nat,k<=n/\i=PO k/\fj w wr p n o v (am o n k 0) (am o n k 1) (am o n k 2) (.slice none 0 0) []) (λi _=>n-(intOf i).toNat);case atStart=>exact⟨0,OB _,rfl,H0.o⟩
 case round=>
  clear H0;obtain⟨k,hk,rfl,ht⟩:=hrel;have HT:=ae ht;clear ht;by_cases hk2:k<n
  .obtain⟨_,b0,b1,b2,b3⟩:=HT.o.box;have HWT:=ae (fun(W:PJ)=>NJ o k W HO.o (by omega));have HSET:=ae (NT p o n k (.slice none 0 0) hk2 hn);have z1:∃u,wr.cell? (PN (w.heap.size+1) (1+k))=some u:=by have h:=HT.o.own.cellAt (1+k) (by omega);rw[OI (by simp;omega)] at h;exact⟨_,h⟩
   obtain⟨u,z1⟩:=z1;have z2:=HT.o.own.frozenAt (1+k);have hk3:(k:Int)<3:=by omega
   generalize kN o k=wk at HWT HSET;go_wp2;go_region_with (go_at_call 78;refine(HWT.o _).mono ?_;rintro e w8 ⟨rfl,rfl⟩);all_goals
    go_wp2;go_roundw;case rel=>exact⟨k+1,by omega,by go_num,by first|exact(HT.o.next (Ov _ _).drew).putK _ _ HSET.o|exact(HT.o.putK _ _ HSET.o).next (Ov _ _).drew⟩
    case measure=>simp[intOf];omega
  .have e:k=n:=by omega
   subst e;generalize hg0:am o k k 0=g0 at HT;generalize hg1:am o k k 1=g1 at HT;generalize hg2:am o k k 2=g2 at HT;have HG:=ae (Ow hg0 (Ow hg1 hg2));clear hg0 hg1 hg2;go_wp2;go_loopw [32] (λi wr=>∃(m:Nat)(sv:PK),m<=R/\i=PO m/\fj w wr p k o v g0 g1 g2 sv ((List.range m).map λi:Nat=>bS v (i:Int))) (λi _=>R-(intOf i).toNat);case atStart=>exact⟨0,_,OB _,rfl,HT.o⟩
   case round=>
    clear HT;obtain⟨m,sv,hm,rfl,ht⟩:=hrel;have HT:=ae ht;clear ht;by_cases hm2:m<R
    .obtain⟨_,b0,b1,b2,b3⟩:=HT.o.box;have HSA:=ae (fun(W:PJ)=>D3 v m W HV.o (by omega));have HR:Po (((List.range (m+1)).map λi:Nat=>bS v (i:Int))=((List.range m).map λi:Nat=>bS v (i:Int))++[bS v m]):=by show _=_;rw[List.range_succ];simp
     have HL:Po (((List.range m).map λi:Nat=>bS v (i:Int)).length=m):=by show _=_;simp
     generalize ((List.range m).map λi:Nat=>bS v (i:Int))=ss at HT HR HL;generalize bS v m=x at HSA HR;have z1:wr.cell? (PN (w.heap.size+1) 4)=some sv:=HT.o.own.cellAt 4 (by omega);have z2:=HT.o.own.frozenAt 4;obtain⟨ya,yc,hy⟩:=cE HT.o.st;rw[HL.o] at hy;subst hy;obtain⟨i0,hi0,hz0,hz1,hz2⟩:∃i0,prog.info? 2=some i0/\i0.zero=some (PO 0)/\i0.size=1/\i0.bytes=8:=by
      have h:=Tryz.infoI64Z;cases hi:prog.info? 2 with
      |none=>rw[hi] at h;cases h
      |some i0=>rw[hi] at h;simp only[Option.map_some,OP,Prod.mk.injEq] at h;exact⟨i0,rfl,h.1,h.2.1,h.2.2⟩
     have HI:=ae (Ow hi0 (Ow hz0 (Ow hz1 hz2)));clear hi0 hz0 hz1 hz2;have HOWN:Po (∀W,Io wr W->W.ownsRow (w.heap.size+1+1) 2 1 (.slice ya m yc) ss.length (ss.map (Value.int .i64))):=λW hb=>aF HT.o.st hb;go_wp2;have HA:=ae (HT.o.next ((ai (w:=wr) (A:=.cells #[PO x] 2)).drew));have HB:=ae (HT.o.next (((Ov wr.heap.size wr).drew).alloc (Ou _) (.cells #[PO x] 2)));have z3:(wr.alloc (.cells #[PO x] 2)).cell? (PN (w.heap.size+1) 4)=some (.slice ya m yc):=HA.o.own.cellAt 4 (by omega);have z4:(wr.drew.alloc (.cells #[PO x] 2)).cell? (PN (w.heap.size+1) 4)=some (.slice ya m yc):=HB.o.own.cellAt 4 (by omega);go_region_law (first|(refine nO rfl (.tmp 39) (.tmp 44) 120 rfl (w.heap.size+1+1) 2 i0 (PO 0) 1 8 underlying120 HI.o.1 HI.o.2.1 HI.o.2.2.1 HI.o.2.2.2 rfl (by decide) (.slice ya m yc) ss.length (ss.map (Value.int .i64)) (by simp[Act.eval,Act.put]) HA.o.st (PN wr.heap.size 0) 1 1 [PO x] (by simp[Act.eval,Act.put]) rfl (D6 wr x _) (rR _) (by unfold maxLen;have:=HL.o;omega) (by have:=HL.o;omega) HA.o.ge ?_;intro v5 w5 r1 r2 r3;obtain⟨va5,vc5,hv5⟩:=cE r1;subst hv5;have HM:=ae (HA.o.grow r1 r2);have y1:w5.cell? (PN (w.heap.size+1) 4)=some (.slice ya m yc):=(HA.o.mid r2).cellAt 4 (by omega);have y2:=(HA.o.mid r2).frozenAt 4;clear r1 r2 r3)|(refine nO rfl (.tmp 39) (.tmp 44) 120 rfl (w.heap.size+1+1) 2 i0 (PO 0) 1 8 underlying120 HI.o.1 HI.o.2.1 HI.o.2.2.1 HI.o.2.2.2 rfl (by decide) (.slice ya m yc) ss.length (ss.map (Value.int .i64)) (by simp[Act.eval,Act.put]) HB.o.st (PN wr.heap.size 0) 1 1 [PO x] (by simp[Act.eval,Act.put]) rfl (D7 wr x _) (rR _) (by unfold maxLen;have:=HL.o;omega) (by have:=HL.o;omega) HB.o.ge ?_;intro v5 w5 r1 r2 r3;obtain⟨va5,vc5,hv5⟩:=cE r1;subst hv5;have HM:=ae (HB.o.grow r1 r2);have y1:w5.cell? (PN (w.heap.size+1) 4)=some (.slice ya m yc):=(HB.o.mid r2).cellAt 4 (by omega);have y2:=(HB.o.mid r2).frozenAt 4;clear r1 r2 r3)|(go_simp;refine(HSA.o _).mono ?_;rintro e w8 ⟨rfl,rfl⟩;dsimp only));all_goals
      go_wp2;go_roundw;case rel=>exact⟨m+1,_,by omega,by go_num,by rw[HR.o];exact HM.o⟩
      case measure=>simp[intOf];omega
    .have e:m=R:=by omega
     subst e;generalize hs0:((List.range m).map λi:Nat=>bS v (i:Int))=ss0 at HT;have HS0:=ae hs0;have HL0:Po (ss0.length=m):=by show _=_;rw[<-HS0.o];simp
     clear hs0;go_wp2;go_loopw [50] (λi wr=>∃(m2:Nat)(sv:PK),m2<=M/\i=PO m2/\fj w wr p k o v g0 g1 g2 sv (ss0++(List.range m2).map λi:Nat=>fE+bS 1 (i:Int))) (λi _=>M-(intOf i).toNat);case atStart=>exact⟨0,_,OB _,rfl,by simpa using HT.o⟩
     case round=>
      clear HT;obtain⟨m2,sv,hm9,rfl,ht⟩:=hrel;have HT:=ae ht;clear ht;by_cases hm2:m2<M
      .obtain⟨_,b0,b1,b2,b3⟩:=HT.o.box;have HSA:=ae (fun(W:PJ)=>D3 1 m2 W (Pf rfl) (by omega));have HR:Po ((ss0++(List.range (m2+1)).map λi:Nat=>fE+bS 1 (i:Int))=(ss0++(List.range m2).map λi:Nat=>fE+bS 1 (i:Int))++[fE+bS 1 m2]):=by show _=_;rw[List.range_succ];simp
       have HL:Po ((ss0++(List.range m2).map λi:Nat=>fE+bS 1 (i:Int)).length=m+m2):=by show _=_;simp[HL0.o]
       generalize (ss0++(List.range m2).map λi:Nat=>fE+bS 1 (i:Int))=ss at HT HR HL;have hxb:=NU m2 (by omega);have hwb:IntKind.wrap .i64 (-288230376151711744+bS 1 m2)=fE+bS 1 m2:=by unfold fE;rw[IntKind.wrap_i64];omega
       generalize bS 1 m2=x0 at HSA HR hxb hwb;generalize fE+x0=x at HR hwb;have z1:wr.cell? (PN (w.heap.size+1) 4)=some sv:=HT.o.own.cellAt 4 (by omega);have z2:=HT.o.own.frozenAt 4;obtain⟨ya,yc,hy⟩:=cE HT.o.st;rw[HL.o] at hy;subst hy;obtain⟨i0,hi0,hz0,hz1,hz2⟩:∃i0,prog.info? 2=some i0/\i0.zero=some (PO 0)/\i0.size=1/\i0.bytes=8:=by
        have h:=Tryz.infoI64Z;cases hi:prog.info? 2 with
        |none=>rw[hi] at h;cases h
        |some i0=>rw[hi] at h;simp only[Option.map_some,OP,Prod.mk.injEq] at h;exact⟨i0,rfl,h.1,h.2.1,h.2.2⟩
       have HI:=ae (Ow hi0 (Ow hz0 (Ow hz1 hz2)));clear hi0 hz0 hz1 hz2;have HOWN:Po (∀W,Io wr W->W.ownsRow (w.heap.size+1+1) 2 1 (.slice ya (m+m2) yc) ss.length (ss.map (Value.int .i64))):=λW hb=>aF HT.o.st hb;go_wp2;have HA:=ae (HT.o.next ((ai (w:=wr) (A:=.cells #[PO x] 2)).drew));have HB:=ae (HT.o.next (((Ov wr.heap.size wr).drew).alloc (Ou _) (.cells #[PO x] 2)));have z3:(wr.alloc (.cells #[PO x] 2)).cell? (PN (w.heap.size+1) 4)=some (.slice ya (m+m2) yc):=HA.o.own.cellAt 4 (by omega);have z4:(wr.drew.alloc (.cells #[PO x] 2)).cell? (PN (w.heap.size+1) 4)=some (.slice ya (m+m2) yc):=HB.o.own.cellAt 4 (by omega);go_region_law (first|(refine nO rfl (.tmp 57) (.tmp 61) 120 rfl (w.heap.size+1+1) 2 i0 (PO 0) 1 8 underlying120 HI.o.1 HI.o.2.1 HI.o.2.2.1 HI.o.2.2.2 rfl (by decide) (.slice ya (m+m2) yc) ss.length (ss.map (Value.int .i64)) (by simp[Act.eval,Act.put]) HA.o.st (PN wr.heap.size 0) 1 1 [PO x] (by simp[Act.eval,Act.put]) rfl (D6 wr x _) (rR _) (by unfold maxLen;have:=HL.o;omega) (by have:=HL.o;omega) HA.o.ge ?_;intro v5 w5 r1 r2 r3;obtain⟨va5,vc5,hv5⟩:=cE r1;subst hv5;have HM:=ae (HA.o.grow r1 r2);have y1:w5.cell? (PN (w.heap.size+1) 4)=some (.slice ya (m+m2) yc):=(HA.o.mid r2).cellAt 4 (by omega);have y2:=(HA.o.mid r2).frozenAt 4;clear r1 r2 r3)|(refine nO rfl (.tmp 57) (.tmp 61) 120 rfl (w.heap.size+1+1) 2 i0 (PO 0) 1 8 underlying120 HI.o.1 HI.o.2.1 HI.o.2.2.1 HI.o.2.2.2 rfl (by decide) (.slice ya (m+m2) yc) ss.length (ss.map (Value.int .i64)) (by simp[Act.eval,Act.put]) HB.o.st (PN wr.heap.size 0) 1 1 [PO x] (by simp[Act.eval,Act.put]) rfl (D7 wr x _) (rR _) (by unfold maxLen;have:=HL.o;omega) (by have:=HL.o;omega) HB.o.ge ?_;intro v5 w5 r1 r2 r3;obtain⟨va5,vc5,hv5⟩:=cE r1;subst hv5;have HM:=ae (HB.o.grow r1 r2);have y1:w5.cell? (PN (w.heap.size+1) 4)=some (.slice ya (m+m2) yc):=(HB.o.mid r2).cellAt 4 (by omega);have y2:=(HB.o.mid r2).frozenAt 4;clear r1 r2 r3)|(go_simp;refine(HSA.o _).mono ?_;rintro e w8 ⟨rfl,rfl⟩;dsimp only));all_goals
        go_wp2;go_roundw;case rel=>exact⟨m2+1,_,by omega,by go_num,by rw[HR.o];exact HM.o⟩
        case measure=>simp[intOf];omega
      .have e:m2=M:=by omega
       subst e;go_wp2;go_ret;refine⟨w.heap.size+1,sv,rfl,?_,by have h:=BG HT.o.st;rw[<-HS0.o] at h;exact h,HT.o.below⟩;rw[HG.o.1,HG.o.2.1,HG.o.2.2];have ho:=HT.o.own;have hl:=HT.o.ge;exact⟨by omega,ho.cellAt 0 (by omega),ho.cellAt 1 (by omega),ho.cellAt 2 (by omega),ho.cellAt 3 (by omega),ho.cellAt 4 (by omega)⟩
end Go.Proofs.YtjkalahhpobefaaGreat
