/- A term, made flat. -/
import Derived.Test.YtjkalahhpobefaaGreatZB
import Derived.Test.YtjkalahhpobefaaGreatPL
set_option maxHeartbeats 2000000
set_option maxRecDepth 100000
namespace Go.Proofs.YtjkalahhpobefaaGreat
set_option linter.all false
open Go.Proofs.Tryz Go.RowKit
def dL(xs:OP)(k:Nat)(j:Nat):Int:=(xs.take k).getD j 0
def so(s pl c:Int)(xs:OP)(k:Nat):Ft:=⟨s,dL xs k 0,dL xs k 1,dL xs k 2,0,pl,c⟩
structure iw(w wr:OQ)(c:Int)(ev:OR)(t:Ft):Prop where
 below:LT w wr
 b0:wr.cell? (OV w.heap.size 0)=some (OW c)
 b1:wr.cell? (OV w.heap.size 1)=some ev
 res:wr.ownsRow w.heap.size 88 7 (OU (w.heap.size+1) 1 1) 1 (aB dW)
 own:wr.ownsRow w.heap.size 88 7 (OU (w.heap.size+1+1) 1 1) 1 (aB t)
 lt:w.heap.size<wr.heap.size
variable{t:Ft}{ev:OR}{c:Int}{w wr w':OQ}
theorem iw.next(h:iw w wr c ev t)(hb:LT wr w'):iw w w' c ev t:=
 ⟨Io h.below hb,af h.b0 hb,af h.b1 hb,aF h.res hb,aF h.own hb,NQ h.lt hb.size⟩
theorem iw.first(w:OQ)(c:Int)(ev:OR)(t:Ft):iw w (((w.alloc (.cells #[OW c,ev] 47)).alloc (.cells #[OW 0,OX 0,OX 0,OX 0,OX 0,OY 0,OY 0] 88)).alloc (.cells #[OW t.k,OX t.a,OX t.b,OX t.d,OX t.z,OY t.pl,OY t.c] 88)) c ev t:=by
 have h1:=dB (w:=w.alloc (.cells #[OW c,ev] 47)) (B:=w.heap.size) (by simp) dW;have h2:=dB (w:=(w.alloc (.cells #[OW c,ev] 47)).alloc (.cells #[OW 0,OX 0,OX 0,OX 0,OX 0,OY 0,OY 0] 88)) (B:=w.heap.size) (by simp;omega) t;refine⟨nU,by simp[go_sem],by simp[go_sem],?_,?_,by simp;omega⟩
 .have:=aF h1 (ai (A:=.cells #[OW t.k,OX t.a,OX t.b,OX t.d,OX t.z,OY t.pl,OY t.c] 88));simpa [dW] using this
 .simpa using h2
theorem iw.put{t2:Ft}(h:iw w wr c ev t)(j:Nat)(v:OR)(he:(aB t).set j v=aB t2):iw w (wr.setCell (OV (w.heap.size+1+1) j) v) c ev t2:=by have s1:=h.own.stored j v;rw[he] at s1;have far:=λo=>jZ (o:=o) (b:=w.heap.size) s1.2 h.lt (by omega);exact⟨h.below.trans (cV s1.2 (by omega) h.below.size),by rw[far];exact h.b0,by rw[far];exact h.b1,h.res.kept s1.2 (Oy (by simp[Value.ownBlock])),s1.1,NQ h.lt s1.2.size⟩
theorem iw.cells(h:iw w wr c ev t):wr.cell? (OV (w.heap.size+1+1) 0)=some (OW t.k)/\wr.cell? (OV (w.heap.size+1+1) 1)=some (OX t.a)/\wr.cell? (OV (w.heap.size+1+1) 2)=some (OX t.b)/\wr.cell? (OV (w.heap.size+1+1) 3)=some (OX t.d)/\wr.cell? (OV (w.heap.size+1+1) 4)=some (OX t.z)/\wr.cell? (OV (w.heap.size+1+1) 5)=some (OY t.pl)/\wr.cell? (OV (w.heap.size+1+1) 6)=some (OY t.c):=
 ⟨h.own.cellAt 0 (by omega),h.own.cellAt 1 (by omega),h.own.cellAt 2 (by omega),h.own.cellAt 3 (by omega),h.own.cellAt 4 (by omega),h.own.cellAt 5 (by omega),h.own.cellAt 6 (by omega)⟩
def fe(s k0 k1 k2 pl:Int)(t:Tm):Ft:=⟨s+(t.2.getD 0 0*k0+t.2.getD 1 0*k1+t.2.getD 2 0*k2),t.2.getD 0 0,t.2.getD 1 0,t.2.getD 2 0,0,pl,t.1⟩
theorem JW{B g:Nat}{u:Ft}(h:w.ownsRow B 88 7 (OU g 1 1) 1 (aB u))(t:Ft):(pG w g 0 t).ownsRow B 88 7 (OU g 1 1) 1 (aB t)/\w.grownBy (pG w g 0 t) (some g):=by have s1:=h.stored 0 (OW t.k);have s2:=s1.1.stored 1 (OX t.a);have s3:=s2.1.stored 2 (OX t.b);have s4:=s3.1.stored 3 (OX t.d);have s5:=s4.1.stored 4 (OX t.z);have s6:=s5.1.stored 5 (OY t.pl);have s7:=s6.1.stored 6 (OY t.c);exact⟨s7.1,cZ (cZ (cZ (cZ (cZ (cZ s1.2 s2.2) s3.2) s4.2) s5.2) s6.2) s7.2⟩
theorem JX(s pl c:Int)(xs:OP)(k:Nat)(h:k<xs.length)(h3:xs.length<=3):(aB (so s pl c xs k)).set (1+k) (OX (xs.getD k 0))=aB (so s pl c xs (k+1)):=by
 match xs,k,h,h3 with
 |[x],0,_,_=>rfl
 |[x,y],0,_,_=>rfl
 |[x,y],1,_,_=>rfl
 |[x,y,z],0,_,_=>rfl
 |[x,y,z],1,_,_=>rfl
 |[x,y,z],2,_,_=>rfl
 |_::_::_::_::_,_,_,h=>exact absurd h (by simp)
theorem om{xs:OP}(h:∀x∈xs,0<=x/\x<=30000)(k j:Nat):0<=dL xs k j/\dL xs k j<=65535:=by
 unfold dL;rw[NY];cases hj:(xs.take k)[j]? with
 |none=>simp
 |some x=>have:=h x (OA (List.mem_of_getElem? hj));simp;omega
theorem JY(ob pl:Nat)(p k0 k1 k2:Int)(sv ev:OR)(ss xs:OP)(c:Int)(w:OQ)(hob:aQ w ob p k0 k1 k2 sv)(hs:Sl w sv ss)(hpl:pl<ss.length)(hpl2:pl<=255)(hss:∀s∈ss,-600000000000000000<=s/\s<=600000000000000000)(h0:0<=k0/\k0<=137438953472)(h1:0<=k1/\k1<=137438953472)(h2:0<=k2/\k2<=137438953472)(hc:0<=c/\c<=255)(hx0:0<xs.length)(hx3:xs.length<=3)(hxs:∀x∈xs,0<=x/\x<=30000)(he:Sl w ev xs):Calls prog 119 #[OS ob,OW pl,.agg #[OW c,ev]] w λe w'=>e=.returned (aX (fe (ss.getD pl 0) k0 k1 k2 pl (c,xs)))/\LT w w':=by
 obtain⟨hc0,hc1⟩:=hc;have HE:=ae he;have HXS:=ae hxs;have HSS:=ae (hss _ (lP ss pl hpl));have HOB:=ae hob;obtain⟨ea,ec,rfl,hei⟩:=he;obtain⟨eb,eoff,rfl,helt,hec⟩:=hei hx0;obtain⟨sa,sc,rfl,hsi⟩:=hs;obtain⟨sb,soff,rfl,hslt,hsc⟩:=hsi (by omega);have s0:=hsc pl hpl;have HS0:=ae s0;generalize ss.getD pl 0=s at s0 HS0 HSS⊢;obtain⟨olt,o0,o1,o2,o3,o4⟩:=hob;clear hxs hss hei hsi hsc;have HT0:=ae (iw.first w c (.slice (some (OV eb eoff)) xs.length ec) ⟨s,0,0,0,0,pl,c⟩);obtain⟨wa,hwa⟩:∃wa,wa=(w.alloc (.cells #[OW c,.slice (some (OV eb eoff)) xs.length ec] 47)).alloc (.cells #[OW 0,OX 0,OX 0,OX 0,OX 0,OY 0,OY 0] 88):=⟨_,rfl⟩;have HBA:OE (LT w wa):=by rw[hwa];exact dR
 have HSZ:OE (wa.heap.size=w.heap.size+1+1):=by show _=_;rw[hwa];simp
 have z0:wa.cell? (OV w.heap.size 0)=some (OW c):=by rw[hwa];simp[go_sem]
 have z1:wa.cell? (OV w.heap.size 1)=some (.slice (some (OV eb eoff)) xs.length ec):=by rw[hwa];simp[go_sem]
 have y0:=af s0 HBA.o;have y1:=af o4 HBA.o;clear s0 o0 o1 o2 o3 o4;have hpi:(pl:Int)<(ss.length:Int):=by omega
 have hwp:IntKind.u8.wrap (pl:Int)=pl:=by rw[IntKind.wrap_u8];omega
 have hwc:IntKind.u8.wrap c=c:=by rw[IntKind.wrap_u8];omega
 go_enter func119,ntmps119;go_wp2_with fail;rw[<-hwa];rw[<-hwa] at HT0;clear hwa;have n0:=World.new_ne wa _ z0;have n1:=World.new_ne wa _ y0;have n2:=World.new_ne wa _ y1;simp only at n0 n1 n2;go_region_held (λW=>W.cell? (OV w.heap.size 0)=some (OW c)/\W.cell? (OV sb (soff+pl))=some (OW s)/\W.cell? (OV ob 4)=some (.slice (some (OV sb soff)) ss.length sc)) (go_keep) (fail);have HT1:OE (iw w (wa.alloc (.cells #[OW s,OX 0,OX 0,OX 0,OX 0,OY pl,OY c] 88)).drew c (.slice (some (OV eb eoff)) xs.length ec) (so s pl c xs 0)):=HT0.o.next (NM _ _).drew;generalize (wa.alloc (.cells #[OW s,OX 0,OX 0,OX 0,OX 0,OY pl,OY c] 88)).drew=wb at HT1⊢;rw[HSZ.o];clear HT0 z0 z1 y0 y1 n0 n1 n2;have zb:=HT1.o.b1;go_wp2;clear zb;go_loopw [26] (λi wr=>∃k:Nat,k<=xs.length/\i=OW k/\iw w wr c (.slice (some (OV eb eoff)) xs.length ec) (so s pl c xs k)) (λi _=>xs.length-(intOf i).toNat);case atStart=>exact⟨0,NS _,rfl,HT1.o⟩
 case round=>
  clear HT1;obtain⟨k,hk,rfl,ht⟩:=hrel;have HT:=ae ht;clear ht;by_cases hk2:k<xs.length
  .have x0:=af (hec k hk2) HT.o.below;obtain⟨hx1,hx2⟩:=HXS.o _ (lP xs k hk2);have HSET:=ae (JX s pl c xs k hk2 hx3);generalize xs.getD k 0=x at x0 hx1 hx2 HSET;have hwx:IntKind.u16.wrap x=x:=by rw[IntKind.wrap_u16];omega
   have hk4:(k:Int)<4:=by omega
   have z1:∃u,wr.cell? (OV (w.heap.size+1+1) (1+k))=some u:=by have h:=HT.o.own.cellAt (1+k) (by omega);rw[NZ (by simp[aB];omega)] at h;exact⟨_,h⟩
   obtain⟨u,z1⟩:=z1;have z2:=HT.o.own.frozenAt (1+k);go_wp2;go_roundw;case rel=>exact⟨k+1,by omega,by go_num,HT.o.put _ _ HSET.o⟩
   case measure=>simp[intOf];omega
  .have e:k=xs.length:=by omega
   subst e;have HAD:=ae (fun(W:OQ) (hW:aQ W ob p k0 k1 k2 (.slice (some (OV sb soff)) ss.length sc))=>vw ob p k0 k1 k2 _ (dL xs xs.length 0) (dL xs xs.length 1) (dL xs xs.length 2) 0 W hW (om HXS.o _ _) (om HXS.o _ _) (om HXS.o _ _) h0 h1 h2);unfold cA at HAD;have HADB:=ae (show-9007061815787520*3<=dL xs xs.length 0*k0+dL xs xs.length 1*k1+dL xs xs.length 2*k2/\dL xs xs.length 0*k0+dL xs xs.length 1*k1+dL xs xs.length 2*k2<=9007061815787520*3 from by
    obtain⟨m0,q0⟩:=i5 (om HXS.o xs.length 0) h0;obtain⟨m1,q1⟩:=i5 (om HXS.o xs.length 1) h1;obtain⟨m2,q2⟩:=i5 (om HXS.o xs.length 2) h2;exact⟨by omega,by omega⟩)
   have HFIN:OE (fe s k0 k1 k2 pl (c,xs)=⟨s+(dL xs xs.length 0*k0+dL xs xs.length 1*k1+dL xs xs.length 2*k2),dL xs xs.length 0,dL xs xs.length 1,dL xs xs.length 2,0,pl,c⟩):=by show _=_;unfold fe dL;rw[N5 (NL _)]
   have HTE:OE (iw w wr c (.slice (some (OV eb eoff)) xs.length ec) ⟨s,dL xs xs.length 0,dL xs xs.length 1,dL xs xs.length 2,0,pl,c⟩):=HT.o;generalize dL xs xs.length 0=xa at HAD HADB HFIN HTE;generalize dL xs xs.length 1=xb at HAD HADB HFIN HTE;generalize dL xs xs.length 2=xd at HAD HADB HFIN HTE;generalize xa*k0+xb*k1+xd*k2=more at HAD HADB HFIN;clear HT;obtain⟨m0,q0⟩:=HADB.o;obtain⟨m1,q1⟩:=HSS.o;have hwk:IntKind.i64.wrap (s+more)=s+more:=by rw[IntKind.wrap_i64];omega
   clear m0 q0 m1 q1;obtain⟨y0,y1,y2,y3,y4,y5,y6⟩:=HTE.o.cells;simp only at y0 y1 y2 y3 y4 y5 y6;go_wp2;go_region_with (go_at_call 111;refine(HAD.o _ ((HOB.o.below HTE.o.below).below (NM _ _).drew)).mono ?_;rintro e w8 ⟨rfl,hb8⟩;have HT8:=ae ((HTE.o.next (NM _ _).drew).next hb8);obtain⟨u0,u1,u2,u3,u4,u5,u6⟩:=HT8.o.cells;simp only at u0 u1 u2 u3 u4 u5 u6;have uf:=HT8.o.own.frozenAt 0;clear hb8);all_goals
    have HT9:=ae (HT8.o.put 0 (OW (s+more)) (t2:=⟨s+more,xa,xb,xd,0,pl,c⟩) rfl);generalize w8.setCell (OV (w.heap.size+1+1) 0) (OW (s+more))=w9 at HT9⊢;clear y0 y1 y2 y3 y4 y5 y6 u0 u1 u2 u3 u4 u5 u6 uf HT8 HTE;obtain⟨y0,y1,y2,y3,y4,y5,y6⟩:=HT9.o.cells;simp only at y0 y1 y2 y3 y4 y5 y6;have r0:=HT9.o.res.cellAt 0 (by omega);have q0:=HT9.o.res.frozenAt 0;have r1:=HT9.o.res.cellAt 1 (by omega);have q1:=HT9.o.res.frozenAt 1;have r2:=HT9.o.res.cellAt 2 (by omega);have q2:=HT9.o.res.frozenAt 2;have r3:=HT9.o.res.cellAt 3 (by omega);have q3:=HT9.o.res.frozenAt 3;have r4:=HT9.o.res.cellAt 4 (by omega);have q4:=HT9.o.res.frozenAt 4;have r5:=HT9.o.res.cellAt 5 (by omega);have q5:=HT9.o.res.frozenAt 5;have r6:=HT9.o.res.cellAt 6 (by omega);have q6:=HT9.o.res.frozenAt 6;simp only[aB,List.getElem?_cons_zero,List.getElem?_cons_succ] at r0 r1 r2 r3 r4 r5 r6;have HRP:=ae (JW HT9.o.res ⟨s+more,xa,xb,xd,0,pl,c⟩);go_wp2;have HRP2:OE ((((((((w9.setCell (OV (w.heap.size+1) 0) (OW (s+more))).setCell (OV (w.heap.size+1) 1) (OX xa)).setCell (OV (w.heap.size+1) 2) (OX xb)).setCell (OV (w.heap.size+1) 3) (OX xd)).setCell (OV (w.heap.size+1) 4) (OX 0)).setCell (OV (w.heap.size+1) 5) (OY pl)).setCell (OV (w.heap.size+1) 6) (OY c)).ownsRow w.heap.size 88 7 (OU (w.heap.size+1) 1 1) 1 (aB ⟨s+more,xa,xb,xd,0,pl,c⟩)/\w9.grownBy (((((((w9.setCell (OV (w.heap.size+1) 0) (OW (s+more))).setCell (OV (w.heap.size+1) 1) (OX xa)).setCell (OV (w.heap.size+1) 2) (OX xb)).setCell (OV (w.heap.size+1) 3) (OX xd)).setCell (OV (w.heap.size+1) 4) (OX 0)).setCell (OV (w.heap.size+1) 5) (OY pl)).setCell (OV (w.heap.size+1) 6) (OY c)) (some (w.heap.size+1))):=HRP.o;generalize (((((((w9.setCell (OV (w.heap.size+1) 0) (OW (s+more))).setCell (OV (w.heap.size+1) 1) (OX xa)).setCell (OV (w.heap.size+1) 2) (OX xb)).setCell (OV (w.heap.size+1) 3) (OX xd)).setCell (OV (w.heap.size+1) 4) (OX 0)).setCell (OV (w.heap.size+1) 5) (OY pl)).setCell (OV (w.heap.size+1) 6) (OY c))=wz at HRP2⊢;have HBF:=ae (HT9.o.below.trans (cV HRP2.o.2 (by omega) HT9.o.below.size));have HRR:=ae (HRP2.o.1);rw[HFIN.o];refine NT (v:=.agg #[OW (s+more),OX xa,OX xb,OX xd,OX 0,OY pl,OY c]) ?_ rfl ⟨rfl,HBF.o⟩;have x0:=HRR.o.cellAt 0 (by omega);have x1:=HRR.o.cellAt 1 (by omega);have x2:=HRR.o.cellAt 2 (by omega);have x3:=HRR.o.cellAt 3 (by omega);have x4:=HRR.o.cellAt 4 (by omega);have x5:=HRR.o.cellAt 5 (by omega);have x6:=HRR.o.cellAt 6 (by omega);simp only[aB,List.getElem?_cons_zero,List.getElem?_cons_succ] at x0 x1 x2 x3 x4 x5 x6;simp[results,Tryz.results119,go_sem,x0,x1,x2,x3,x4,x5,x6]
theorem Tryz.infoI64Z:(prog.info? 2).map (λi=>(i.zero,i.size,i.bytes))=some (some (OW 0),1,8):=by kernel_rfl
structure fh(w wr:OQ)(p n o v k0 k1 k2:Int)(sv:OR)(ss:OP):Prop where
 below:LT w wr
 box:bA wr w.heap.size p n o v
 own:wr.ownsRow w.heap.size 122 5 (OU (w.heap.size+1) 1 1) 1 [.int .u32 p,OW k0,OW k1,OW k2,sv]
 st:wr.ownsRow (w.heap.size+1+1) 2 1 sv ss.length (ss.map (Value.int .i64))
 ge:w.heap.size+1+1<=wr.heap.size
variable{ss:OP}{sv:OR}{p n o v k0 k1 k2:Int}
theorem fh.next(h:fh w wr p n o v k0 k1 k2 sv ss)(hb:LT wr w'):fh w w' p n o v k0 k1 k2 sv ss:=
 ⟨Io h.below hb,h.box.below hb,aF h.own hb,aF h.st hb,NR h.ge hb.size⟩
theorem fh.first(w:OQ)(p n o v:Int):fh w ((w.alloc (.cells #[OW p,OW n,OW o,OW v] 23)).alloc (.cells #[.int .u32 p,OW 0,OW 0,OW 0,.slice none 0 0] 122)) p n o v 0 0 0 (.slice none 0 0) []:=by refine⟨dR,(bA.new w p n o v _).below ai,?_,World.ownsRow_nil _ _ _ _,by simp⟩;exact⟨by simp,.inr ⟨w.heap.size+1,1,_,rfl,by omega,by have:=heap_alloc_new (w.alloc (.cells #[OW p,OW n,OW o,OW v] 23)) (.cells #[.int .u32 p,OW 0,OW 0,OW 0,.slice none 0 0] 122);simpa using this,NL _,by decide,by simp,by simp⟩⟩
variable{l0 l1 l2:Int}
theorem fh.put{sv2:OR}(h:fh w wr p n o v k0 k1 k2 sv ss)(j:Nat)(u:OR)(he:([.int .u32 p,OW k0,OW k1,OW k2,sv]:OO).set j u=[.int .u32 p,OW l0,OW l1,OW l2,sv2])(hs:(wr.setCell (OV (w.heap.size+1) j) u).ownsRow (w.heap.size+1+1) 2 1 sv2 ss.length (ss.map (Value.int .i64))):fh w (wr.setCell (OV (w.heap.size+1) j) u) p n o v l0 l1 l2 sv2 ss:=by have s1:=h.own.stored j u;rw[he] at s1;have far:=λo=>jZ (o:=o) (b:=w.heap.size) s1.2 h.box.1 (by omega);obtain⟨bl,b0,b1,b2,b3⟩:=h.box;exact⟨h.below.trans (cV s1.2 (by omega) h.below.size),⟨NQ bl s1.2.size,by rw[far];exact b0,by rw[far];exact b1,by rw[far];exact b2,by rw[far];exact b3⟩,s1.1,hs,NR h.ge s1.2.size⟩
theorem fh.putK(h:fh w wr p n o v k0 k1 k2 sv ss)(j:Nat)(u:OR)(he:([.int .u32 p,OW k0,OW k1,OW k2,sv]:OO).set j u=[.int .u32 p,OW l0,OW l1,OW l2,sv]):fh w (wr.setCell (OV (w.heap.size+1) j) u) p n o v l0 l1 l2 sv ss:=
 h.put j u he (h.st.kept (h.own.stored j u).2 (by
  cases ho:sv.ownBlock with
  |none=>exact Ox rfl
  |some g=>right;have:=(NK h.st g ho).1;simp[Value.ownBlock];omega))
variable{w5:OQ}
theorem fh.grow{x:Int}{v5:OR}(h:fh w wr p n o v k0 k1 k2 sv ss)(h5:w5.ownsRow (w.heap.size+1+1) 2 1 v5 (ss.length+1) (ss.map (Value.int .i64)++[OW x]))(hg:wr.grownBy w5 sv.ownBlock):fh w (w5.setCell (OV (w.heap.size+1) 4) v5) p n o v k0 k1 k2 v5 (ss++[x]):=by
 have hlt:∀g,sv.ownBlock=some g->w.heap.size+1+1<=g:=λg e=>(NK h.st g e).1;have o5:=h.own.kept hg (by
  right;intro e;have:=hlt (w.heap.size+1) (by rw[<-e];rfl);omega)
 have b5:Below (w.heap.size+1) wr w5:=(NM _ _).grown hg (NR (by omega) h.ge) (λk hk=>by have:=hlt k hk;omega);have s1:=o5.stored 4 v5;have b6:Below (w.heap.size+1) wr (w5.setCell (OV (w.heap.size+1) 4) v5):=b5.trans (cV s1.2 (NL _) (by have:=h.ge;have:=b5.size;omega));have far:∀o,(w5.setCell (OV (w.heap.size+1) 4) v5).cell? (OV w.heap.size o)=wr.cell? (OV w.heap.size o):=λo=>World.cell?_of_block (b6.block w.heap.size (by omega));obtain⟨bl,b0,b1,b2,b3⟩:=h.box;refine⟨h.below.trans (b6.mono (by omega)),⟨NQ bl b6.size,by rw[far];exact b0,by rw[far];exact b1,by rw[far];exact b2,by rw[far];exact b3⟩,by have h:=s1.1;exact h,?_,NR h.ge b6.size⟩;have h6:=h5.kept s1.2 (by
  right;intro e;have:=(NK h5 (w.heap.size+1) e).1;omega)
 simpa using h6
theorem fh.mid(h:fh w wr p n o v k0 k1 k2 sv ss)(hg:wr.grownBy w5 sv.ownBlock):w5.ownsRow w.heap.size 122 5 (OU (w.heap.size+1) 1 1) 1 [.int .u32 p,OW k0,OW k1,OW k2,sv]:=
 h.own.kept hg (by
  right;intro e;have:=(NK h.st (w.heap.size+1) (by rw[<-e];rfl)).1;omega)
theorem Cf(wr:OQ)(x:Int)(T:TypeId):∀j u,[Value.int .i64 x][j]?=some u->(wr.alloc (.cells #[OW x] T)).drew.cell? (((OV wr.heap.size 0):Addr).add j)=some u:=by intro j u hj;show (wr.alloc (.cells #[OW x] T)).cell? _=_;exact cell_one_new _ _ _ j u hj
theorem Cg(wr:OQ)(x:Int)(T:TypeId):∀j u,[Value.int .i64 x][j]?=some u->(wr.drew.alloc (.cells #[OW x] T)).cell? (((OV wr.heap.size 0):Addr).add j)=some u:=by intro j u hj;exact cell_one_new wr.drew _ _ j u hj
def ao(o:Int)(n k i:Nat):Int:=if i<k/\i<n then kE o i else 0
theorem JZ(p o:Int)(n k:Nat)(sv:OR)(h:k<n)(h3:n<=3):([.int .u32 p,OW (ao o n k 0),OW (ao o n k 1),OW (ao o n k 2),sv]:OO).set (1+k) (OW (kE o k))=[.int .u32 p,OW (ao o n (k+1) 0),OW (ao o n (k+1) 1),OW (ao o n (k+1) 2),sv]:=by
 have hk:k=0\/k=1\/k=2:=by omega
 have hn:n=1\/n=2\/n=3:=by omega
 rcases hk with rfl|rfl|rfl<;>rcases hn with rfl|rfl|rfl<;>first|(exfalso;omega)|rfl
def fD:Int:=-288230376151711744
theorem J0(m:Nat)(h:m<=200):0<=bU 1 m/\bU 1 m<=255:=by unfold bU;simp;omega
theorem re(p o v:Int)(n R M:Nat)(w:OQ)(hp:2<=p/\p<=101)(ho:o=1\/o=2)(hv:v=1\/v=2)(hn:n<=3)(hR:R<=200)(hM:M<=200):Calls prog 40 #[aI p n o v,OW R,OW M] w λe w'=>∃ob sv,e=.returned (OS ob)/\aQ w' ob p (ao o n n 0) (ao o n n 1) (ao o n n 2) sv/\Sl w' sv ((List.range R).map (λi:Nat=>bU v (i:Int))++(List.range M).map λi:Nat=>fD+bU 1 (i:Int))/\LT w w':=by
 have HO:=ae ho;have HV:=ae hv;obtain⟨hp0,hp1⟩:=hp;have hwp:IntKind.u32.wrap p=p:=by rw[IntKind.wrap_u32];omega
 have H0:=ae (fh.first w p n o v);obtain⟨w1,hw1⟩:∃w1,w1=(w.alloc (.cells #[OW p,OW n,OW o,OW v] 23)).alloc (.cells #[.int .u32 p,OW 0,OW 0,OW 0,.slice none 0 0] 122):=⟨_,rfl⟩;rw[<-hw1] at H0;clear ho hv;go_enter func40,ntmps40;go_wp2_with fail;rw[<-hw1];clear hw1;go_loopw [18] (λi wr=>∃k:Nat,k<=n/\i=OW k/\fh w wr p n o v (ao o n k 0) (ao o n k 1) (ao o n k 2) (.slice none 0 0) []) (λi _=>n-(intOf i).toNat);case atStart=>exact⟨0,NS _,rfl,H0.o⟩
 case round=>
  clear H0;obtain⟨k,hk,rfl,ht⟩:=hrel;have HT:=ae ht;clear ht;by_cases hk2:k<n
  .obtain⟨_,b0,b1,b2,b3⟩:=HT.o.box;have HWT:=ae (fun(W:OQ)=>J1 o k W HO.o (by omega));have HSET:=ae (JZ p o n k (.slice none 0 0) hk2 hn);have z1:∃u,wr.cell? (OV (w.heap.size+1) (1+k))=some u:=by have h:=HT.o.own.cellAt (1+k) (by omega);rw[NZ (by simp;omega)] at h;exact⟨_,h⟩
   obtain⟨u,z1⟩:=z1;have z2:=HT.o.own.frozenAt (1+k);have hk3:(k:Int)<3:=by omega
   generalize kE o k=wk at HWT HSET;go_wp2;go_region_with (go_at_call 78;refine(HWT.o _).mono ?_;rintro e w8 ⟨rfl,rfl⟩);all_goals
    go_wp2;go_roundw;case rel=>exact⟨k+1,by omega,by go_num,by first|exact(HT.o.next (NM _ _).drew).putK _ _ HSET.o|exact(HT.o.putK _ _ HSET.o).next (NM _ _).drew⟩
    case measure=>simp[intOf];omega
  .have e:k=n:=by omega
   subst e;generalize hg0:ao o k k 0=g0 at HT;generalize hg1:ao o k k 1=g1 at HT;generalize hg2:ao o k k 2=g2 at HT;have HG:=ae (NN hg0 (NN hg1 hg2));clear hg0 hg1 hg2;go_wp2;go_loopw [32] (λi wr=>∃(m:Nat)(sv:OR),m<=R/\i=OW m/\fh w wr p k o v g0 g1 g2 sv ((List.range m).map λi:Nat=>bU v (i:Int))) (λi _=>R-(intOf i).toNat);case atStart=>exact⟨0,_,NS _,rfl,HT.o⟩
   case round=>
    clear HT;obtain⟨m,sv,hm,rfl,ht⟩:=hrel;have HT:=ae ht;clear ht;by_cases hm2:m<R
    .obtain⟨_,b0,b1,b2,b3⟩:=HT.o.box;have HSA:=ae (fun(W:OQ)=>Ch v m W HV.o (by omega));have HR:OE (((List.range (m+1)).map λi:Nat=>bU v (i:Int))=((List.range m).map λi:Nat=>bU v (i:Int))++[bU v m]):=by show _=_;rw[List.range_succ];simp
     have HL:OE (((List.range m).map λi:Nat=>bU v (i:Int)).length=m):=by show _=_;simp
     generalize ((List.range m).map λi:Nat=>bU v (i:Int))=ss at HT HR HL;generalize bU v m=x at HSA HR;have z1:wr.cell? (OV (w.heap.size+1) 4)=some sv:=HT.o.own.cellAt 4 (by omega);have z2:=HT.o.own.frozenAt 4;obtain⟨ya,yc,hy⟩:=cQ HT.o.st;rw[HL.o] at hy;subst hy;obtain⟨i0,hi0,hz0,hz1,hz2⟩:∃i0,prog.info? 2=some i0/\i0.zero=some (OW 0)/\i0.size=1/\i0.bytes=8:=by
      have h:=Tryz.infoI64Z;cases hi:prog.info? 2 with
      |none=>rw[hi] at h;cases h
      |some i0=>rw[hi] at h;simp only[Option.map_some,N7,Prod.mk.injEq] at h;exact⟨i0,rfl,h.1,h.2.1,h.2.2⟩
     have HI:=ae (NN hi0 (NN hz0 (NN hz1 hz2)));clear hi0 hz0 hz1 hz2;have HOWN:OE (∀W,LT wr W->W.ownsRow (w.heap.size+1+1) 2 1 (.slice ya m yc) ss.length (ss.map (Value.int .i64))):=λW hb=>aF HT.o.st hb;go_wp2;have HA:=ae (HT.o.next ((ai (w:=wr) (A:=.cells #[OW x] 2)).drew));have HB:=ae (HT.o.next (((NM wr.heap.size wr).drew).alloc (NL _) (.cells #[OW x] 2)));have z3:(wr.alloc (.cells #[OW x] 2)).cell? (OV (w.heap.size+1) 4)=some (.slice ya m yc):=HA.o.own.cellAt 4 (by omega);have z4:(wr.drew.alloc (.cells #[OW x] 2)).cell? (OV (w.heap.size+1) 4)=some (.slice ya m yc):=HB.o.own.cellAt 4 (by omega);go_region_law (first|(refine oc rfl (.tmp 39) (.tmp 44) 120 rfl (w.heap.size+1+1) 2 i0 (OW 0) 1 8 underlying120 HI.o.1 HI.o.2.1 HI.o.2.2.1 HI.o.2.2.2 rfl (by decide) (.slice ya m yc) ss.length (ss.map (Value.int .i64)) (by simp[Act.eval,Act.put]) HA.o.st (OV wr.heap.size 0) 1 1 [OW x] (by simp[Act.eval,Act.put]) rfl (Cf wr x _) (rJ _) (by unfold maxLen;have:=HL.o;omega) (by have:=HL.o;omega) HA.o.ge ?_;intro v5 w5 r1 r2 r3;obtain⟨va5,vc5,hv5⟩:=cQ r1;subst hv5;have HM:=ae (HA.o.grow r1 r2);have y1:w5.cell? (OV (w.heap.size+1) 4)=some (.slice ya m yc):=(HA.o.mid r2).cellAt 4 (by omega);have y2:=(HA.o.mid r2).frozenAt 4;clear r1 r2 r3)|(refine oc rfl (.tmp 39) (.tmp 44) 120 rfl (w.heap.size+1+1) 2 i0 (OW 0) 1 8 underlying120 HI.o.1 HI.o.2.1 HI.o.2.2.1 HI.o.2.2.2 rfl (by decide) (.slice ya m yc) ss.length (ss.map (Value.int .i64)) (by simp[Act.eval,Act.put]) HB.o.st (OV wr.heap.size 0) 1 1 [OW x] (by simp[Act.eval,Act.put]) rfl (Cg wr x _) (rJ _) (by unfold maxLen;have:=HL.o;omega) (by have:=HL.o;omega) HB.o.ge ?_;intro v5 w5 r1 r2 r3;obtain⟨va5,vc5,hv5⟩:=cQ r1;subst hv5;have HM:=ae (HB.o.grow r1 r2);have y1:w5.cell? (OV (w.heap.size+1) 4)=some (.slice ya m yc):=(HB.o.mid r2).cellAt 4 (by omega);have y2:=(HB.o.mid r2).frozenAt 4;clear r1 r2 r3)|(go_simp;refine(HSA.o _).mono ?_;rintro e w8 ⟨rfl,rfl⟩;dsimp only));all_goals
      go_wp2;go_roundw;case rel=>exact⟨m+1,_,by omega,by go_num,by rw[HR.o];exact HM.o⟩
      case measure=>simp[intOf];omega
    .have e:m=R:=by omega
     subst e;generalize hs0:((List.range m).map λi:Nat=>bU v (i:Int))=ss0 at HT;have HS0:=ae hs0;have HL0:OE (ss0.length=m):=by show _=_;rw[<-HS0.o];simp
     clear hs0;go_wp2;go_loopw [50] (λi wr=>∃(m2:Nat)(sv:OR),m2<=M/\i=OW m2/\fh w wr p k o v g0 g1 g2 sv (ss0++(List.range m2).map λi:Nat=>fD+bU 1 (i:Int))) (λi _=>M-(intOf i).toNat);case atStart=>exact⟨0,_,NS _,rfl,by simpa using HT.o⟩
     case round=>
      clear HT;obtain⟨m2,sv,hm9,rfl,ht⟩:=hrel;have HT:=ae ht;clear ht;by_cases hm2:m2<M
      .obtain⟨_,b0,b1,b2,b3⟩:=HT.o.box;have HSA:=ae (fun(W:OQ)=>Ch 1 m2 W (Ox rfl) (by omega));have HR:OE ((ss0++(List.range (m2+1)).map λi:Nat=>fD+bU 1 (i:Int))=(ss0++(List.range m2).map λi:Nat=>fD+bU 1 (i:Int))++[fD+bU 1 m2]):=by show _=_;rw[List.range_succ];simp
       have HL:OE ((ss0++(List.range m2).map λi:Nat=>fD+bU 1 (i:Int)).length=m+m2):=by show _=_;simp[HL0.o]
       generalize (ss0++(List.range m2).map λi:Nat=>fD+bU 1 (i:Int))=ss at HT HR HL;have hxb:=J0 m2 (by omega);have hwb:IntKind.wrap .i64 (-288230376151711744+bU 1 m2)=fD+bU 1 m2:=by unfold fD;rw[IntKind.wrap_i64];omega
       generalize bU 1 m2=x0 at HSA HR hxb hwb;generalize fD+x0=x at HR hwb;have z1:wr.cell? (OV (w.heap.size+1) 4)=some sv:=HT.o.own.cellAt 4 (by omega);have z2:=HT.o.own.frozenAt 4;obtain⟨ya,yc,hy⟩:=cQ HT.o.st;rw[HL.o] at hy;subst hy;obtain⟨i0,hi0,hz0,hz1,hz2⟩:∃i0,prog.info? 2=some i0/\i0.zero=some (OW 0)/\i0.size=1/\i0.bytes=8:=by
        have h:=Tryz.infoI64Z;cases hi:prog.info? 2 with
        |none=>rw[hi] at h;cases h
        |some i0=>rw[hi] at h;simp only[Option.map_some,N7,Prod.mk.injEq] at h;exact⟨i0,rfl,h.1,h.2.1,h.2.2⟩
       have HI:=ae (NN hi0 (NN hz0 (NN hz1 hz2)));clear hi0 hz0 hz1 hz2;have HOWN:OE (∀W,LT wr W->W.ownsRow (w.heap.size+1+1) 2 1 (.slice ya (m+m2) yc) ss.length (ss.map (Value.int .i64))):=λW hb=>aF HT.o.st hb;go_wp2;have HA:=ae (HT.o.next ((ai (w:=wr) (A:=.cells #[OW x] 2)).drew));have HB:=ae (HT.o.next (((NM wr.heap.size wr).drew).alloc (NL _) (.cells #[OW x] 2)));have z3:(wr.alloc (.cells #[OW x] 2)).cell? (OV (w.heap.size+1) 4)=some (.slice ya (m+m2) yc):=HA.o.own.cellAt 4 (by omega);have z4:(wr.drew.alloc (.cells #[OW x] 2)).cell? (OV (w.heap.size+1) 4)=some (.slice ya (m+m2) yc):=HB.o.own.cellAt 4 (by omega);go_region_law (first|(refine oc rfl (.tmp 57) (.tmp 61) 120 rfl (w.heap.size+1+1) 2 i0 (OW 0) 1 8 underlying120 HI.o.1 HI.o.2.1 HI.o.2.2.1 HI.o.2.2.2 rfl (by decide) (.slice ya (m+m2) yc) ss.length (ss.map (Value.int .i64)) (by simp[Act.eval,Act.put]) HA.o.st (OV wr.heap.size 0) 1 1 [OW x] (by simp[Act.eval,Act.put]) rfl (Cf wr x _) (rJ _) (by unfold maxLen;have:=HL.o;omega) (by have:=HL.o;omega) HA.o.ge ?_;intro v5 w5 r1 r2 r3;obtain⟨va5,vc5,hv5⟩:=cQ r1;subst hv5;have HM:=ae (HA.o.grow r1 r2);have y1:w5.cell? (OV (w.heap.size+1) 4)=some (.slice ya (m+m2) yc):=(HA.o.mid r2).cellAt 4 (by omega);have y2:=(HA.o.mid r2).frozenAt 4;clear r1 r2 r3)|(refine oc rfl (.tmp 57) (.tmp 61) 120 rfl (w.heap.size+1+1) 2 i0 (OW 0) 1 8 underlying120 HI.o.1 HI.o.2.1 HI.o.2.2.1 HI.o.2.2.2 rfl (by decide) (.slice ya (m+m2) yc) ss.length (ss.map (Value.int .i64)) (by simp[Act.eval,Act.put]) HB.o.st (OV wr.heap.size 0) 1 1 [OW x] (by simp[Act.eval,Act.put]) rfl (Cg wr x _) (rJ _) (by unfold maxLen;have:=HL.o;omega) (by have:=HL.o;omega) HB.o.ge ?_;intro v5 w5 r1 r2 r3;obtain⟨va5,vc5,hv5⟩:=cQ r1;subst hv5;have HM:=ae (HB.o.grow r1 r2);have y1:w5.cell? (OV (w.heap.size+1) 4)=some (.slice ya (m+m2) yc):=(HB.o.mid r2).cellAt 4 (by omega);have y2:=(HB.o.mid r2).frozenAt 4;clear r1 r2 r3)|(go_simp;refine(HSA.o _).mono ?_;rintro e w8 ⟨rfl,rfl⟩;dsimp only));all_goals
        go_wp2;go_roundw;case rel=>exact⟨m2+1,_,by omega,by go_num,by rw[HR.o];exact HM.o⟩
        case measure=>simp[intOf];omega
      .have e:m2=M:=by omega
       subst e;go_wp2;go_ret;refine⟨w.heap.size+1,sv,rfl,?_,by have h:=Bs HT.o.st;rw[<-HS0.o] at h;exact h,HT.o.below⟩;rw[HG.o.1,HG.o.2.1,HG.o.2.2];have ho:=HT.o.own;have hl:=HT.o.ge;exact⟨by omega,ho.cellAt 0 (by omega),ho.cellAt 1 (by omega),ho.cellAt 2 (by omega),ho.cellAt 3 (by omega),ho.cellAt 4 (by omega)⟩
end Go.Proofs.YtjkalahhpobefaaGreat
