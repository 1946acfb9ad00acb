/- A term, made flat. -/
import Derived.Test.YteimdcndjjclnaaGreatZB
import Derived.Test.YteimdcndjjclnaaGreatRC
set_option maxHeartbeats 2000000
set_option maxRecDepth 100000
namespace Go.Proofs.YteimdcndjjclnaaGreat
set_option linter.all false
open Go.Proofs.Tryz Go.RowKit
def dq(xs:List Int)(k:Nat)(j:Nat):Int:=(xs.take k).getD j 0
def ri(s pl c:Int)(xs:List Int)(k:Nat):Ft:=⟨s,dq xs k 0,dq xs k 1,dq xs k 2,0,pl,c⟩
structure ia(w wr:World)(c:Int)(ev:Value)(t:Ft):Prop where
 below:Below w.heap.size w wr
 b0:wr.cell? ⟨w.heap.size,0,none⟩=some (.int .i64 c)
 b1:wr.cell? ⟨w.heap.size,1,none⟩=some ev
 res:wr.ownsRow w.heap.size 95 7 (.slice (some ⟨w.heap.size+1,0,none⟩) 1 1) 1 (aw ke)
 own:wr.ownsRow w.heap.size 95 7 (.slice (some ⟨w.heap.size+1+1,0,none⟩) 1 1) 1 (aw t)
 lt:w.heap.size<wr.heap.size
theorem ia.next{w wr w':World}{c:Int}{ev:Value}{t:Ft}(h:ia w wr c ev t)(hb:Below wr.heap.size wr w'):ia w w' c ev t:=
 ⟨h.below.trans (hb.mono h.below.size),ae h.b0 hb,ae h.b1 hb,aK h.res hb,aK h.own hb,Lj h.lt hb.size⟩
theorem ia.first(w:World)(c:Int)(ev:Value)(t:Ft):ia w (((w.alloc (.cells #[.int .i64 c,ev] 57)).alloc (.cells #[.int .i64 0,.int .u16 0,.int .u16 0,.int .u16 0,.int .u16 0,.int .u8 0,.int .u8 0] 95)).alloc (.cells #[.int .i64 t.k,.int .u16 t.a,.int .u16 t.b,.int .u16 t.d,.int .u16 t.z,.int .u8 t.pl,.int .u8 t.c] 95)) c ev t:=by
 have h1:=iM (w:=w.alloc (.cells #[.int .i64 c,ev] 57)) (B:=w.heap.size) (by simp) ke;have h2:=iM (w:=(w.alloc (.cells #[.int .i64 c,ev] 57)).alloc (.cells #[.int .i64 0,.int .u16 0,.int .u16 0,.int .u16 0,.int .u16 0,.int .u8 0,.int .u8 0] 95)) (B:=w.heap.size) (by simp;omega) t;refine⟨oA,by simp[go_sem],by simp[go_sem],?_,?_,by simp;omega⟩
 .have:=aK h1 (aj (A:=.cells #[.int .i64 t.k,.int .u16 t.a,.int .u16 t.b,.int .u16 t.d,.int .u16 t.z,.int .u8 t.pl,.int .u8 t.c] 95));simpa [ke] using this
 .simpa using h2
theorem ia.put{w wr:World}{c:Int}{ev:Value}{t t2:Ft}(h:ia w wr c ev t)(j:Nat)(v:Value)(he:(aw t).set j v=aw t2):ia w (wr.setCell ⟨w.heap.size+1+1,j,none⟩ v) c ev t2:=by have s1:=h.own.stored j v;rw[he] at s1;have far:=λo=>jM (o:=o) (b:=w.heap.size) s1.2 h.lt (by omega);exact⟨h.below.trans (dE s1.2 (by omega) h.below.size),by rw[far];exact h.b0,by rw[far];exact h.b1,h.res.kept s1.2 (L3 (by simp[Value.ownBlock])),s1.1,Lj h.lt s1.2.size⟩
theorem ia.cells{w wr:World}{c:Int}{ev:Value}{t:Ft}(h:ia w wr c ev t):wr.cell? ⟨w.heap.size+1+1,0,none⟩=some (.int .i64 t.k)/\wr.cell? ⟨w.heap.size+1+1,1,none⟩=some (.int .u16 t.a)/\wr.cell? ⟨w.heap.size+1+1,2,none⟩=some (.int .u16 t.b)/\wr.cell? ⟨w.heap.size+1+1,3,none⟩=some (.int .u16 t.d)/\wr.cell? ⟨w.heap.size+1+1,4,none⟩=some (.int .u16 t.z)/\wr.cell? ⟨w.heap.size+1+1,5,none⟩=some (.int .u8 t.pl)/\wr.cell? ⟨w.heap.size+1+1,6,none⟩=some (.int .u8 t.c):=
 ⟨h.own.cellAt 0 (by omega),h.own.cellAt 1 (by omega),h.own.cellAt 2 (by omega),h.own.cellAt 3 (by omega),h.own.cellAt 4 (by omega),h.own.cellAt 5 (by omega),h.own.cellAt 6 (by omega)⟩
def eE(s k0 k1 k2 pl:Int)(t:Tm):Ft:=⟨s+(t.2.getD 0 0*k0+t.2.getD 1 0*k1+t.2.getD 2 0*k2),t.2.getD 0 0,t.2.getD 1 0,t.2.getD 2 0,0,pl,t.1⟩
theorem Ky{w:World}{B g:Nat}{u:Ft}(h:w.ownsRow B 95 7 (.slice (some ⟨g,0,none⟩) 1 1) 1 (aw u))(t:Ft):(pi w g 0 t).ownsRow B 95 7 (.slice (some ⟨g,0,none⟩) 1 1) 1 (aw t)/\w.grownBy (pi w g 0 t) (some g):=by have s1:=h.stored 0 (.int .i64 t.k);have s2:=s1.1.stored 1 (.int .u16 t.a);have s3:=s2.1.stored 2 (.int .u16 t.b);have s4:=s3.1.stored 3 (.int .u16 t.d);have s5:=s4.1.stored 4 (.int .u16 t.z);have s6:=s5.1.stored 5 (.int .u8 t.pl);have s7:=s6.1.stored 6 (.int .u8 t.c);exact⟨s7.1,cE (cE (cE (cE (cE (cE s1.2 s2.2) s3.2) s4.2) s5.2) s6.2) s7.2⟩
theorem Kz(s pl c:Int)(xs:List Int)(k:Nat)(h:k<xs.length)(h3:xs.length<=3):(aw (ri s pl c xs k)).set (1+k) (.int .u16 (xs.getD k 0))=aw (ri s pl c xs (k+1)):=by
 match xs,k,h,h3 with
 |[x],0,_,_=>rfl
 |[x,y],0,_,_=>rfl
 |[x,y],1,_,_=>rfl
 |[x,y,z],0,_,_=>rfl
 |[x,y,z],1,_,_=>rfl
 |[x,y,z],2,_,_=>rfl
 |_::_::_::_::_,_,_,h=>exact absurd h (by simp)
theorem nE{xs:List Int}(h:∀x∈xs,0<=x/\x<=30000)(k j:Nat):0<=dq xs k j/\dq xs k j<=65535:=by
 unfold dq;rw[Lr];cases hj:(xs.take k)[j]? with
 |none=>simp
 |some x=>have:=h x (L6 (List.mem_of_getElem? hj));simp;omega
theorem KB(ob pl:Nat)(p k0 k1 k2:Int)(sv ev:Value)(ss xs:List Int)(c:Int)(w:World)(hob:bk w ob p k0 k1 k2 sv)(hs:Sl w sv ss)(hpl:pl<ss.length)(hpl2:pl<=255)(hss:∀s∈ss,-600000000000000000<=s/\s<=600000000000000000)(h0:0<=k0/\k0<=137438953472)(h1:0<=k1/\k1<=137438953472)(h2:0<=k2/\k2<=137438953472)(hc:0<=c/\c<=255)(hx0:0<xs.length)(hx3:xs.length<=3)(hxs:∀x∈xs,0<=x/\x<=30000)(he:Sl w ev xs):Calls prog 114 #[.pointer (some ⟨ob,0,none⟩),.int .i64 pl,.agg #[.int .i64 c,ev]] w λe w'=>e=.returned (bX (eE (ss.getD pl 0) k0 k1 k2 pl (c,xs)))/\Below w.heap.size w w':=by
 obtain⟨hc0,hc1⟩:=hc;have HE:=ac he;have HXS:=ac hxs;have HSS:=ac (hss _ (ix ss pl hpl));have HOB:=ac hob;obtain⟨ea,ec,rfl,hei⟩:=he;obtain⟨eb,eoff,rfl,helt,hec⟩:=hei hx0;obtain⟨sa,sc,rfl,hsi⟩:=hs;obtain⟨sb,soff,rfl,hslt,hsc⟩:=hsi (by omega);have s0:=hsc pl hpl;have HS0:=ac s0;generalize ss.getD pl 0=s at s0 HS0 HSS⊢;obtain⟨olt,o0,o1,o2,o3,o4⟩:=hob;clear hxs hss hei hsi hsc;have HT0:=ac (ia.first w c (.slice (some ⟨eb,eoff,none⟩) xs.length ec) ⟨s,0,0,0,0,pl,c⟩);obtain⟨wa,hwa⟩:∃wa,wa=(w.alloc (.cells #[.int .i64 c,.slice (some ⟨eb,eoff,none⟩) xs.length ec] 57)).alloc (.cells #[.int .i64 0,.int .u16 0,.int .u16 0,.int .u16 0,.int .u16 0,.int .u8 0,.int .u8 0] 95):=⟨_,rfl⟩;have HBA:Ma (Below w.heap.size w wa):=by rw[hwa];exact fS
 have HSZ:Ma (wa.heap.size=w.heap.size+1+1):=by show _=_;rw[hwa];simp
 have z0:wa.cell? ⟨w.heap.size,0,none⟩=some (.int .i64 c):=by rw[hwa];simp[go_sem]
 have z1:wa.cell? ⟨w.heap.size,1,none⟩=some (.slice (some ⟨eb,eoff,none⟩) xs.length ec):=by rw[hwa];simp[go_sem]
 have y0:=ae s0 HBA.o;have y1:=ae o4 HBA.o;clear s0 o0 o1 o2 o3 o4;have hpi:(pl:Int)<(ss.length:Int):=by omega
 have hwp:IntKind.u8.wrap (pl:Int)=pl:=by rw[IntKind.wrap_u8];omega
 have hwc:IntKind.u8.wrap c=c:=by rw[IntKind.wrap_u8];omega
 go_enter func114,ntmps114;go_wp2_with fail;rw[<-hwa];rw[<-hwa] at HT0;clear hwa;have n0:=World.new_ne wa _ z0;have n1:=World.new_ne wa _ y0;have n2:=World.new_ne wa _ y1;simp only at n0 n1 n2;go_region_held (λW=>W.cell? ⟨w.heap.size,0,none⟩=some (.int .i64 c)/\W.cell? ⟨sb,soff+pl,none⟩=some (.int .i64 s)/\W.cell? ⟨ob,4,none⟩=some (.slice (some ⟨sb,soff,none⟩) ss.length sc)) (go_keep) (fail);have HT1:Ma (ia w (wa.alloc (.cells #[.int .i64 s,.int .u16 0,.int .u16 0,.int .u16 0,.int .u16 0,.int .u8 pl,.int .u8 c] 95)).drew c (.slice (some ⟨eb,eoff,none⟩) xs.length ec) (ri s pl c xs 0)):=HT0.o.next (Lf _ _).drew;generalize (wa.alloc (.cells #[.int .i64 s,.int .u16 0,.int .u16 0,.int .u16 0,.int .u16 0,.int .u8 pl,.int .u8 c] 95)).drew=wb at HT1⊢;rw[HSZ.o];clear HT0 z0 z1 y0 y1 n0 n1 n2;have zb:=HT1.o.b1;go_wp2;clear zb;go_loopw [26] (λi wr=>∃k:Nat,k<=xs.length/\i=.int .i64 k/\ia w wr c (.slice (some ⟨eb,eoff,none⟩) xs.length ec) (ri s pl c xs k)) (λi _=>xs.length-(intOf i).toNat);case atStart=>exact⟨0,Ll _,rfl,HT1.o⟩
 case round=>
  clear HT1;obtain⟨k,hk,rfl,ht⟩:=hrel;have HT:=ac ht;clear ht;by_cases hk2:k<xs.length
  .have x0:=ae (hec k hk2) HT.o.below;obtain⟨hx1,hx2⟩:=HXS.o _ (ix xs k hk2);have HSET:=ac (Kz s pl c xs k hk2 hx3);generalize xs.getD k 0=x at x0 hx1 hx2 HSET;have hwx:IntKind.u16.wrap x=x:=by rw[IntKind.wrap_u16];omega
   have hk4:(k:Int)<4:=by omega
   have z1:∃u,wr.cell? ⟨w.heap.size+1+1,1+k,none⟩=some u:=by have h:=HT.o.own.cellAt (1+k) (by omega);rw[Ls (by simp[aw];omega)] at h;exact⟨_,h⟩
   obtain⟨u,z1⟩:=z1;have z2:=HT.o.own.frozenAt (1+k);go_wp2;go_roundw;case rel=>exact⟨k+1,by omega,by go_num,HT.o.put _ _ HSET.o⟩
   case measure=>simp[intOf];omega
  .have e:k=xs.length:=by omega
   subst e;have HAD:=ac (fun(W:World) (hW:bk W ob p k0 k1 k2 (.slice (some ⟨sb,soff,none⟩) ss.length sc))=>tM ob p k0 k1 k2 _ (dq xs xs.length 0) (dq xs xs.length 1) (dq xs xs.length 2) 0 W hW (nE HXS.o _ _) (nE HXS.o _ _) (nE HXS.o _ _) h0 h1 h2);unfold ci at HAD;have HADB:=ac (show-9007061815787520*3<=dq xs xs.length 0*k0+dq xs xs.length 1*k1+dq xs xs.length 2*k2/\dq xs xs.length 0*k0+dq xs xs.length 1*k1+dq xs xs.length 2*k2<=9007061815787520*3 from by
    obtain⟨m0,q0⟩:=iN (nE HXS.o xs.length 0) h0;obtain⟨m1,q1⟩:=iN (nE HXS.o xs.length 1) h1;obtain⟨m2,q2⟩:=iN (nE HXS.o xs.length 2) h2;exact⟨by omega,by omega⟩)
   have HFIN:Ma (eE s k0 k1 k2 pl (c,xs)=⟨s+(dq xs xs.length 0*k0+dq xs xs.length 1*k1+dq xs xs.length 2*k2),dq xs xs.length 0,dq xs xs.length 1,dq xs xs.length 2,0,pl,c⟩):=by show _=_;unfold eE dq;rw[Lz (Lc _)]
   have HTE:Ma (ia w wr c (.slice (some ⟨eb,eoff,none⟩) xs.length ec) ⟨s,dq xs xs.length 0,dq xs xs.length 1,dq xs xs.length 2,0,pl,c⟩):=HT.o;generalize dq xs xs.length 0=xa at HAD HADB HFIN HTE;generalize dq xs xs.length 1=xb at HAD HADB HFIN HTE;generalize dq xs xs.length 2=xd at HAD HADB HFIN HTE;generalize xa*k0+xb*k1+xd*k2=more at HAD HADB HFIN;clear HT;obtain⟨m0,q0⟩:=HADB.o;obtain⟨m1,q1⟩:=HSS.o;have hwk:IntKind.i64.wrap (s+more)=s+more:=by rw[IntKind.wrap_i64];omega
   clear m0 q0 m1 q1;obtain⟨y0,y1,y2,y3,y4,y5,y6⟩:=HTE.o.cells;simp only at y0 y1 y2 y3 y4 y5 y6;go_wp2;go_region_with (go_at_call 142;refine(HAD.o _ ((HOB.o.below HTE.o.below).below (Lf _ _).drew)).mono ?_;rintro e w8 ⟨rfl,hb8⟩;have HT8:=ac ((HTE.o.next (Lf _ _).drew).next hb8);obtain⟨u0,u1,u2,u3,u4,u5,u6⟩:=HT8.o.cells;simp only at u0 u1 u2 u3 u4 u5 u6;have uf:=HT8.o.own.frozenAt 0;clear hb8);all_goals
    have HT9:=ac (HT8.o.put 0 (.int .i64 (s+more)) (t2:=⟨s+more,xa,xb,xd,0,pl,c⟩) rfl);generalize w8.setCell ⟨w.heap.size+1+1,0,none⟩ (.int .i64 (s+more))=w9 at HT9⊢;clear y0 y1 y2 y3 y4 y5 y6 u0 u1 u2 u3 u4 u5 u6 uf HT8 HTE;obtain⟨y0,y1,y2,y3,y4,y5,y6⟩:=HT9.o.cells;simp only at y0 y1 y2 y3 y4 y5 y6;have r0:=HT9.o.res.cellAt 0 (by omega);have q0:=HT9.o.res.frozenAt 0;have r1:=HT9.o.res.cellAt 1 (by omega);have q1:=HT9.o.res.frozenAt 1;have r2:=HT9.o.res.cellAt 2 (by omega);have q2:=HT9.o.res.frozenAt 2;have r3:=HT9.o.res.cellAt 3 (by omega);have q3:=HT9.o.res.frozenAt 3;have r4:=HT9.o.res.cellAt 4 (by omega);have q4:=HT9.o.res.frozenAt 4;have r5:=HT9.o.res.cellAt 5 (by omega);have q5:=HT9.o.res.frozenAt 5;have r6:=HT9.o.res.cellAt 6 (by omega);have q6:=HT9.o.res.frozenAt 6;simp only[aw,List.getElem?_cons_zero,List.getElem?_cons_succ] at r0 r1 r2 r3 r4 r5 r6;have HRP:=ac (Ky HT9.o.res ⟨s+more,xa,xb,xd,0,pl,c⟩);go_wp2;have HRP2:Ma ((((((((w9.setCell ⟨w.heap.size+1,0,none⟩ (.int .i64 (s+more))).setCell ⟨w.heap.size+1,1,none⟩ (.int .u16 xa)).setCell ⟨w.heap.size+1,2,none⟩ (.int .u16 xb)).setCell ⟨w.heap.size+1,3,none⟩ (.int .u16 xd)).setCell ⟨w.heap.size+1,4,none⟩ (.int .u16 0)).setCell ⟨w.heap.size+1,5,none⟩ (.int .u8 pl)).setCell ⟨w.heap.size+1,6,none⟩ (.int .u8 c)).ownsRow w.heap.size 95 7 (.slice (some ⟨w.heap.size+1,0,none⟩) 1 1) 1 (aw ⟨s+more,xa,xb,xd,0,pl,c⟩)/\w9.grownBy (((((((w9.setCell ⟨w.heap.size+1,0,none⟩ (.int .i64 (s+more))).setCell ⟨w.heap.size+1,1,none⟩ (.int .u16 xa)).setCell ⟨w.heap.size+1,2,none⟩ (.int .u16 xb)).setCell ⟨w.heap.size+1,3,none⟩ (.int .u16 xd)).setCell ⟨w.heap.size+1,4,none⟩ (.int .u16 0)).setCell ⟨w.heap.size+1,5,none⟩ (.int .u8 pl)).setCell ⟨w.heap.size+1,6,none⟩ (.int .u8 c)) (some (w.heap.size+1))):=HRP.o;generalize (((((((w9.setCell ⟨w.heap.size+1,0,none⟩ (.int .i64 (s+more))).setCell ⟨w.heap.size+1,1,none⟩ (.int .u16 xa)).setCell ⟨w.heap.size+1,2,none⟩ (.int .u16 xb)).setCell ⟨w.heap.size+1,3,none⟩ (.int .u16 xd)).setCell ⟨w.heap.size+1,4,none⟩ (.int .u16 0)).setCell ⟨w.heap.size+1,5,none⟩ (.int .u8 pl)).setCell ⟨w.heap.size+1,6,none⟩ (.int .u8 c))=wz at HRP2⊢;have HBF:=ac (HT9.o.below.trans (dE HRP2.o.2 (by omega) HT9.o.below.size));have HRR:=ac (HRP2.o.1);rw[HFIN.o];refine Lm (v:=.agg #[.int .i64 (s+more),.int .u16 xa,.int .u16 xb,.int .u16 xd,.int .u16 0,.int .u8 pl,.int .u8 c]) ?_ rfl ⟨rfl,HBF.o⟩;have x0:=HRR.o.cellAt 0 (by omega);have x1:=HRR.o.cellAt 1 (by omega);have x2:=HRR.o.cellAt 2 (by omega);have x3:=HRR.o.cellAt 3 (by omega);have x4:=HRR.o.cellAt 4 (by omega);have x5:=HRR.o.cellAt 5 (by omega);have x6:=HRR.o.cellAt 6 (by omega);simp only[aw,List.getElem?_cons_zero,List.getElem?_cons_succ] at x0 x1 x2 x3 x4 x5 x6;simp[results,Tryz.results114,go_sem,x0,x1,x2,x3,x4,x5,x6]
theorem Tryz.infoI64Z:(prog.info? 2).map (λi=>(i.zero,i.size,i.bytes))=some (some (.int .i64 0),1,8):=by kernel_rfl
structure eZ(w wr:World)(p n o v k0 k1 k2:Int)(sv:Value)(ss:List Int):Prop where
 below:Below w.heap.size w wr
 box:bE wr w.heap.size p n o v
 own:wr.ownsRow w.heap.size 146 5 (.slice (some ⟨w.heap.size+1,0,none⟩) 1 1) 1 [.int .u32 p,.int .i64 k0,.int .i64 k1,.int .i64 k2,sv]
 st:wr.ownsRow (w.heap.size+1+1) 2 1 sv ss.length (ss.map (Value.int .i64))
 ge:w.heap.size+1+1<=wr.heap.size
theorem eZ.next{w wr w':World}{p n o v k0 k1 k2:Int}{sv:Value}{ss:List Int}(h:eZ w wr p n o v k0 k1 k2 sv ss)(hb:Below wr.heap.size wr w'):eZ w w' p n o v k0 k1 k2 sv ss:=
 ⟨h.below.trans (hb.mono h.below.size),h.box.below hb,aK h.own hb,aK h.st hb,Lk h.ge hb.size⟩
theorem eZ.first(w:World)(p n o v:Int):eZ w ((w.alloc (.cells #[.int .i64 p,.int .i64 n,.int .i64 o,.int .i64 v] 23)).alloc (.cells #[.int .u32 p,.int .i64 0,.int .i64 0,.int .i64 0,.slice none 0 0] 146)) p n o v 0 0 0 (.slice none 0 0) []:=by refine⟨fS,(bE.new w p n o v _).below aj,?_,World.ownsRow_nil _ _ _ _,by simp⟩;exact⟨by simp,.inr ⟨w.heap.size+1,1,_,rfl,by omega,by have:=heap_alloc_new (w.alloc (.cells #[.int .i64 p,.int .i64 n,.int .i64 o,.int .i64 v] 23)) (.cells #[.int .u32 p,.int .i64 0,.int .i64 0,.int .i64 0,.slice none 0 0] 146);simpa using this,Lc _,by decide,by simp,by simp⟩⟩
theorem eZ.put{w wr:World}{p n o v k0 k1 k2 l0 l1 l2:Int}{sv sv2:Value}{ss:List Int}(h:eZ w wr p n o v k0 k1 k2 sv ss)(j:Nat)(u:Value)(he:([.int .u32 p,.int .i64 k0,.int .i64 k1,.int .i64 k2,sv]:List Value).set j u=[.int .u32 p,.int .i64 l0,.int .i64 l1,.int .i64 l2,sv2])(hs:(wr.setCell ⟨w.heap.size+1,j,none⟩ u).ownsRow (w.heap.size+1+1) 2 1 sv2 ss.length (ss.map (Value.int .i64))):eZ w (wr.setCell ⟨w.heap.size+1,j,none⟩ u) p n o v l0 l1 l2 sv2 ss:=by have s1:=h.own.stored j u;rw[he] at s1;have far:=λo=>jM (o:=o) (b:=w.heap.size) s1.2 h.box.1 (by omega);obtain⟨bl,b0,b1,b2,b3⟩:=h.box;exact⟨h.below.trans (dE s1.2 (by omega) h.below.size),⟨Lj bl s1.2.size,by rw[far];exact b0,by rw[far];exact b1,by rw[far];exact b2,by rw[far];exact b3⟩,s1.1,hs,Lk h.ge s1.2.size⟩
theorem eZ.putK{w wr:World}{p n o v k0 k1 k2 l0 l1 l2:Int}{sv:Value}{ss:List Int}(h:eZ w wr p n o v k0 k1 k2 sv ss)(j:Nat)(u:Value)(he:([.int .u32 p,.int .i64 k0,.int .i64 k1,.int .i64 k2,sv]:List Value).set j u=[.int .u32 p,.int .i64 l0,.int .i64 l1,.int .i64 l2,sv]):eZ w (wr.setCell ⟨w.heap.size+1,j,none⟩ u) p n o v l0 l1 l2 sv ss:=
 h.put j u he (h.st.kept (h.own.stored j u).2 (by
  cases ho:sv.ownBlock with
  |none=>exact L0 rfl
  |some g=>right;have:=(Lb h.st g ho).1;simp[Value.ownBlock];omega))
theorem eZ.grow{w wr w5:World}{p n o v k0 k1 k2 x:Int}{sv v5:Value}{ss:List Int}(h:eZ w wr p n o v k0 k1 k2 sv ss)(h5:w5.ownsRow (w.heap.size+1+1) 2 1 v5 (ss.length+1) (ss.map (Value.int .i64)++[.int .i64 x]))(hg:wr.grownBy w5 sv.ownBlock):eZ w (w5.setCell ⟨w.heap.size+1,4,none⟩ v5) p n o v k0 k1 k2 v5 (ss++[x]):=by
 have hlt:∀g,sv.ownBlock=some g->w.heap.size+1+1<=g:=λg e=>(Lb h.st g e).1;have o5:=h.own.kept hg (by
  right;intro e;have:=hlt (w.heap.size+1) (by rw[<-e];rfl);omega)
 have b5:Below (w.heap.size+1) wr w5:=(Lf _ _).grown hg (Lk (by omega) h.ge) (λk hk=>by have:=hlt k hk;omega);have s1:=o5.stored 4 v5;have b6:Below (w.heap.size+1) wr (w5.setCell ⟨w.heap.size+1,4,none⟩ v5):=b5.trans (dE s1.2 (Lc _) (by have:=h.ge;have:=b5.size;omega));have far:∀o,(w5.setCell ⟨w.heap.size+1,4,none⟩ v5).cell? ⟨w.heap.size,o,none⟩=wr.cell? ⟨w.heap.size,o,none⟩:=λo=>World.cell?_of_block (b6.block w.heap.size (by omega));obtain⟨bl,b0,b1,b2,b3⟩:=h.box;refine⟨h.below.trans (b6.mono (by omega)),⟨Lj bl b6.size,by rw[far];exact b0,by rw[far];exact b1,by rw[far];exact b2,by rw[far];exact b3⟩,by have h:=s1.1;exact h,?_,Lk h.ge b6.size⟩;have h6:=h5.kept s1.2 (by
  right;intro e;have:=(Lb h5 (w.heap.size+1) e).1;omega)
 simpa using h6
theorem eZ.mid{w wr w5:World}{p n o v k0 k1 k2:Int}{sv:Value}{ss:List Int}(h:eZ w wr p n o v k0 k1 k2 sv ss)(hg:wr.grownBy w5 sv.ownBlock):w5.ownsRow w.heap.size 146 5 (.slice (some ⟨w.heap.size+1,0,none⟩) 1 1) 1 [.int .u32 p,.int .i64 k0,.int .i64 k1,.int .i64 k2,sv]:=
 h.own.kept hg (by
  right;intro e;have:=(Lb h.st (w.heap.size+1) (by rw[<-e];rfl)).1;omega)
theorem Ec(wr:World)(x:Int)(T:TypeId):∀j u,[Value.int .i64 x][j]?=some u->(wr.alloc (.cells #[.int .i64 x] T)).drew.cell? ((⟨wr.heap.size,0,none⟩:Addr).add j)=some u:=by intro j u hj;show (wr.alloc (.cells #[.int .i64 x] T)).cell? _=_;exact cell_one_new _ _ _ j u hj
theorem Ee(wr:World)(x:Int)(T:TypeId):∀j u,[Value.int .i64 x][j]?=some u->(wr.drew.alloc (.cells #[.int .i64 x] T)).cell? ((⟨wr.heap.size,0,none⟩:Addr).add j)=some u:=by intro j u hj;exact cell_one_new wr.drew _ _ j u hj
def az(o:Int)(n k i:Nat):Int:=if i<k/\i<n then j6 o i else 0
theorem Ea(p o:Int)(n k:Nat)(sv:Value)(h:k<n)(h3:n<=3):([.int .u32 p,.int .i64 (az o n k 0),.int .i64 (az o n k 1),.int .i64 (az o n k 2),sv]:List Value).set (1+k) (.int .i64 (j6 o k))=[.int .u32 p,.int .i64 (az o n (k+1) 0),.int .i64 (az o n (k+1) 1),.int .i64 (az o n (k+1) 2),sv]:=by
 have hk:k=0\/k=1\/k=2:=by omega
 have hn:n=1\/n=2\/n=3:=by omega
 rcases hk with rfl|rfl|rfl<;>rcases hn with rfl|rfl|rfl<;>first|(exfalso;omega)|rfl
end Go.Proofs.YteimdcndjjclnaaGreat
