/- vector.checkPolys, isRank, checkAll, Check. -/
import Derived.Test.YtjkalahhpobefaaGreatTL
import Derived.Laws.EntriesVeiled
set_option maxHeartbeats 2000000
set_option maxRecDepth 100000
namespace Go.Proofs.YtjkalahhpobefaaGreat
set_option linter.all false
open Go.Proofs.Tryz Go.RowKit
variable{p n o v:Int}
theorem Jy{f:Lt}(hR:bJ p n o v=0):ag p n o v [f]=de p n o f:=by
 have e:gC p n o v f=de p n o f:=by unfold gC;rw[Oc (by simpa using hR)]
 have hu:ag p n o v [f]=if gC p n o v f≠0 then gC p n o v f else 0:=rfl
 rw[hu,e];by_cases h:de p n o f=0
 .rw[Oc (by simpa using h),h]
 .rw[Oe h]
theorem vY(p n o v:Int)(lv:OR)(fss:OG)(w:OQ)(hR:bJ p n o v=0)(hm:fss.length<=1200000000000)(hs:Vl w lv fss):Calls prog 25 #[aI p n o v,lv] w λe w'=>e=.returned (OW (ep p n o fss))/\LT w w':=by
 have HS:=ae hs;have HR:=ae hR;have HT:=ae (BL p n o v);obtain⟨la,lc,rfl,_⟩:=hs;obtain⟨w1,hw1⟩:∃w1,w1=w.alloc (.cells #[OW p,OW n,OW o,OW v] 23):=⟨_,rfl⟩;have hbx:bA w1 w.heap.size p n o v:=by rw[hw1];exact bA.new w p n o v _
 have hbw:LT w w1:=by rw[hw1];exact bE
 have HBX:=ae hbx;have HBW:=ae hbw;clear hR hbx hbw;go_enter func25,ntmps25;go_wp2_with fail;rw[<-hw1];clear hw1;go_loopw [10] (λi wr=>∃k:Nat,k<=fss.length/\i=OW k/\ep p n o fss=ep p n o (fss.drop k)/\LT w1 wr) (λi _=>fss.length-(intOf i).toNat);case atStart=>exact⟨0,NS _,rfl,rfl,NM _ _⟩
 case round=>
  obtain⟨k,hk,rfl,her,hbr⟩:=hrel;have HBR:=ae hbr;have HER0:=ae her;clear hbr her;by_cases hk2:k<fss.length
  .have HER:=ae (HER0.o.trans (BM p n o fss k hk2));have HDN:=ae (Io HBW.o HBR.o);obtain⟨b,off,fa,fc,rfl,hlt,c0,hpf⟩:=jY HS.o k hk2;generalize fss.getD k []=f at c0 hpf HER;have HPF:=ae (hpf.below HDN.o);have d0:=af c0 HDN.o;have HC1:=ae (Jy (f:=f) HR.o);obtain⟨_,bx0,bx1,bx2,bx3⟩:=HBX.o.below HBR.o;clear c0 hpf;cases hz:(de p n o f !=0)
   .have HZ:OE (de p n o f=0):=by simpa [OE] using hz
    go_wp2_with (go_at_call 57;refine(BK p n o v _ HT.o _ f _ HPF.o).mono ?_;rw[HC1.o];rintro e w2 ⟨rfl,hb2⟩;have HB2:=ae (Io HBR.o hb2);clear hb2);go_roundw;case rel=>exact⟨k+1,by omega,by go_num,by rw[HER.o,Oe HZ.o],HB2.o⟩
    case measure=>simp[intOf];omega
   .have HZ:OE (de p n o f≠0):=by simpa [OE] using hz
    go_wp2_with (go_at_call 57;refine(BK p n o v _ HT.o _ f _ HPF.o).mono ?_;rw[HC1.o];rintro e w2 ⟨rfl,hb2⟩;have HB2:=ae (Io HBR.o hb2);clear hb2);go_ret;exact⟨cM (by rw[HER.o,Oc HZ.o]),Io HBW.o HB2.o⟩
  .go_wp2;go_ret;exact⟨cM (by rw[HER0.o,Ow (by omega)];rfl),Io HBW.o HBR.o⟩
theorem vZ(m:Int)(w:OQ):Calls prog 56 #[OW m] w λe w'=>e=.returned (.bool (cE m 1 40))/\w'=w:=by
 have HE:OE (cE m 1 40=decide (1<=m/\m<=40)):=by show _=_;simp[cE]
 rw[HE.o];by_cases h1:1<=m
 .by_cases h2:m<=40
  .have HD:OE (decide (1<=m/\m<=40)=true):=NP ⟨h1,h2⟩;rw[HD.o];go_enter func56,ntmps56;go_wp2;go_ret;exact⟨lA (by simp[h2]),rfl⟩
  .have HD:OE (decide (1<=m/\m<=40)=false):=NO (by omega);rw[HD.o];go_enter func56,ntmps56;go_wp2;go_ret;exact⟨lA (by simp[h2]),rfl⟩
 .have HD:OE (decide (1<=m/\m<=40)=false):=NO (by omega);rw[HD.o];go_enter func56,ntmps56;go_wp2;go_ret;exact⟨rfl,rfl⟩
theorem pz(p n o v rank:Int)(lv:OR)(vss:OH)(w:OQ)(hs:Wl w lv vss):Calls prog 24 #[aI p n o v,OW rank,lv] w λe w'=>e=.returned (OW (cD p n o v rank vss))/\LT w w':=by
 have HS:=ae hs;obtain⟨la,lc,rfl,_⟩:=hs;cases hR:(bJ p n o v !=0)
 .have hR0:bJ p n o v=0:=by simpa using hR
  have HR:=ae hR0;have HE:OE (cD p n o v rank vss=gU p n o rank vss):=by show _=_;unfold cD;rw[Oc (by simpa using hR0)]
  clear hR0;cases hbt:cE rank 1 40
  .have HE2:OE (cD p n o v rank vss=3):=by show _=_;rw[HE.o];unfold gU;rw[Oe hbt]
   rw[HE2.o];go_enter func24,ntmps24;go_wp2_with (first|(go_at_call 55;refine(ke _ _ _ _ _).mono ?_;rintro e w1 ⟨rfl,hb1⟩;have HB1:=ae (show LT w w1 from bE.trans (hb1.mono (by simp)));clear hb1)|(go_at_call 56;refine(vZ _ _).mono ?_;rw[hbt];rintro e w' ⟨rfl,rfl⟩));go_ret;exact⟨rfl,HB1.o⟩
  .by_cases hlen:60<vss.length
   .have HE2:OE (cD p n o v rank vss=2):=by show _=_;rw[HE.o];unfold gU;rw[Oc (by rw[hbt];simp),Oe hlen]
    rw[HE2.o];go_enter func24,ntmps24;go_wp2_with (first|(go_at_call 55;refine(ke _ _ _ _ _).mono ?_;rintro e w1 ⟨rfl,hb1⟩;have HB1:=ae (show LT w w1 from bE.trans (hb1.mono (by simp)));clear hb1)|(go_at_call 56;refine(vZ _ _).mono ?_;rw[hbt];rintro e w' ⟨rfl,rfl⟩));go_ret;exact⟨rfl,HB1.o⟩
   .have HE2:OE (cD p n o v rank vss=iu (fP p n o rank) vss):=by show _=_;rw[HE.o];unfold gU;rw[Oc (by rw[hbt];simp),Oc hlen]
    rw[HE2.o];have HRK:OE (1<=rank/\rank<=40):=by simpa [cE,OE] using hbt
    clear HE HE2;go_enter func24,ntmps24;go_wp2_with fail;refine(ke _ _ _ _ _).mono ?_;rintro e w1 ⟨rfl,hb1⟩;have HB1:=ae (show LT w w1 from bE.trans (hb1.mono (by simp)));have HBX:=ae ((bA.new w p n o v 23).below hb1);clear hb1;go_wp2_with fail;refine(vZ _ _).mono ?_;rw[hbt];rintro e w2 ⟨rfl,rfl⟩;have HS1:=ae (HS.o.below HB1.o);go_wp2_with fail;obtain⟨wo,hwo⟩:∃wo,wo=w2:=⟨_,rfl⟩;subst hwo;clear hbt;go_loopw [24] (λi wr=>∃k:Nat,k<=vss.length/\i=OW k/\iu (fP p n o rank) vss=iu (fP p n o rank) (vss.drop k)/\LT wo wr) (λi _=>vss.length-(intOf i).toNat);case atStart=>exact⟨0,NS _,rfl,rfl,NM _ _⟩
    case round=>
     obtain⟨k,hk,rfl,her,hbr⟩:=hrel;have HBR:=ae hbr;have HER0:=ae her;clear hbr her;by_cases hk2:k<vss.length
     .have HER:=ae (HER0.o.trans (BN (fP p n o rank) vss k hk2));obtain⟨b,off,va,vc,rfl,hlt,c0,hvl⟩:=lC HS1.o k hk2;generalize vss.getD k []=fss at c0 hvl HER;have HVL:=ae (hvl.below HBR.o);have d0:=af c0 HBR.o;obtain⟨_,bx0,bx1,bx2,bx3⟩:=HBX.o.below HBR.o;clear c0 hvl;cases hln:((fss.length:Int) !=rank)
      .have hrk:(fss.length:Int)=rank:=by simpa using hln
       subst hrk;have HEV:OE (fP p n o (fss.length:Int) fss=ep p n o fss):=by show _=_;unfold fP;rw[Oc (by simp)]
       have hf40:fss.length<=40:=by have:=HRK.o;omega
       have HVP:=ae (vY p n o v _ fss wr HR.o (by omega) HVL.o);clear hln;cases hz:(ep p n o fss !=0)
       .have HZ:OE (ep p n o fss=0):=by simpa [OE] using hz
        go_wp2_with (go_at_call 25;refine HVP.o.mono ?_;rintro e w4 ⟨rfl,hb4⟩;have HB4:=ae (Io HBR.o hb4);clear hb4);go_roundw;case rel=>exact⟨k+1,by omega,by go_num,by rw[HER.o,HEV.o,Oe HZ.o],HB4.o⟩
        case measure=>simp[intOf];omega
       .have HZ:OE (ep p n o fss≠0):=by simpa [OE] using hz
        go_wp2_with (go_at_call 25;refine HVP.o.mono ?_;rintro e w4 ⟨rfl,hb4⟩;have HB4:=ae (Io HBR.o hb4);clear hb4);go_ret;exact⟨cM (by rw[HER.o,HEV.o,Oc HZ.o]),Io HB1.o HB4.o⟩
      .have HEV:OE (fP p n o rank fss=1):=by show _=_;unfold fP;rw[Oe (by simpa using hln)]
       go_wp2_with fail;go_ret;exact⟨cM (by rw[HER.o,HEV.o];simp),Io HB1.o HBR.o⟩
     .go_wp2;go_ret;exact⟨cM (by rw[HER0.o,Ow (by omega)];rfl),Io HB1.o HBR.o⟩
 .have HE:OE (cD p n o v rank vss=bJ p n o v):=by show _=_;unfold cD;rw[Oe (by simpa using hR)]
  rw[HE.o];go_enter func24,ntmps24;go_wp2_with (go_at_call 55;refine(ke _ _ _ _ _).mono ?_;rintro e w1 ⟨rfl,hb1⟩;have HB1:=ae (show LT w w1 from bE.trans (hb1.mono (by simp)));clear hb1);go_ret;exact⟨rfl,HB1.o⟩
variable{fss:OG}{w:OQ}
theorem BE{x:OR}{b c:Nat}(hf:Vl w x fss)(hlt:b<w.heap.size)(c0:w.cell? (OV b 0)=some x):Wl w (OU b 1 c) [fss]:=by
 refine⟨_,c,rfl,λ_=>⟨b,0,rfl,hlt,λi hi=>?_⟩⟩;simp only[Oh,List.length_nil] at hi;rcases i with _|i
 .exact⟨x,c0,hf⟩
 .omega
theorem Jz(hR:bJ p n o v=0)(h:∀f∈fss,de p n o f=0):ag p n o v fss=0:=v8 (λf hf=>rX.2 ⟨hR,h f hf⟩)
abbrev Ld:=Option (Nat×Tm)
def JA(o ov:Int)(st:Ld)(i:Nat):Lt->Ld
 |[]=>st
 |t::_=>match st with
  |none=>some (i,t)
  |some (j,u)=>if ov=1/\0<aR o t.2 u.2 then some (i,t) else some (j,u)
def pD(o ov:Int)(fss:OG):Nat->Ld
 |0=>none
 |k+1=>JA o ov (pD o ov fss k) k (fss.getD k [])
def oe:Ld->Int
 |none=>0
 |some (_,u)=>u.1
def ja:Ld->OP
 |none=>[]
 |some (_,u)=>u.2
structure lE(w wr:OQ)(p n o v:Int)(st:Ld):Prop where
 below:LT w wr
 box:bA wr w.heap.size p n o v
 res:wr.ownsRow w.heap.size 47 2 (OU (w.heap.size+1) 1 1) 1 [OW 0,.slice none 0 0]
 own:∃ea ec,wr.ownsRow w.heap.size 47 2 (OU (w.heap.size+1+1) 1 1) 1 [OW (oe st),.slice ea (ja st).length ec]/\Sl w (.slice ea (ja st).length ec) (ja st)
variable{st:Ld}{wr w':OQ}
theorem lE.next(h:lE w wr p n o v st)(hb:LT wr w'):lE w w' p n o v st:=by obtain⟨ea,ec,h1,h2⟩:=h.own;exact⟨Io h.below hb,h.box.below hb,aF h.res hb,ea,ec,aF h1 hb,h2⟩
theorem lE.put(h:lE w wr p n o v st)(i:Nat)(t:Tm)(ea:Option Addr)(ec:Nat)(hs:Sl w (.slice ea t.2.length ec) t.2):lE w ((wr.setCell (OV (w.heap.size+1+1) 0) (OW t.1)).setCell (OV (w.heap.size+1+1) 1) (.slice ea t.2.length ec)) p n o v (some (i,t)):=by
 obtain⟨ea0,ec0,h1,_⟩:=h.own;have s1:=h1.stored 0 (OW t.1);have s2:=s1.1.stored 1 (.slice ea t.2.length ec);have hg:=cZ s1.2 s2.2;have hlt:=h.box.1;refine⟨h.below.trans (cV hg (by omega) h.below.size),?_,h.res.kept hg (Oy (by simp[Value.ownBlock])),ea,ec,?_,hs⟩
 .have far:=λo=>jZ (o:=o) hg hlt (show w.heap.size≠w.heap.size+1+1 by omega);obtain⟨_,b0,b1,b2,b3⟩:=h.box;exact⟨NQ hlt hg.size,by rw[far];exact b0,by rw[far];exact b1,by rw[far];exact b2,by rw[far];exact b3⟩
 .have:=s2.1;simpa [oe,ja] using this
theorem lE.first(w:OQ)(p n o v:Int):lE w (((w.alloc (.cells #[OW p,OW n,OW o,OW v] 23)).alloc (.cells #[OW 0,.slice none 0 0] 47)).alloc (.cells #[OW 0,.slice none 0 0] 47)) p n o v none:=by
 have h1:=pY (w:=w.alloc (.cells #[OW p,OW n,OW o,OW v] 23)) (B:=w.heap.size) (by simp) 0 (.slice none 0 0);have h2:=pY (w:=(w.alloc (.cells #[OW p,OW n,OW o,OW v] 23)).alloc (.cells #[OW 0,.slice none 0 0] 47)) (B:=w.heap.size) (by simp;omega) 0 (.slice none 0 0);refine⟨Io dR ai,((bA.new w p n o v _).below ai).below ai,?_,none,0,?_,none,0,rfl,λh=>by simp[ja] at h⟩
 .have:=aF h1 (ai (A:=.cells #[OW 0,.slice none 0 0] 47));simpa using this
 .simpa [oe,ja] using h2
structure kJ(w wr:OQ)(p n o v:Int):Prop where
 below:LT w wr
 box:bA wr w.heap.size p n o v
 res:wr.ownsRow w.heap.size 47 2 (OU (w.heap.size+1) 1 1) 1 [OW 0,.slice none 0 0]
theorem kJ.next(h:kJ w wr p n o v)(hb:LT wr w'):kJ w w' p n o v:=
 ⟨Io h.below hb,h.box.below hb,aF h.res hb⟩
theorem kJ.first(w:OQ)(p n o v:Int):kJ w ((w.alloc (.cells #[OW p,OW n,OW o,OW v] 23)).alloc (.cells #[OW 0,.slice none 0 0] 47)) p n o v:=by have h1:=pY (w:=w.alloc (.cells #[OW p,OW n,OW o,OW v] 23)) (B:=w.heap.size) (by simp) 0 (.slice none 0 0);exact⟨dR,(bA.new w p n o v _).below ai,by simpa using h1⟩
theorem kJ.cells(h:kJ w wr p n o v):wr.cell? (OV (w.heap.size+1) 0)=some (OW 0)/\wr.cell? (OV (w.heap.size+1) 1)=some (.slice none 0 0)/\wr.frozen? (OV (w.heap.size+1) 0)=false/\wr.frozen? (OV (w.heap.size+1) 1)=false:=
 ⟨h.res.cellAt 0 (by omega),h.res.cellAt 1 (by omega),h.res.frozenAt 0,h.res.frozenAt 1⟩
theorem kJ.put(h:kJ w wr p n o v)(c:Int)(u:OR):LT w ((wr.setCell (OV (w.heap.size+1) 0) (OW c)).setCell (OV (w.heap.size+1) 1) u)/\((wr.setCell (OV (w.heap.size+1) 0) (OW c)).setCell (OV (w.heap.size+1) 1) u).cell? (OV (w.heap.size+1) 0)=some (OW c)/\((wr.setCell (OV (w.heap.size+1) 0) (OW c)).setCell (OV (w.heap.size+1) 1) u).cell? (OV (w.heap.size+1) 1)=some u:=by have s1:=h.res.stored 0 (OW c);have s2:=s1.1.stored 1 u;exact⟨h.below.trans (cV (cZ s1.2 s2.2) (by omega) h.below.size),s2.1.cellAt 0 (by omega),s2.1.cellAt 1 (by omega)⟩
structure lL(w0 w wr:OQ)(p n o v:Int)(st:Ld):Prop where
 below:LT w wr
 box:bA wr w.heap.size p n o v
 res:wr.ownsRow w.heap.size 47 2 (OU (w.heap.size+1) 1 1) 1 [OW 0,.slice none 0 0]
 own:∃ea ec,wr.ownsRow w.heap.size 47 2 (OU (w.heap.size+1+1) 1 1) 1 [OW (oe st),.slice ea (ja st).length ec]/\Sl w0 (.slice ea (ja st).length ec) (ja st)
variable{w0:OQ}
theorem lL.next(h:lL w0 w wr p n o v st)(hb:LT wr w'):lL w0 w w' p n o v st:=by obtain⟨ea,ec,h1,h2⟩:=h.own;exact⟨Io h.below hb,h.box.below hb,aF h.res hb,ea,ec,aF h1 hb,h2⟩
theorem lL.put(h:lL w0 w wr p n o v st)(i:Nat)(t:Tm)(ea:Option Addr)(ec:Nat)(hs:Sl w0 (.slice ea t.2.length ec) t.2):lL w0 w ((wr.setCell (OV (w.heap.size+1+1) 0) (OW t.1)).setCell (OV (w.heap.size+1+1) 1) (.slice ea t.2.length ec)) p n o v (some (i,t)):=by
 obtain⟨ea0,ec0,h1,_⟩:=h.own;have s1:=h1.stored 0 (OW t.1);have s2:=s1.1.stored 1 (.slice ea t.2.length ec);have hg:=cZ s1.2 s2.2;have hlt:=h.box.1;refine⟨h.below.trans (cV hg (by omega) h.below.size),?_,h.res.kept hg (Oy (by simp[Value.ownBlock])),ea,ec,?_,hs⟩
 .have far:=λo=>jZ (o:=o) hg hlt (show w.heap.size≠w.heap.size+1+1 by omega);obtain⟨_,b0,b1,b2,b3⟩:=h.box;exact⟨NQ hlt hg.size,by rw[far];exact b0,by rw[far];exact b1,by rw[far];exact b2,by rw[far];exact b3⟩
 .have:=s2.1;simpa [oe,ja] using this
theorem lL.first(w0 w:OQ)(p n o v:Int):lL w0 w (((w.alloc (.cells #[OW p,OW n,OW o,OW v] 23)).alloc (.cells #[OW 0,.slice none 0 0] 47)).alloc (.cells #[OW 0,.slice none 0 0] 47)) p n o v none:=by
 have h1:=pY (w:=w.alloc (.cells #[OW p,OW n,OW o,OW v] 23)) (B:=w.heap.size) (by simp) 0 (.slice none 0 0);have h2:=pY (w:=(w.alloc (.cells #[OW p,OW n,OW o,OW v] 23)).alloc (.cells #[OW 0,.slice none 0 0] 47)) (B:=w.heap.size) (by simp;omega) 0 (.slice none 0 0);refine⟨Io dR ai,((bA.new w p n o v _).below ai).below ai,?_,none,0,?_,none,0,rfl,λh=>by simp[ja] at h⟩
 .have:=aF h1 (ai (A:=.cells #[OW 0,.slice none 0 0] 47));simpa using this
 .simpa [oe,ja] using h2
theorem AI(w:OQ)(p n o v:Int)(T:TypeId):(w.alloc (.cells #[OW p,OW n,OW o,OW v] T)).cell? (OV w.heap.size 0)=some (OW p)/\(w.alloc (.cells #[OW p,OW n,OW o,OW v] T)).cell? (OV w.heap.size 1)=some (OW n)/\(w.alloc (.cells #[OW p,OW n,OW o,OW v] T)).cell? (OV w.heap.size 2)=some (OW o)/\(w.alloc (.cells #[OW p,OW n,OW o,OW v] T)).cell? (OV w.heap.size 3)=some (OW v):=by simp[go_sem]
end Go.Proofs.YtjkalahhpobefaaGreat
