/- vector.checkPolys. -/
import Derived.Test.YtjkalahhpobefaaGreatTL
import Derived.Laws.EntriesVeiled
set_option maxHeartbeats 2000000
set_option maxRecDepth 100000
namespace Go.Proofs.YtjkalahhpobefaaGreat
set_option linter.all false
open Go.Proofs.Tryz Go.RowKit
variable{f:LT}{p n o v:Int}
theorem J8(hR:bE p n o v=0):ag p n o v [f]=ep p n o f:=by
 have e:gB p n o v f=ep p n o f:=by unfold gB;rw[OV (by simpa using hR)]
 have hu:ag p n o v [f]=if gB p n o v f≠0 then gB p n o v f else 0:=rfl
 rw[hu,e];by_cases h:ep p n o f=0
 .rw[OV (by simpa using h),h]
 .rw[OW h]
theorem pP(p n o v:Int)(lv:PK)(fss:Lt)(w:PJ)(hR:bE p n o v=0)(hm:fss.length<=1200000000000)(hs:Vl w lv fss):Calls prog 25 #[aI p n o v,lv] w λe w'=>e=.returned (PO (dC p n o fss))/\Io w w':=by
 have HS:=ae hs;have HR:=ae hR;have HT:=ae (wK p n o v);obtain⟨la,lc,rfl,_⟩:=hs;obtain⟨w1,hw1⟩:∃w1,w1=w.alloc (.cells #[PO p,PO n,PO o,PO v] 23):=⟨_,rfl⟩;have hbx:bO w1 w.heap.size p n o v:=by rw[hw1];exact bO.new w p n o v _
 have hbw:Io w w1:=by rw[hw1];exact aY
 have HBX:=ae hbx;have HBW:=ae hbw;clear hR hbx hbw;go_enter func25,ntmps25;go_wp2_with fail;rw[<-hw1];clear hw1;go_loopw [10] (λi wr=>∃k:Nat,k<=fss.length/\i=PO k/\dC p n o fss=dC p n o (fss.drop k)/\Io w1 wr) (λi _=>fss.length-(intOf i).toNat);case atStart=>exact⟨0,OB _,rfl,rfl,Ov _ _⟩
 case round=>
  obtain⟨k,hk,rfl,her,hbr⟩:=hrel;have HBR:=ae hbr;have HER0:=ae her;clear hbr her;by_cases hk2:k<fss.length
  .have HER:=ae (HER0.o.trans (J9 p n o fss k hk2));have HDN:=ae (In HBW.o HBR.o);obtain⟨b,off,fa,fc,rfl,hlt,c0,hpf⟩:=jD HS.o k hk2;generalize fss.getD k []=f at c0 hpf HER;have HPF:=ae (hpf.below HDN.o);have d0:=af c0 HDN.o;have HC1:=ae (J8 (f:=f) HR.o);obtain⟨_,bx0,bx1,bx2,bx3⟩:=HBX.o.below HBR.o;clear c0 hpf;cases hz:(ep p n o f !=0)
   .have HZ:Po (ep p n o f=0):=by simpa [Po] using hz
    go_wp2_with (go_at_call 57;refine(Cc p n o v _ HT.o _ f _ HPF.o).mono ?_;rw[HC1.o];rintro e w2 ⟨rfl,hb2⟩;have HB2:=ae (In HBR.o hb2);clear hb2);go_roundw;case rel=>exact⟨k+1,by omega,by go_num,by rw[HER.o,OW HZ.o],HB2.o⟩
    case measure=>simp[intOf];omega
   .have HZ:Po (ep p n o f≠0):=by simpa [Po] using hz
    go_wp2_with (go_at_call 57;refine(Cc p n o v _ HT.o _ f _ HPF.o).mono ?_;rw[HC1.o];rintro e w2 ⟨rfl,hb2⟩;have HB2:=ae (In HBR.o hb2);clear hb2);go_ret;exact⟨et (by rw[HER.o,OV HZ.o]),In HBW.o HB2.o⟩
  .go_wp2;go_ret;exact⟨et (by rw[HER0.o,Pe (by omega)];rfl),In HBW.o HBR.o⟩
theorem sA(m:Int)(w:PJ):Calls prog 56 #[PO m] w λe w'=>e=.returned (.bool (eW m 1 40))/\w'=w:=by
 have HE:Po (eW m 1 40=decide (1<=m/\m<=40)):=by show _=_;simp[eW]
 rw[HE.o];by_cases h1:1<=m
 .by_cases h2:m<=40
  .have HD:Po (decide (1<=m/\m<=40)=true):=Oy ⟨h1,h2⟩;rw[HD.o];go_enter func56,ntmps56;go_wp2;go_ret;exact⟨rS (by simp[h2]),rfl⟩
  .have HD:Po (decide (1<=m/\m<=40)=false):=Ox (by omega);rw[HD.o];go_enter func56,ntmps56;go_wp2;go_ret;exact⟨rS (by simp[h2]),rfl⟩
 .have HD:Po (decide (1<=m/\m<=40)=false):=Ox (by omega);rw[HD.o];go_enter func56,ntmps56;go_wp2;go_ret;exact⟨rfl,rfl⟩
theorem Cd(va:Option Addr)(vc:Nat)(fss:Lt)(w:PJ):Calls prog 60 #[.slice va fss.length vc] w λe w'=>e=.returned (.bool (ir fss))/\w'=w:=by go_enter func60,ntmps60;go_wp2_with (go_at_call 56;refine(sA _ _).mono ?_;rintro e w' ⟨rfl,rfl⟩);go_ret;exact⟨rfl,rfl⟩
theorem Ka(va:Option Addr)(vc vb:Nat)(fss:Lt)(la:Option Addr)(lc:Nat)(vss:PA)(w:PJ)(hp:0<vss.length)(hb:w.cell? (PN vb 0)=some (.slice la vss.length lc))(hs:Wl w (.slice la vss.length lc) vss):Calls prog 61 #[.slice va fss.length vc,PL vb] w λe w'=>e=.returned (.bool (fP (vss.getD 0 []).length fss))/\w'=w:=by
 obtain⟨b,off,va2,vc2,rfl,hlt,c0,_⟩:=lH hs 0 hp;generalize vss.getD 0 []=gss at c0;simp only[Nat.add_zero] at c0;clear hs;cases hun:((fss.length:Int) !=(gss.length:Int))
 .have HU:=ae (Kb (m:=gss.length) hun);rw[HU.o];go_enter func61,ntmps61;go_wp2;go_ret;exact⟨rS (by simp),rfl⟩
 .have HU:=ae (Kc (m:=gss.length) hun);rw[HU.o];go_enter func61,ntmps61;go_wp2;go_ret;exact⟨rS (by simp),rfl⟩
theorem Kd(lv:PK)(vss:PA)(w:PJ)(hm:vss.length<=1000)(hs:Wl w lv vss):Calls prog 67 #[lv,.func (.func 60) #[] #[]] w λe w'=>∃r:Int,e=.returned (PO r)/\decide (0<=r)=vss.any ir/\w'=w:=by
 have HS:=ae hs;obtain⟨la,lc,rfl,_⟩:=hs;go_enter func67,ntmps67;go_wp2;go_loop [8] (λi=>∃k:Nat,k<=vss.length/\i=PO k/\(vss.take k).any ir=false) (λi=>vss.length-(intOf i).toNat);case atStart=>exact⟨0,OB _,rfl,by simp⟩
 case round=>
  obtain⟨k,hk,rfl,hn⟩:=hrel;have HN:=ae hn;clear hn;by_cases hlt:k<vss.length
  .obtain⟨b,off,va,vc,rfl,_,c0,_⟩:=lH HS.o k hlt;have H1:=ae (Ce ir vss k hlt HN.o);have H2:=ae (Cf ir vss k hlt);generalize vss.getD k []=fss at c0 H1 H2;cases hy:ir fss
   .go_wp2_with (go_at_call 60;refine(Cd _ _ fss _).mono ?_;rw[hy];rintro e w' ⟨rfl,rfl⟩);go_round;case rel=>exact⟨k+1,by omega,by go_num,H1.o hy⟩
    case measure=>simp[intOf];omega
   .go_wp2_with (go_at_call 60;refine(Cd _ _ fss _).mono ?_;rw[hy];rintro e w' ⟨rfl,rfl⟩);go_ret;exact⟨(k:Int),rfl,by rw[H2.o hy];simp,rfl⟩
  .go_wp2;go_ret;exact⟨-1,rfl,by have:=HN.o;rw[OO (by omega)] at this;rw[this];simp,rfl⟩
theorem Ke(la:Option Addr)(lc vb:Nat)(vss:PA)(w:PJ)(hm:vss.length<=1000)(hb:w.cell? (PN vb 0)=some (.slice la vss.length lc))(hs:Wl w (.slice la vss.length lc) vss):Calls prog 67 #[.slice la vss.length lc,.func (.func 61) #[] #[PL vb]] w λe w'=>∃r:Int,e=.returned (PO r)/\decide (0<=r)=vss.any (fP (vss.getD 0 []).length)/\w'=w:=by
 have HS:=ae hs;have HB:=ae hb;have HUN:Po (0<vss.length->∀va vc fss,Calls prog 61 #[.slice va fss.length vc,PL vb] w λe w'=>e=.returned (.bool (fP (vss.getD 0 []).length fss))/\w'=w):=λhp va vc fss=>Ka va vc vb fss la lc vss w hp hb hs;obtain⟨m,hmm⟩:∃m,(vss.getD 0 []).length=m:=⟨_,rfl⟩;rw[hmm] at HUN⊢;clear hs hb hmm;go_enter func67,ntmps67;go_wp2;go_loop [8] (λi=>∃k:Nat,k<=vss.length/\i=PO k/\(vss.take k).any (fP m)=false) (λi=>vss.length-(intOf i).toNat);case atStart=>exact⟨0,OB _,rfl,by simp⟩
 case round=>
  obtain⟨k,hk,rfl,hn⟩:=hrel;have HN:=ae hn;clear hn;by_cases hlt:k<vss.length
  .obtain⟨b,off,va,vc,rfl,_,c0,_⟩:=lH HS.o k hlt;have H1:=ae (Ce (fP m) vss k hlt HN.o);have H2:=ae (Cf (fP m) vss k hlt);generalize vss.getD k []=fss at c0 H1 H2;have HC:=ae (HUN.o (by omega) va vc fss);cases hy:fP m fss
   .go_wp2_with (go_at_call 61;refine HC.o.mono ?_;rw[hy];rintro e w' ⟨rfl,rfl⟩);go_round;case rel=>exact⟨k+1,by omega,by go_num,H1.o hy⟩
    case measure=>simp[intOf];omega
   .go_wp2_with (go_at_call 61;refine HC.o.mono ?_;rw[hy];rintro e w' ⟨rfl,rfl⟩);go_ret;exact⟨(k:Int),rfl,by rw[H2.o hy];simp,rfl⟩
  .go_wp2;go_ret;exact⟨-1,rfl,by have:=HN.o;rw[OO (by omega)] at this;rw[this];simp,rfl⟩
theorem Cg(lv:PK)(vss:PA)(w:PJ)(hm:vss.length<=1000)(hs:Wl w lv vss):Calls prog 33 #[lv,.func (.func 60) #[] #[]] w λe w'=>e=.returned (.bool (vss.any ir))/\w'=w:=by have HS:=ae hs;obtain⟨la,lc,rfl,_⟩:=hs;go_enter func33,ntmps33;go_wp2_with (go_at_call 67;refine(Kd _ vss _ hm HS.o).mono ?_;rintro e w' ⟨r,rfl,hr,rfl⟩);go_ret;exact⟨by rw[<-hr];rfl,rfl⟩
theorem Kf(la:Option Addr)(lc vb:Nat)(vss:PA)(w:PJ)(hm:vss.length<=1000)(hb:w.cell? (PN vb 0)=some (.slice la vss.length lc))(hs:Wl w (.slice la vss.length lc) vss):Calls prog 33 #[.slice la vss.length lc,.func (.func 61) #[] #[PL vb]] w λe w'=>e=.returned (.bool (vss.any (fP (vss.getD 0 []).length)))/\w'=w:=by have HI:=ae (Ke la lc vb vss w hm hb hs);clear hs hb;go_enter func33,ntmps33;go_wp2_with (go_at_call 67;refine HI.o.mono ?_;rintro e w' ⟨r,rfl,hr,rfl⟩;have HRR:=ae hr;clear hr);go_ret;exact⟨by rw[<-HRR.o];rfl,rfl⟩
theorem wL(p n o v:Int)(lv:PK)(vss:PA)(w:PJ)(hm:vss.length<=1000)(hs:Wl w lv vss):Calls prog 29 #[aI p n o v,lv] w λe w'=>e=.returned (PO (er p n o v vss))/\Io w w':=by
 have HS:=ae hs;obtain⟨la,lc,rfl,_⟩:=hs;obtain⟨w2,hw2⟩:∃w2,w2=(w.alloc (.cells #[PO p,PO n,PO o,PO v] 23)).alloc (.cells #[.slice la vss.length lc] 24):=⟨_,rfl⟩;have hb2:Io w w2:=by rw[hw2];exact cY
 have hbx:bO w2 w.heap.size p n o v:=by rw[hw2];exact(bO.new w p n o v _).below aY
 have hcf:w2.cell? (PN (w.heap.size+1) 0)=some (.slice la vss.length lc):=by rw[hw2];simp[go_sem]
 have HB2:=ae hb2;have HBX:=ae hbx;have HCF:=ae hcf;obtain⟨_,bx0,bx1,bx2,bx3⟩:=hbx;clear hb2;cases hR:(bE p n o v !=0)
 .have hR0:bE p n o v=0:=by simpa using hR
  have HR:=ae hR0;have HE:Po (er p n o v vss=if vss.any ir then 3 else if vss.any (fP (vss.getD 0 []).length) then 1 else fX (dC p n o) vss):=by show _=_;unfold er;rw[OV (by simpa using hR0)]
  clear hR0;go_enter func29,ntmps29;go_wp2_with fail;try rw[<-hw2]
  refine(jk p n o v w2).mono ?_;rintro e w3 ⟨rfl,hb3⟩;have HB3:=ae (In HB2.o hb3);have HBX3:=ae (HBX.o.below hb3);have hcf3:=af HCF.o hb3;have HCF3:=ae hcf3;have HS3:=ae (HS.o.below HB3.o);clear hb3 bx0 bx1 bx2 bx3 hcf hw2;obtain⟨_,bx0,bx1,bx2,bx3⟩:=HBX3.o;have HCB:=ae (Cg _ vss w3 hm HS3.o);have HCU:=ae (Kf la lc (w.heap.size+1) vss w3 hm HCF3.o HS3.o);cases hab:vss.any ir
  .have HE2:Po (er p n o v vss=if vss.any (fP (vss.getD 0 []).length) then 1 else fX (dC p n o) vss):=by show _=_;rw[HE.o,OV (by rw[hab];simp)]
   have HAB:=ae hab;cases hun:vss.any (fP (vss.getD 0 []).length)
   .rw[hun] at HCU;have HUN:=ae hun;have HE3:Po (er p n o v vss=fX (dC p n o) vss):=by show _=_;rw[HE2.o,OV (by rw[hun];simp)]
    clear HE HE2 hun;go_wp2_with fail;refine HCB.o.mono ?_;rw[HAB.o];rintro e w4 ⟨rfl,rfl⟩;go_wp2_with fail;refine HCU.o.mono ?_;rintro e w4 ⟨rfl,rfl⟩;go_wp2_with fail;obtain⟨wo,hwo⟩:∃wo,wo=w4:=⟨_,rfl⟩;subst hwo;clear bx0 bx1 bx2 bx3 hcf3;go_loopw [21] (λi wr=>∃k:Nat,k<=vss.length/\i=PO k/\fX (dC p n o) vss=fX (dC p n o) (vss.drop k)/\Io wo wr) (λi _=>vss.length-(intOf i).toNat);case atStart=>exact⟨0,OB _,rfl,rfl,Ov _ _⟩
    case round=>
     obtain⟨k,hk,rfl,her,hbr⟩:=hrel;have HBR:=ae hbr;have HER0:=ae her;clear hbr her;by_cases hk2:k<vss.length
     .have HER:=ae (HER0.o.trans (Ch (dC p n o) vss k hk2));obtain⟨b,off,va,vc,rfl,hlt,c0,hvl⟩:=lH HS3.o k hk2;have HFLs:Po ((vss.getD k []).length<=1200000000000):=Kg HAB.o (mB vss k hk2);generalize vss.getD k []=fss at c0 hvl HER HFLs;have HVL:=ae (hvl.below HBR.o);have d0:=af c0 HBR.o;obtain⟨_,bx0,bx1,bx2,bx3⟩:=HBX3.o.below HBR.o;clear c0 hvl;cases hz:(dC p n o fss !=0)
      .have HZ:Po (dC p n o fss=0):=by simpa [Po] using hz
       go_wp2_with (go_at_call 25;refine(pP p n o v _ fss _ HR.o HFLs.o HVL.o).mono ?_;rintro e w4 ⟨rfl,hb4⟩;have HB4:=ae (In HBR.o hb4);clear hb4);go_roundw;case rel=>exact⟨k+1,by omega,by go_num,by rw[HER.o,OW HZ.o],HB4.o⟩
       case measure=>simp[intOf];omega
      .have HZ:Po (dC p n o fss≠0):=by simpa [Po] using hz
       go_wp2_with (go_at_call 25;refine(pP p n o v _ fss _ HR.o HFLs.o HVL.o).mono ?_;rintro e w4 ⟨rfl,hb4⟩;have HB4:=ae (In HBR.o hb4);clear hb4);go_ret;exact⟨et (by rw[HE3.o,HER.o,OV HZ.o]),In HB3.o HB4.o⟩
     .go_wp2;go_ret;exact⟨et (by rw[HE3.o,HER0.o,Pe (by omega)];rfl),In HB3.o HBR.o⟩
   .rw[hun] at HCU;have HE3:Po (er p n o v vss=1):=by show _=_;rw[HE2.o,OW hun]
    clear hun;clear HE HE2;go_wp2_with fail;refine HCB.o.mono ?_;rw[HAB.o];rintro e w4 ⟨rfl,rfl⟩;go_wp2_with fail;refine HCU.o.mono ?_;rintro e w4 ⟨rfl,rfl⟩;go_wp2_with fail;go_ret;exact⟨et HE3.o.symm,HB3.o⟩
  .have HE3:Po (er p n o v vss=3):=by show _=_;rw[HE.o,OW hab]
   clear HE;go_wp2_with (go_at_call 33;refine(Cg _ vss _ hm HS3.o).mono ?_;rw[hab];rintro e w' ⟨rfl,rfl⟩);go_ret;exact⟨et HE3.o.symm,HB3.o⟩
 .have HE:Po (er p n o v vss=bE p n o v):=by show _=_;unfold er;rw[OW (by simpa using hR)]
  rw[HE.o];go_enter func29,ntmps29;go_wp2_with fail;try rw[<-hw2]
  refine(jk p n o v w2).mono ?_;rintro e w3 ⟨rfl,hb3⟩;have HB3:=ae (In HB2.o hb3);clear hb3;go_wp2;go_ret;exact⟨rfl,HB3.o⟩
theorem oo(p n o v rank:Int)(lv:PK)(vss:PA)(w:PJ)(hs:Wl w lv vss):Calls prog 24 #[aI p n o v,PO rank,lv] w λe w'=>e=.returned (PO (cR p n o v rank vss))/\Io w w':=by
 have HS:=ae hs;obtain⟨la,lc,rfl,_⟩:=hs;cases hR:(bE p n o v !=0)
 .have hR0:bE p n o v=0:=by simpa using hR
  have HR:=ae hR0;have HE:Po (cR p n o v rank vss=mH p n o rank vss):=by show _=_;unfold cR;rw[OV (by simpa using hR0)]
  clear hR0;cases hbt:eW rank 1 40
  .have HE2:Po (cR p n o v rank vss=3):=by show _=_;rw[HE.o];unfold mH;rw[OW hbt]
   rw[HE2.o];go_enter func24,ntmps24;go_wp2_with (first|(go_at_call 55;refine(jk _ _ _ _ _).mono ?_;rintro e w1 ⟨rfl,hb1⟩;have HB1:=ae (show Io w w1 from aY.trans (hb1.mono (by simp)));clear hb1)|(go_at_call 56;refine(sA _ _).mono ?_;rw[hbt];rintro e w' ⟨rfl,rfl⟩));go_ret;exact⟨rfl,HB1.o⟩
  .by_cases hlen:60<vss.length
   .have HE2:Po (cR p n o v rank vss=2):=by show _=_;rw[HE.o];unfold mH;rw[OV (by rw[hbt];simp),OW hlen]
    rw[HE2.o];go_enter func24,ntmps24;go_wp2_with (first|(go_at_call 55;refine(jk _ _ _ _ _).mono ?_;rintro e w1 ⟨rfl,hb1⟩;have HB1:=ae (show Io w w1 from aY.trans (hb1.mono (by simp)));clear hb1)|(go_at_call 56;refine(sA _ _).mono ?_;rw[hbt];rintro e w' ⟨rfl,rfl⟩));go_ret;exact⟨rfl,HB1.o⟩
   .have HE2:Po (cR p n o v rank vss=fX (j9 p n o rank) vss):=by show _=_;rw[HE.o];unfold mH;rw[OV (by rw[hbt];simp),OV hlen]
    rw[HE2.o];have HRK:Po (1<=rank/\rank<=40):=by simpa [eW,Po] using hbt
    clear HE HE2;go_enter func24,ntmps24;go_wp2_with fail;refine(jk _ _ _ _ _).mono ?_;rintro e w1 ⟨rfl,hb1⟩;have HB1:=ae (show Io w w1 from aY.trans (hb1.mono (by simp)));have HBX:=ae ((bO.new w p n o v 23).below hb1);clear hb1;go_wp2_with fail;refine(sA _ _).mono ?_;rw[hbt];rintro e w2 ⟨rfl,rfl⟩;have HS1:=ae (HS.o.below HB1.o);go_wp2_with fail;obtain⟨wo,hwo⟩:∃wo,wo=w2:=⟨_,rfl⟩;subst hwo;clear hbt;go_loopw [24] (λi wr=>∃k:Nat,k<=vss.length/\i=PO k/\fX (j9 p n o rank) vss=fX (j9 p n o rank) (vss.drop k)/\Io wo wr) (λi _=>vss.length-(intOf i).toNat);case atStart=>exact⟨0,OB _,rfl,rfl,Ov _ _⟩
    case round=>
     obtain⟨k,hk,rfl,her,hbr⟩:=hrel;have HBR:=ae hbr;have HER0:=ae her;clear hbr her;by_cases hk2:k<vss.length
     .have HER:=ae (HER0.o.trans (Ch (j9 p n o rank) vss k hk2));obtain⟨b,off,va,vc,rfl,hlt,c0,hvl⟩:=lH HS1.o k hk2;generalize vss.getD k []=fss at c0 hvl HER;have HVL:=ae (hvl.below HBR.o);have d0:=af c0 HBR.o;obtain⟨_,bx0,bx1,bx2,bx3⟩:=HBX.o.below HBR.o;clear c0 hvl;cases hln:((fss.length:Int) !=rank)
      .have hrk:(fss.length:Int)=rank:=by simpa using hln
       subst hrk;have HEV:Po (j9 p n o (fss.length:Int) fss=dC p n o fss):=by show _=_;unfold j9;rw[OV (by simp)]
       have hf40:fss.length<=40:=by have:=HRK.o;omega
       have HVP:=ae (pP p n o v _ fss wr HR.o (by omega) HVL.o);clear hln;cases hz:(dC p n o fss !=0)
       .have HZ:Po (dC p n o fss=0):=by simpa [Po] using hz
        go_wp2_with (go_at_call 25;refine HVP.o.mono ?_;rintro e w4 ⟨rfl,hb4⟩;have HB4:=ae (In HBR.o hb4);clear hb4);go_roundw;case rel=>exact⟨k+1,by omega,by go_num,by rw[HER.o,HEV.o,OW HZ.o],HB4.o⟩
        case measure=>simp[intOf];omega
       .have HZ:Po (dC p n o fss≠0):=by simpa [Po] using hz
        go_wp2_with (go_at_call 25;refine HVP.o.mono ?_;rintro e w4 ⟨rfl,hb4⟩;have HB4:=ae (In HBR.o hb4);clear hb4);go_ret;exact⟨et (by rw[HER.o,HEV.o,OV HZ.o]),In HB1.o HB4.o⟩
      .have HEV:Po (j9 p n o rank fss=1):=by show _=_;unfold j9;rw[OW (by simpa using hln)]
       go_wp2_with fail;go_ret;exact⟨et (by rw[HER.o,HEV.o];simp),In HB1.o HBR.o⟩
     .go_wp2;go_ret;exact⟨et (by rw[HER0.o,Pe (by omega)];rfl),In HB1.o HBR.o⟩
 .have HE:Po (cR p n o v rank vss=bE p n o v):=by show _=_;unfold cR;rw[OW (by simpa using hR)]
  rw[HE.o];go_enter func24,ntmps24;go_wp2_with (go_at_call 55;refine(jk _ _ _ _ _).mono ?_;rintro e w1 ⟨rfl,hb1⟩;have HB1:=ae (show Io w w1 from aY.trans (hb1.mono (by simp)));clear hb1);go_ret;exact⟨rfl,HB1.o⟩
def jd(zs:Lt)(i:Nat):Int:=if bF (zs.getD i []) then 2 else 0
def pQ(zs:Lt)(i:Nat):LT:=if bF (zs.getD i []) then [] else zs.getD i []
theorem Ci(zs:Lt):∀(m k:Nat),k+m=zs.length->dD (jd zs) m k=if (zs.drop k).any bF then 2 else 0
 |0,k,h=>by rw[Pe (by omega)];rfl
 |m+1,k,h=>by
  have hk:k<zs.length:=by omega
  have hu:dD (jd zs) (m+1) k=if jd zs k≠0 then jd zs k else dD (jd zs) m (k+1):=rfl
  have e:zs.getD k []=zs[k]:=by simp[OH,hk]
  rw[hu,Ci zs m (k+1) (by omega),Pd hk,List.any_cons];unfold jd;rw[e];cases hg:bF zs[k]<;>simp
theorem Kh(zs:Lt):dD (jd zs) zs.length 0=je 0 zs/\ke (jd zs) (pQ zs) zs.length=kH 0 zs:=by
 have h:=Ci zs zs.length 0 (by omega);rw[List.drop_zero] at h;have e1:dD (jd zs) zs.length 0=je 0 zs:=by rw[h];unfold je;simp
 refine⟨e1,?_⟩;unfold ke kH;rw[e1];by_cases hz:je 0 zs=0
 .rw[OW hz,OW hz];have hany:zs.any bF=false:=by
   unfold je at hz;rw[OV (by simp)] at hz;cases hg:zs.any bF
   .rfl
   .rw[hg] at hz;simp at hz
  apply List.ext_getElem?;intro i;by_cases hi:i<zs.length
  .have hn:=List.any_eq_false.1 hany _ (OE hi);simp[hi,pQ,hn]
  .rw[OJ (by simp;omega),OJ (by omega)]
 .rw[OV hz,OV hz]
variable{b c:Nat}{fss:Lt}{x:PK}{w:PJ}
theorem Ki{y:PK}{gss:Lt}(hf:Vl w x fss)(hg:Vl w y gss)(hlt:b<w.heap.size)(c0:w.cell? (PN b 0)=some x)(c1:w.cell? (PN b 1)=some y):Wl w (PM b 2 c) [fss,gss]:=by
 refine⟨_,c,rfl,λ_=>⟨b,0,rfl,hlt,λi hi=>?_⟩⟩;simp only[OZ,List.length_nil] at hi;rcases i with _|_|i
 .exact⟨x,c0,hf⟩
 .exact⟨y,c1,hg⟩
 .omega
theorem rW(hf:Vl w x fss)(hlt:b<w.heap.size)(c0:w.cell? (PN b 0)=some x):Wl w (PM b 1 c) [fss]:=by
 refine⟨_,c,rfl,λ_=>⟨b,0,rfl,hlt,λi hi=>?_⟩⟩;simp only[OZ,List.length_nil] at hi;rcases i with _|i
 .exact⟨x,c0,hf⟩
 .omega
theorem Kj{vss:PA}(h:er p n o v vss=0):bE p n o v=0/\∀fss∈vss,(1<=fss.length/\fss.length<=40)/\fss.length=(vss.getD 0 []).length/\∀f∈fss,ep p n o f=0:=by
 unfold er at h;by_cases hr:bE p n o v=0
 .rw[OV (by simpa using hr)] at h;cases h1:vss.any ir
  .rw[h1,OV (by simp)] at h;cases h2:vss.any (fP (vss.getD 0 []).length)
   .rw[h2,OV (by simp)] at h;refine⟨hr,λfss hf=>?_⟩;have a1:=List.any_eq_false.1 h1 fss hf;have a2:=List.any_eq_false.1 h2 fss hf;simp[ir,eW] at a1;simp only[fP,decide_eq_true_eq,Decidable.not_not] at a2;exact⟨by omega,a2,sB (sC h fss hf)⟩
   .rw[h2,OW rfl] at h;omega
  .rw[h1,OW rfl] at h;omega
 .rw[OW hr] at h;exact absurd h hr
theorem Cj(hR:bE p n o v=0)(h:∀f∈fss,ep p n o f=0):ag p n o v fss=0:=wM (λf hf=>sE.2 ⟨hR,h f hf⟩)
variable{g:LT}
theorem Ck:gU 0 p o f g=if bF (aR p o (f++g)) then 2 else 0:=by unfold gU;simp
theorem Kk:jE 0 p o f g=if bF (aR p o (f++g)) then [] else aR p o (f++g):=by unfold jE;rw[Ck];cases bF (aR p o (f++g))<;>simp
theorem Kl(p n o v:Int)(i rb wb:Nat)(fv:PK)(f:LT)(ya:Option Addr)(yc:Nat)(gss:Lt)(w:PJ)(hi:i<gss.length)(hE:ag p n o v [f,gss.getD i []]=0)(bx:bO w rb p n o v)(hc:w.cell? (PN wb 0)=some (.slice ya gss.length yc))(pf:Pl w fv f)(pg:Vl w (.slice ya gss.length yc) gss):Calls prog 30 #[PO i,fv,PL rb,PL wb] w λe w'=>∃u,e=.returned (.tuple #[u,PO (gU 0 p o f (gss.getD i []))])/\Pl w' u (jE 0 p o f (gss.getD i []))/\Io w w':=by
 have HP:=ae pf;have HT:=ae (wK p n o v);obtain⟨b,off,ga,gc,rfl,hlt,c0,hpg⟩:=jD pg i hi;obtain⟨_,bx0,bx1,bx2,bx3⟩:=bx;generalize gss.getD i []=g at c0 hpg hE;have HG:=ae hpg;have HE:=ae hE;obtain⟨fa,fc,rfl,_,_⟩:=pf;have KEEP:Po (∀W,Io w W->(Po (Io w W)/\W.cell? (PN rb 0)=some (PO p)/\W.cell? (PN rb 1)=some (PO n)/\W.cell? (PN rb 2)=some (PO o)/\W.cell? (PN rb 3)=some (PO v)/\W.cell? (PN wb 0)=some (.slice (some (PN b off)) gss.length yc)/\W.cell? (PN b (off+i))=some (.slice ga g.length gc))):=
  λW hb=>⟨hb,af bx0 hb,af bx1 hb,af bx2 hb,af bx3 hb,af hc hb,af c0 hb⟩
 have HB0:Po (Io w w.drew):=(Ov _ _).drew;clear bx0 bx1 bx2 bx3 hc c0 hpg pg hE;go_enter func30,ntmps30;go_wp2_with fail;go_region_held (λW=>Po (Io w W)/\W.cell? (PN rb 0)=some (PO p)/\W.cell? (PN rb 1)=some (PO n)/\W.cell? (PN rb 2)=some (PO o)/\W.cell? (PN rb 3)=some (PO v)/\W.cell? (PN wb 0)=some (.slice (some (PN b off)) gss.length yc)/\W.cell? (PN b (off+i))=some (.slice ga g.length gc))
  (first|exact KEEP.o _ HB0.o|exact KEEP.o _ HB9.o)
  (first|(go_at_call 31;refine(Km p n o v _ HT.o _ _ f g _ ?_ ?_).mono ?_;exact HP.o.below HB0.o;exact HG.o.below HB0.o;rw[HE.o];rintro e w9 ⟨u9,rfl,hu9,hb9⟩;have HU9:=ae hu9;have HB9:=ae (show Io w w9 from In HB0.o hb9);obtain⟨ua9,uc9,rfl,_,_⟩:=hu9;clear hb9))
 go_wp2;go_ret2;exact⟨_,rfl,HU9.o,HB9.o⟩
theorem Cl(p n o v:Int)(x y:PK)(fss gss:Lt)(w:PJ)(pf:Vl w x fss)(pg:Vl w y gss):Calls prog 11 #[aI p n o v,x,y] w λe w'=>∃u,e=.returned (.tuple #[u,PO (je (er p n o v [fss,gss]) (eh p o fss gss))])/\Vl w' u (kH (er p n o v [fss,gss]) (eh p o fss gss))/\Io w w':=by
 have HX:=ae pf;have HY:=ae pg;obtain⟨ax,cx,rfl,_⟩:=pf;obtain⟨ay,cy,rfl,_⟩:=pg;obtain⟨w2,hw2⟩:∃w2,w2=(w.alloc (.cells #[PO p,PO n,PO o,PO v] 23)).alloc (.cells #[.slice ay gss.length cy] 32):=⟨_,rfl⟩;have hb2:Io w w2:=by rw[hw2];exact cY
 have hbx:bO w2 w.heap.size p n o v:=by rw[hw2];exact(bO.new w p n o v _).below aY
 have hcf:w2.cell? (PN (w.heap.size+1) 0)=some (.slice ay gss.length cy):=by rw[hw2];simp[go_sem]
 have HB2:=ae hb2;have HBX:=ae hbx;have HCF:=ae hcf;have HS2:Po (w2.heap.size=w.heap.size+2):=by show _=_;rw[hw2];simp
 have HW2:Po (∀T,Wl (w2.alloc (.cells #[.slice ax fss.length cx,.slice ay gss.length cy] T)) (PM w2.heap.size 2 2) [fss,gss]):=λT=>Ki ((HX.o.below hb2).below aY) ((HY.o.below hb2).below aY) (by simp) (by simp[go_sem]) (by simp[go_sem]);rw[HS2.o] at HW2;clear hb2 hbx hcf;cases hz:(er p n o v [fss,gss] !=0)
 .have hz0:er p n o v [fss,gss]=0:=by simpa using hz
  obtain⟨hR,hall⟩:=Kj hz0;obtain⟨h1,_,h3⟩:=hall fss (by simp);obtain⟨g1,g2,g3⟩:=hall gss (by simp);have hl:fss.length=gss.length:=by simpa using g2.symm
  have HL:=ae hl;have HZ:=ae hz0;have HV:=Kh (eh p o fss gss);have HK:Po (∀i,i<fss.length->ag p n o v [fss.getD i [],gss.getD i []]=0):=λi hi=>Cj hR (λf hf=>by
   simp only[OY,List.not_mem_nil,or_false] at hf;rcases hf with rfl|rfl
   .exact h3 _ (iq fss i hi)
   .exact g3 _ (iq gss i (by omega)))
  have HEI:Po (∀i,i<fss.length->gU 0 p o (fss.getD i []) (gss.getD i [])=jd (eh p o fss gss) i/\jE 0 p o (fss.getD i []) (gss.getD i [])=pQ (eh p o fss gss) i):=λi hi=>by unfold jd pQ;rw[wi hl hi];exact⟨Ck,Kk⟩
  have HEA:=ae (fun(W:PJ)(hb:Io w2 W)=>Kn w.heap.size (w.heap.size+1) _ fss (jd (eh p o fss gss)) (pQ (eh p o fss gss)) W (by omega) ((HX.o.below HB2.o).below hb) (λi w' fa fc hi hb' hpf=>by
   have h:=Kl p n o v i w.heap.size (w.heap.size+1) _ (fss.getD i []) ay cy gss w' (by omega) (HK.o i hi) ((HBX.o.below hb).below hb') (af (af HCF.o hb) hb') hpf (((HY.o.below HB2.o).below hb).below hb');rw[(HEI.o i hi).1,(HEI.o i hi).2] at h;exact h))
  have hsl:=wu (p:=p) (o:=o) hl;rw[hsl] at HV;rw[hz0,<-HV.1,<-HV.2];have hf40:fss.length<=40:=h1.2;clear hR hall h1 h3 g1 g2 g3 hl hz0 HV hsl HK HEI;obtain⟨_,bx0,bx1,bx2,bx3⟩:=HBX.o;have hcf:=HCF.o;go_enter func11,ntmps11;go_wp2_with fail;try rw[<-hw2]
  refine(wL p n o v _ [fss,gss] _ (by simp) (HW2.o _)).mono ?_;rw[HZ.o];rintro e w3 ⟨rfl,hb3⟩;have HB3:=ae (show Io w2 w3 from aY.trans (hb3.mono (by simp)));clear hb3 bx0 bx1 bx2 bx3 hcf hw2;go_wp2_with fail;refine(HEA.o _ HB3.o).mono ?_;rintro e w4 ⟨u,rfl,hu,hb4⟩;have HU:=ae hu;have HB4:=ae (In HB2.o (In HB3.o hb4));obtain⟨ua,uc,rfl,_⟩:=hu;clear hb4;go_wp2;go_ret2;exact⟨_,rfl,HU.o,HB4.o⟩
 .have hz0:er p n o v [fss,gss]≠0:=by simpa using hz
  have he:je (er p n o v [fss,gss]) (eh p o fss gss)=er p n o v [fss,gss]:=by unfold je;rw[OW hz0]
  have hr:kH (er p n o v [fss,gss]) (eh p o fss gss)=[]:=by unfold kH;rw[he,OV hz0]
  rw[he,hr];clear he hr hz0;obtain⟨_,bx0,bx1,bx2,bx3⟩:=HBX.o;have hcf:=HCF.o;go_enter func11,ntmps11;go_wp2_with fail;try rw[<-hw2]
  refine(wL p n o v _ [fss,gss] _ (by simp) (HW2.o _)).mono ?_;rintro e w3 ⟨rfl,hb3⟩;have HB3:=ae (In HB2.o (show Io w2 w3 from aY.trans (hb3.mono (by simp))));clear hb3;go_wp2;go_ret2;exact⟨_,rfl,Vl.empty _,HB3.o⟩
abbrev Ld:=Option (Nat×Tm)
def Ko(o ov:Int)(st:Ld)(i:Nat):LT->Ld
 |[]=>st
 |t::_=>match st with
  |none=>some (i,t)
  |some (j,u)=>if ov=1/\0<aW o t.2 u.2 then some (i,t) else some (j,u)
def pR(o ov:Int)(fss:Lt):Nat->Ld
 |0=>none
 |k+1=>Ko o ov (pR o ov fss k) k (fss.getD k [])
theorem Kp{fa:Option Addr}{fc:Nat}{t:Tm}{ts:LT}(h:Pl w (.slice fa (t::ts).length fc) (t::ts)):∃b off ea ec,fa=some (PN b off)/\b<w.heap.size/\w.cell? (PN b off)=some (PO t.1)/\w.cell? (PN b (off+1))=some (.slice ea t.2.length ec)/\Sl w (.slice ea t.2.length ec) t.2:=by obtain⟨a,c,e,_,h1⟩:=h;obtain⟨b,off,rfl,hlt,hat⟩:=h1 (by simp);simp only[OQ,true_and] at e;obtain⟨rfl,rfl⟩:=e;obtain⟨h2,u,h3,h4⟩:=hat 0 (by simp);simp at h2 h3 h4;have h5:=h4;obtain⟨ea,ec,rfl,_⟩:=h4;exact⟨b,off,ea,ec,rfl,hlt,h2,h3,h5⟩
def oK:Ld->Int
 |none=>0
 |some (_,u)=>u.1
def jh:Ld->PI
 |none=>[]
 |some (_,u)=>u.2
structure lR(w wr:PJ)(p n o v:Int)(st:Ld):Prop where
 below:Io w wr
 box:bO wr w.heap.size p n o v
 res:wr.ownsRow w.heap.size 47 2 (PM (w.heap.size+1) 1 1) 1 [PO 0,.slice none 0 0]
 own:∃ea ec,wr.ownsRow w.heap.size 47 2 (PM (w.heap.size+1+1) 1 1) 1 [PO (oK st),.slice ea (jh st).length ec]/\Sl w (.slice ea (jh st).length ec) (jh st)
variable{st:Ld}{wr w':PJ}
theorem lR.next(h:lR w wr p n o v st)(hb:Io wr w'):lR w w' p n o v st:=by obtain⟨ea,ec,h1,h2⟩:=h.own;exact⟨In h.below hb,h.box.below hb,aF h.res hb,ea,ec,aF h1 hb,h2⟩
theorem lR.put(h:lR w wr p n o v st)(i:Nat)(t:Tm)(ea:Option Addr)(ec:Nat)(hs:Sl w (.slice ea t.2.length ec) t.2):lR w ((wr.setCell (PN (w.heap.size+1+1) 0) (PO t.1)).setCell (PN (w.heap.size+1+1) 1) (.slice ea t.2.length ec)) p n o v (some (i,t)):=by
 obtain⟨ea0,ec0,h1,_⟩:=h.own;have s1:=h1.stored 0 (PO t.1);have s2:=s1.1.stored 1 (.slice ea t.2.length ec);have hg:=cW s1.2 s2.2;have hlt:=h.box.1;refine⟨h.below.trans (cQ hg (by omega) h.below.size),?_,h.res.kept hg (Pg (by simp[Value.ownBlock])),ea,ec,?_,hs⟩
 .have far:=λo=>j7 (o:=o) hg hlt (show w.heap.size≠w.heap.size+1+1 by omega);obtain⟨_,b0,b1,b2,b3⟩:=h.box;exact⟨Oz hlt hg.size,by rw[far];exact b0,by rw[far];exact b1,by rw[far];exact b2,by rw[far];exact b3⟩
 .have:=s2.1;simpa [oK,jh] using this
theorem lR.first(w:PJ)(p n o v:Int):lR w (((w.alloc (.cells #[PO p,PO n,PO o,PO v] 23)).alloc (.cells #[PO 0,.slice none 0 0] 47)).alloc (.cells #[PO 0,.slice none 0 0] 47)) p n o v none:=by
 have h1:=p9 (w:=w.alloc (.cells #[PO p,PO n,PO o,PO v] 23)) (B:=w.heap.size) (by simp) 0 (.slice none 0 0);have h2:=p9 (w:=(w.alloc (.cells #[PO p,PO n,PO o,PO v] 23)).alloc (.cells #[PO 0,.slice none 0 0] 47)) (B:=w.heap.size) (by simp;omega) 0 (.slice none 0 0);refine⟨In cY ai,((bO.new w p n o v _).below ai).below ai,?_,none,0,?_,none,0,rfl,λh=>by simp[jh] at h⟩
 .have:=aF h1 (ai (A:=.cells #[PO 0,.slice none 0 0] 47));simpa using this
 .simpa [oK,jh] using h2
structure jI(w wr:PJ)(p n o v:Int):Prop where
 below:Io w wr
 box:bO wr w.heap.size p n o v
 res:wr.ownsRow w.heap.size 47 2 (PM (w.heap.size+1) 1 1) 1 [PO 0,.slice none 0 0]
theorem jI.next(h:jI w wr p n o v)(hb:Io wr w'):jI w w' p n o v:=
 ⟨In h.below hb,h.box.below hb,aF h.res hb⟩
theorem jI.first(w:PJ)(p n o v:Int):jI w ((w.alloc (.cells #[PO p,PO n,PO o,PO v] 23)).alloc (.cells #[PO 0,.slice none 0 0] 47)) p n o v:=by have h1:=p9 (w:=w.alloc (.cells #[PO p,PO n,PO o,PO v] 23)) (B:=w.heap.size) (by simp) 0 (.slice none 0 0);exact⟨cY,(bO.new w p n o v _).below ai,by simpa using h1⟩
theorem jI.cells(h:jI w wr p n o v):wr.cell? (PN (w.heap.size+1) 0)=some (PO 0)/\wr.cell? (PN (w.heap.size+1) 1)=some (.slice none 0 0)/\wr.frozen? (PN (w.heap.size+1) 0)=false/\wr.frozen? (PN (w.heap.size+1) 1)=false:=
 ⟨h.res.cellAt 0 (by omega),h.res.cellAt 1 (by omega),h.res.frozenAt 0,h.res.frozenAt 1⟩
theorem jI.put(h:jI w wr p n o v)(c:Int)(u:PK):Io w ((wr.setCell (PN (w.heap.size+1) 0) (PO c)).setCell (PN (w.heap.size+1) 1) u)/\((wr.setCell (PN (w.heap.size+1) 0) (PO c)).setCell (PN (w.heap.size+1) 1) u).cell? (PN (w.heap.size+1) 0)=some (PO c)/\((wr.setCell (PN (w.heap.size+1) 0) (PO c)).setCell (PN (w.heap.size+1) 1) u).cell? (PN (w.heap.size+1) 1)=some u:=by have s1:=h.res.stored 0 (PO c);have s2:=s1.1.stored 1 u;exact⟨h.below.trans (cQ (cW s1.2 s2.2) (by omega) h.below.size),s2.1.cellAt 0 (by omega),s2.1.cellAt 1 (by omega)⟩
structure lT(w0 w wr:PJ)(p n o v:Int)(st:Ld):Prop where
 below:Io w wr
 box:bO wr w.heap.size p n o v
 res:wr.ownsRow w.heap.size 47 2 (PM (w.heap.size+1) 1 1) 1 [PO 0,.slice none 0 0]
 own:∃ea ec,wr.ownsRow w.heap.size 47 2 (PM (w.heap.size+1+1) 1 1) 1 [PO (oK st),.slice ea (jh st).length ec]/\Sl w0 (.slice ea (jh st).length ec) (jh st)
variable{w0:PJ}
theorem lT.next(h:lT w0 w wr p n o v st)(hb:Io wr w'):lT w0 w w' p n o v st:=by obtain⟨ea,ec,h1,h2⟩:=h.own;exact⟨In h.below hb,h.box.below hb,aF h.res hb,ea,ec,aF h1 hb,h2⟩
theorem lT.put(h:lT w0 w wr p n o v st)(i:Nat)(t:Tm)(ea:Option Addr)(ec:Nat)(hs:Sl w0 (.slice ea t.2.length ec) t.2):lT w0 w ((wr.setCell (PN (w.heap.size+1+1) 0) (PO t.1)).setCell (PN (w.heap.size+1+1) 1) (.slice ea t.2.length ec)) p n o v (some (i,t)):=by
 obtain⟨ea0,ec0,h1,_⟩:=h.own;have s1:=h1.stored 0 (PO t.1);have s2:=s1.1.stored 1 (.slice ea t.2.length ec);have hg:=cW s1.2 s2.2;have hlt:=h.box.1;refine⟨h.below.trans (cQ hg (by omega) h.below.size),?_,h.res.kept hg (Pg (by simp[Value.ownBlock])),ea,ec,?_,hs⟩
 .have far:=λo=>j7 (o:=o) hg hlt (show w.heap.size≠w.heap.size+1+1 by omega);obtain⟨_,b0,b1,b2,b3⟩:=h.box;exact⟨Oz hlt hg.size,by rw[far];exact b0,by rw[far];exact b1,by rw[far];exact b2,by rw[far];exact b3⟩
 .have:=s2.1;simpa [oK,jh] using this
theorem lT.first(w0 w:PJ)(p n o v:Int):lT w0 w (((w.alloc (.cells #[PO p,PO n,PO o,PO v] 23)).alloc (.cells #[PO 0,.slice none 0 0] 47)).alloc (.cells #[PO 0,.slice none 0 0] 47)) p n o v none:=by
 have h1:=p9 (w:=w.alloc (.cells #[PO p,PO n,PO o,PO v] 23)) (B:=w.heap.size) (by simp) 0 (.slice none 0 0);have h2:=p9 (w:=(w.alloc (.cells #[PO p,PO n,PO o,PO v] 23)).alloc (.cells #[PO 0,.slice none 0 0] 47)) (B:=w.heap.size) (by simp;omega) 0 (.slice none 0 0);refine⟨In cY ai,((bO.new w p n o v _).below ai).below ai,?_,none,0,?_,none,0,rfl,λh=>by simp[jh] at h⟩
 .have:=aF h1 (ai (A:=.cells #[PO 0,.slice none 0 0] 47));simpa using this
 .simpa [oK,jh] using h2
theorem AW(w:PJ)(p n o v:Int)(T:TypeId):(w.alloc (.cells #[PO p,PO n,PO o,PO v] T)).cell? (PN w.heap.size 0)=some (PO p)/\(w.alloc (.cells #[PO p,PO n,PO o,PO v] T)).cell? (PN w.heap.size 1)=some (PO n)/\(w.alloc (.cells #[PO p,PO n,PO o,PO v] T)).cell? (PN w.heap.size 2)=some (PO o)/\(w.alloc (.cells #[PO p,PO n,PO o,PO v] T)).cell? (PN w.heap.size 3)=some (PO v):=by simp[go_sem]
end Go.Proofs.YtjkalahhpobefaaGreat
