/- Print: a term. -/
import Derived.Test.YtglijodcbdcngaaGreatPM
import Derived.Lib.ItoaNum
import Derived.Lib.Join
import Derived.Deep.CutBlock
import Derived.Deep.DeepCutAuto
import Derived.Test.YtglijodcbdcngaaGreatPI
import Derived.Test.YtglijodcbdcngaaGreatH
import Derived.Test.YtglijodcbdcngaaGreatWE
import Derived.Test.YtglijodcbdcngaaGreatTL
import Derived.Test.YtglijodcbdcngaaGreatWB
import Derived.BigQuiet
set_option maxHeartbeats 2000000
set_option maxRecDepth 100000
namespace Go.Proofs.YtglijodcbdcngaaGreat
set_option linter.unusedSimpArgs false
set_option linter.unusedVariables false
open Go.Proofs.Tryz Go.RowKit
theorem xV(p n o v:Int)(chk:List (List Tm)->Int)(HC:rU p n o v chk)(x:Value)(fs:List Tm)(w:World)(pf:Pl w x fs):Calls prog 93 #[az p n o v,x] w λe w'=>e=.returned (.int .i64 (chk [fs]))/\Below w.heap.size w w':=by have HP:=aa pf;have HT:=aa HC;obtain⟨a,c,rfl,_,_⟩:=pf;clear HC;have HB2:Ic (∀A B,Below w.heap.size w ((w.alloc A).alloc B)):=λA B=>cW;go_enter func93,ntmps93;go_wp2_with fail;refine(HT.o.1 [fs] _ _ (by simp) (E3 (HP.o.below (HB2.o _ _)) (by simp) (by simp[go_sem]))).mono ?_;rintro e w1 ⟨rfl,hb1⟩;have HB1:=aa ((HB2.o _ _).trans (hb1.mono (HB2.o _ _).size));clear hb1;go_wp2;go_ret;exact⟨rfl,HB1.o⟩
theorem ve(c:Int)(a:Option Addr)(n m:Nat)(w:World):Calls prog 33 #[.int .i64 c,.slice a n m] w λe w'=>e=.returned (.agg #[.int .i64 c,.slice a n m])/\Below w.heap.size w w':=by go_enter func33,ntmps33;go_wp2;exact Hn (v:=.agg #[.int .i64 c,.slice a n m]) (by simp[results,Tryz.results33,go_sem]) rfl ⟨rfl,(Hf _ _).alloc (He _) _⟩
theorem E7{p n o v:Int}{f:List Tm}(hR:bo p n o v=0):ai p n o v [f]=cz p n o f:=by
 have e:fA p n o v f=cz p n o f:=by unfold fA;rw[if_neg (by simpa using hR)]
 have hu:ai p n o v [f]=if fA p n o v f≠0 then fA p n o v f else 0:=rfl
 rw[hu,e];by_cases h:cz p n o f=0
 ·rw[if_neg (by simpa using h),h]
 ·rw[if_pos h]
theorem rX(p n o v:Int)(lv:Value)(fss:List (List Tm))(w:World)(hR:bo p n o v=0)(hm:fss.length<=1200000000000)(hs:Vl w lv fss):Calls prog 52 #[az p n o v,lv] w λe w'=>e=.returned (.int .i64 (dB p n o fss))/\Below w.heap.size w w':=by
 have HS:=aa hs;have HR:=aa hR;have HT:=aa (xW p n o v);obtain⟨la,lc,rfl,_⟩:=hs;obtain⟨w1,hw1⟩:∃w1,w1=w.alloc (.cells #[.int .i64 p,.int .i64 n,.int .i64 o,.int .i64 v] 23):=⟨_,rfl⟩;have hbx:aX w1 w.heap.size p n o v:=by rw[hw1];exact aX.new w p n o v _
 have hbw:Below w.heap.size w w1:=by rw[hw1];exact bp
 have HBX:=aa hbx;have HBW:=aa hbw;clear hR hbx hbw;go_enter func52,ntmps52;go_wp2_with fail;rw[<-hw1];clear hw1;go_loopw [10] (λi wr=>∃k:Nat,k<=fss.length/\i=.int .i64 k/\dB p n o fss=dB p n o (fss.drop k)/\Below w1.heap.size w1 wr) (λi _=>fss.length-(intOf i).toNat);case atStart=>exact⟨0,Hl _,rfl,rfl,Hf _ _⟩
 case round=>
  obtain⟨k,hk,rfl,her,hbr⟩:=hrel;have HBR:=aa hbr;have HER0:=aa her;clear hbr her;by_cases hk2:k<fss.length
  ·have HER:=aa (HER0.o.trans (xX p n o fss k hk2));have HDN:=aa (HBW.o.trans (HBR.o.mono HBW.o.size));obtain⟨b,off,fa,fc,rfl,hlt,c0,hpf⟩:=ez HS.o k hk2;generalize fss.getD k []=f at c0 hpf HER;have HPF:=aa (hpf.below HDN.o);have d0:=ae c0 HDN.o;have HC1:=aa (E7 (f:=f) HR.o);obtain⟨_,bx0,bx1,bx2,bx3⟩:=HBX.o.below HBR.o;clear c0 hpf;cases hz:(cz p n o f !=0)
   ·have HZ:Ic (cz p n o f=0):=by simpa [Ic] using hz
    go_wp2_with (go_at_call 93;refine(xV p n o v _ HT.o _ f _ HPF.o).mono ?_;rw[HC1.o];rintro e w2 ⟨rfl,hb2⟩;have HB2:=aa (HBR.o.trans (hb2.mono HBR.o.size));clear hb2);go_roundw;case rel=>exact⟨k+1,by omega,by go_num,by rw[HER.o,if_pos HZ.o],HB2.o⟩
    case measure=>simp[intOf];omega
   ·have HZ:Ic (cz p n o f≠0):=by simpa [Ic] using hz
    go_wp2_with (go_at_call 93;refine(xV p n o v _ HT.o _ f _ HPF.o).mono ?_;rw[HC1.o];rintro e w2 ⟨rfl,hb2⟩;have HB2:=aa (HBR.o.trans (hb2.mono HBR.o.size));clear hb2);go_ret;exact⟨cm (by rw[HER.o,if_neg HZ.o]),HBW.o.trans (HB2.o.mono HBW.o.size)⟩
  ·go_wp2;go_ret;exact⟨cm (by rw[HER0.o,List.drop_eq_nil_of_le (by omega)];rfl),HBW.o.trans (HBR.o.mono HBW.o.size)⟩
theorem rY(m:Int)(w:World):Calls prog 51 #[.int .i64 m] w λe w'=>e=.returned (.bool (bW m 1 40))/\w'=w:=by
 have HE:Ic (bW m 1 40=decide (1<=m/\m<=40)):=by show _=_;simp[bW]
 rw[HE.o];by_cases h1:1<=m
 ·by_cases h2:m<=40
  ·have HD:Ic (decide (1<=m/\m<=40)=true):=Hi ⟨h1,h2⟩;rw[HD.o];go_enter func51,ntmps51;go_wp2;go_ret;exact⟨j9 (by simp[h2]),rfl⟩
  ·have HD:Ic (decide (1<=m/\m<=40)=false):=Hh (by omega);rw[HD.o];go_enter func51,ntmps51;go_wp2;go_ret;exact⟨j9 (by simp[h2]),rfl⟩
 ·have HD:Ic (decide (1<=m/\m<=40)=false):=Hh (by omega);rw[HD.o];go_enter func51,ntmps51;go_wp2;go_ret;exact⟨rfl,rfl⟩
theorem jh(p n o v rank:Int)(lv:Value)(vss:List (List (List Tm)))(w:World)(hs:Wl w lv vss):Calls prog 19 #[az p n o v,.int .i64 rank,lv] w λe w'=>e=.returned (.int .i64 (bQ p n o v rank vss))/\Below w.heap.size w w':=by
 have HS:=aa hs;obtain⟨la,lc,rfl,_⟩:=hs;cases hR:(bo p n o v !=0)
 ·have hR0:bo p n o v=0:=by simpa using hR
  have HR:=aa hR0;have HE:Ic (bQ p n o v rank vss=gf p n o rank vss):=by show _=_;unfold bQ;rw[if_neg (by simpa using hR0)]
  clear hR0;cases hbt:bW rank 1 40
  ·have HE2:Ic (bQ p n o v rank vss=3):=by show _=_;rw[HE.o];unfold gf;rw[if_pos hbt]
   rw[HE2.o];go_enter func19,ntmps19;go_wp2_with (first|(go_at_call 50;refine(i7 _ _ _ _ _).mono ?_;rintro e w1 ⟨rfl,hb1⟩;have HB1:=aa (show Below w.heap.size w w1 from bp.trans (hb1.mono (by simp)));clear hb1)|(go_at_call 51;refine(rY _ _).mono ?_;rw[hbt];rintro e w' ⟨rfl,rfl⟩));go_ret;exact⟨rfl,HB1.o⟩
  ·by_cases hlen:60<vss.length
   ·have HE2:Ic (bQ p n o v rank vss=2):=by show _=_;rw[HE.o];unfold gf;rw[if_neg (by rw[hbt];simp),if_pos hlen]
    rw[HE2.o];go_enter func19,ntmps19;go_wp2_with (first|(go_at_call 50;refine(i7 _ _ _ _ _).mono ?_;rintro e w1 ⟨rfl,hb1⟩;have HB1:=aa (show Below w.heap.size w w1 from bp.trans (hb1.mono (by simp)));clear hb1)|(go_at_call 51;refine(rY _ _).mono ?_;rw[hbt];rintro e w' ⟨rfl,rfl⟩));go_ret;exact⟨rfl,HB1.o⟩
   ·have HE2:Ic (bQ p n o v rank vss=gH (eM p n o rank) vss):=by show _=_;rw[HE.o];unfold gf;rw[if_neg (by rw[hbt];simp),if_neg hlen]
    rw[HE2.o];have HRK:Ic (1<=rank/\rank<=40):=by simpa [bW,Ic] using hbt
    clear HE HE2;go_enter func19,ntmps19;go_wp2_with fail;refine(i7 _ _ _ _ _).mono ?_;rintro e w1 ⟨rfl,hb1⟩;have HB1:=aa (show Below w.heap.size w w1 from bp.trans (hb1.mono (by simp)));have HBX:=aa ((aX.new w p n o v 23).below hb1);clear hb1;go_wp2_with fail;refine(rY _ _).mono ?_;rw[hbt];rintro e w2 ⟨rfl,rfl⟩;have HS1:=aa (HS.o.below HB1.o);go_wp2_with fail;obtain⟨wo,hwo⟩:∃wo,wo=w2:=⟨_,rfl⟩;subst hwo;clear hbt;go_loopw [24] (λi wr=>∃k:Nat,k<=vss.length/\i=.int .i64 k/\gH (eM p n o rank) vss=gH (eM p n o rank) (vss.drop k)/\Below wo.heap.size wo wr) (λi _=>vss.length-(intOf i).toNat);case atStart=>exact⟨0,Hl _,rfl,rfl,Hf _ _⟩
    case round=>
     obtain⟨k,hk,rfl,her,hbr⟩:=hrel;have HBR:=aa hbr;have HER0:=aa her;clear hbr her;by_cases hk2:k<vss.length
     ·have HER:=aa (HER0.o.trans (xY (eM p n o rank) vss k hk2));obtain⟨b,off,va,vc,rfl,hlt,c0,hvl⟩:=jd HS1.o k hk2;generalize vss.getD k []=fss at c0 hvl HER;have HVL:=aa (hvl.below HBR.o);have d0:=ae c0 HBR.o;obtain⟨_,bx0,bx1,bx2,bx3⟩:=HBX.o.below HBR.o;clear c0 hvl;cases hln:((fss.length:Int) !=rank)
      ·have hrk:(fss.length:Int)=rank:=by simpa using hln
       subst hrk;have HEV:Ic (eM p n o (fss.length:Int) fss=dB p n o fss):=by show _=_;unfold eM;rw[if_neg (by simp)]
       have hf40:fss.length<=40:=by have:=HRK.o;omega
       have HVP:=aa (rX p n o v _ fss wr HR.o (by omega) HVL.o);clear hln;cases hz:(dB p n o fss !=0)
       ·have HZ:Ic (dB p n o fss=0):=by simpa [Ic] using hz
        go_wp2_with (go_at_call 52;refine HVP.o.mono ?_;rintro e w4 ⟨rfl,hb4⟩;have HB4:=aa (HBR.o.trans (hb4.mono HBR.o.size));clear hb4);go_roundw;case rel=>exact⟨k+1,by omega,by go_num,by rw[HER.o,HEV.o,if_pos HZ.o],HB4.o⟩
        case measure=>simp[intOf];omega
       ·have HZ:Ic (dB p n o fss≠0):=by simpa [Ic] using hz
        go_wp2_with (go_at_call 52;refine HVP.o.mono ?_;rintro e w4 ⟨rfl,hb4⟩;have HB4:=aa (HBR.o.trans (hb4.mono HBR.o.size));clear hb4);go_ret;exact⟨cm (by rw[HER.o,HEV.o,if_neg HZ.o]),HB1.o.trans (HB4.o.mono HB1.o.size)⟩
      ·have HEV:Ic (eM p n o rank fss=1):=by show _=_;unfold eM;rw[if_pos (by simpa using hln)]
       go_wp2_with fail;go_ret;exact⟨cm (by rw[HER.o,HEV.o];simp),HB1.o.trans (HBR.o.mono HB1.o.size)⟩
     ·go_wp2;go_ret;exact⟨cm (by rw[HER0.o,List.drop_eq_nil_of_le (by omega)];rfl),HB1.o.trans (HBR.o.mono HB1.o.size)⟩
 ·have HE:Ic (bQ p n o v rank vss=bo p n o v):=by show _=_;unfold bQ;rw[if_pos (by simpa using hR)]
  rw[HE.o];go_enter func19,ntmps19;go_wp2_with (go_at_call 50;refine(i7 _ _ _ _ _).mono ?_;rintro e w1 ⟨rfl,hb1⟩;have HB1:=aa (show Below w.heap.size w w1 from bp.trans (hb1.mono (by simp)));clear hb1);go_ret;exact⟨rfl,HB1.o⟩
theorem Cf{w:World}{x:Value}{fss:List (List Tm)}{b c:Nat}(hf:Vl w x fss)(hlt:b<w.heap.size)(c0:w.cell? ⟨b,0,none⟩=some x):Wl w (.slice (some ⟨b,0,none⟩) 1 c) [fss]:=by
 refine⟨_,c,rfl,λ_=>⟨b,0,rfl,hlt,λi hi=>?_⟩⟩;simp only[List.length_cons,List.length_nil] at hi;rcases i with _|i
 ·exact⟨x,c0,hf⟩
 ·omega
theorem E8{p n o v:Int}{fss:List (List Tm)}(hR:bo p n o v=0)(h:∀f∈fss,cz p n o f=0):ai p n o v fss=0:=rZ (λf hf=>ph.2 ⟨hR,h f hf⟩)
abbrev Ld:=Option (Nat×Tm)
def dG(o ov:Int)(st:Ld)(i:Nat):List Tm->Ld
 |[]=>st
 |t::_=>match st with
  |none=>some (i,t)
  |some (j,u)=>if ov=1/\0<aF o t.2 u.2 then some (i,t) else some (j,u)
def aq(o ov:Int)(fss:List (List Tm)):Nat->Ld
 |0=>none
 |k+1=>dG o ov (aq o ov fss k) k (fss.getD k [])
theorem dJ{o ov:Int}{fss:List (List Tm)}:∀{k:Nat}{j:Nat}{u:Tm},aq o ov fss k=some (j,u)->j<k/\∃us,fss.getD j []=u::us
 |0,j,u,h=>by simp[aq] at h
 |k+1,j,u,h=>by
  simp only[aq] at h;cases hf:fss.getD k [] with
  |nil=>rw[hf] at h;simp only[dG] at h;obtain⟨h1,h2⟩:=dJ h;exact⟨by omega,h2⟩
  |cons t ts=>
   rw[hf] at h;cases hs:aq o ov fss k with
   |none=>rw[hs] at h;simp only[dG,H6,Prod.mk.injEq] at h;obtain⟨rfl,rfl⟩:=h;exact⟨by omega,ts,hf⟩
   |some q=>
    obtain⟨j',u'⟩:=q;rw[hs] at h;simp only[dG] at h;split at h
    ·simp only[H6,Prod.mk.injEq] at h;obtain⟨rfl,rfl⟩:=h;exact⟨by omega,ts,hf⟩
    ·simp only[H6,Prod.mk.injEq] at h;obtain⟨rfl,rfl⟩:=h;obtain⟨h1,h2⟩:=dJ hs;exact⟨by omega,h2⟩
def dV:Ld->Int
 |none=>-1
 |some (j,_)=>j
theorem jO(j:Nat)(u:Tm):dV (some (j,u))=(j:Int):=rfl
theorem Cg{w:World}{fa:Option Addr}{fc:Nat}{t:Tm}{ts:List Tm}(h:Pl w (.slice fa (t::ts).length fc) (t::ts)):∃b off ea ec,fa=some ⟨b,off,none⟩/\b<w.heap.size/\w.cell? ⟨b,off,none⟩=some (.int .i64 t.1)/\w.cell? ⟨b,off+1,none⟩=some (.slice ea t.2.length ec)/\Sl w (.slice ea t.2.length ec) t.2:=by obtain⟨a,c,e,_,h1⟩:=h;obtain⟨b,off,rfl,hlt,hat⟩:=h1 (by simp);simp only[H7,true_and] at e;obtain⟨rfl,rfl⟩:=e;obtain⟨h2,u,h3,h4⟩:=hat 0 (by simp);simp at h2 h3 h4;have h5:=h4;obtain⟨ea,ec,rfl,_⟩:=h4;exact⟨b,off,ea,ec,rfl,hlt,h2,h3,h5⟩
def gI(o ov i:Int)(xs:List Int)(k:Int)(ys:List Int):Bool:=if ov=2/\i≠k then decide (i<k) else if fi xs ys then decide (i<k) else cL o xs ys
theorem pi(p n o v i k:Int)(x y:Value)(xs ys:List Int)(w:World)(ho:o=1\/o=2)(h0:0<xs.length)(hm:xs.length<=3)(hxy:xs.length=ys.length)(hbx:∀x∈xs,0<=x/\x<=40000)(hby:∀x∈ys,0<=x/\x<=40000)(hs:Sl w x xs)(hs2:Sl w y ys):Calls prog 69 #[az p n o v,.int .i64 i,x,.int .i64 k,y] w λe w'=>e=.returned (.bool (gI o v i xs k ys))/\Below w.heap.size w w':=by
 have HS:=aa hs;have HS2:=aa hs2;have HO:=aa ho;have HXY:=aa hxy;have HBB:=aa (Hg hbx hby);obtain⟨xa,xc,rfl,_⟩:=hs;obtain⟨ya,yc,rfl,_⟩:=hs2;clear ho hxy hbx hby;have HBN:Ic (∀A,Below w.heap.size w (w.alloc A)):=λA=>bp;cases hc:((v==2)&&(i !=k))
 ·have HE:Ic (gI o v i xs k ys=if fi xs ys then decide (i<k) else cL o xs ys):=by
   show _=_;unfold gI;rw[if_neg];intro h;have:((v==2)&&(i !=k))=true:=by simp[h.1,h.2]
   rw[hc] at this;simp at this
  rw[HE.o];have HTAIL:Ic (∀(b:Bool),fi xs ys=b->True):=λ_ _=>trivial;cases hsm:fi xs ys
  ·have HE2:Ic ((if false=true then decide (i<k) else cL o xs ys)=cL o xs ys):=by show _=_;simp
   rw[HE2.o];cases hv:(v==2)
   ·go_enter func69,ntmps69;go_wp2_with (first|(go_at_call 47;refine(mF _ _ xs ys _ hm (HS.o.below (HBN.o _)) (HS2.o.below (HBN.o _))).mono ?_;rw[hsm];rintro e w1 ⟨rfl,hd1⟩;have HB1:=aa (jJ (HBN.o _) hd1);have HBX:=aa ((aX.new w p n o v 23).below (jJ (Hf _ _) hd1));obtain⟨_,bx0,bx1,bx2,bx3⟩:=HBX.o;clear hd1)|(go_at_call 121;refine(mY p n o v _ _ xs ys _ HO.o h0 hm HXY.o HBB.o.1 HBB.o.2 (HS.o.below HB1.o) (HS2.o.below HB1.o)).mono ?_;rintro e w2 ⟨rfl,hb2⟩;have HB2:=aa (HB1.o.trans (hb2.mono HB1.o.size));clear hb2));go_ret;exact⟨rfl,HB2.o⟩
   ·have hik:(i !=k)=false:=by rw[hv] at hc;simpa using hc
    go_enter func69,ntmps69;go_wp2_with (first|(go_at_call 47;refine(mF _ _ xs ys _ hm (HS.o.below (HBN.o _)) (HS2.o.below (HBN.o _))).mono ?_;rw[hsm];rintro e w1 ⟨rfl,hd1⟩;have HB1:=aa (jJ (HBN.o _) hd1);have HBX:=aa ((aX.new w p n o v 23).below (jJ (Hf _ _) hd1));obtain⟨_,bx0,bx1,bx2,bx3⟩:=HBX.o;clear hd1)|(go_at_call 121;refine(mY p n o v _ _ xs ys _ HO.o h0 hm HXY.o HBB.o.1 HBB.o.2 (HS.o.below HB1.o) (HS2.o.below HB1.o)).mono ?_;rintro e w2 ⟨rfl,hb2⟩;have HB2:=aa (HB1.o.trans (hb2.mono HB1.o.size));clear hb2));go_ret;exact⟨rfl,HB2.o⟩
  ·have HE2:Ic ((if true=true then decide (i<k) else cL o xs ys)=decide (i<k)):=by show _=_;simp
   rw[HE2.o];cases hv:(v==2)
   ·go_enter func69,ntmps69;go_wp2_with (go_at_call 47;refine(mF _ _ xs ys _ hm (HS.o.below (HBN.o _)) (HS2.o.below (HBN.o _))).mono ?_;rw[hsm];rintro e w1 ⟨rfl,hd1⟩;have HB1:=aa (jJ (HBN.o _) hd1);clear hd1);go_ret;exact⟨rfl,HB1.o⟩
   ·have hik:(i !=k)=false:=by rw[hv] at hc;simpa using hc
    go_enter func69,ntmps69;go_wp2_with (go_at_call 47;refine(mF _ _ xs ys _ hm (HS.o.below (HBN.o _)) (HS2.o.below (HBN.o _))).mono ?_;rw[hsm];rintro e w1 ⟨rfl,hd1⟩;have HB1:=aa (jJ (HBN.o _) hd1);clear hd1);go_ret;exact⟨rfl,HB1.o⟩
 ·have hv:(v==2)=true:=by cases h:(v==2)<;>simp_all
  have hik:(i !=k)=true:=by cases h:(i !=k)<;>simp_all
  have HE:Ic (gI o v i xs k ys=decide (i<k)):=by show _=_;unfold gI;rw[if_pos ⟨by simpa using hv,by simpa using hik⟩]
  rw[HE.o];clear hc;go_enter func69,ntmps69;go_wp2_with fail;go_ret;exact⟨rfl,HBN.o _⟩
end Go.Proofs.YtglijodcbdcngaaGreat
