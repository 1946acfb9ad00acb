/- CheckList, CheckVectors, CheckAlike of the reference. -/
import Derived.Test.YtglijodcbdcngaaGreatWB
import Derived.Test.YtglijodcbdcngaaGreatPM
import Derived.Laws.EntriesVeiled
set_option maxHeartbeats 2000000
set_option maxRecDepth 100000
namespace Go.Proofs.YtglijodcbdcngaaGreat
set_option linter.unusedSimpArgs false
set_option linter.unusedVariables false
open Go.Proofs.Tryz Go.RowKit
def pp(w:World)(b off:Nat)(vss:List (List (List Tm))):Prop:=
 ∀i,i<vss.length->∃v,w.cell? ⟨b,off+i,none⟩=some v/\Vl w v (vss.getD i [])
theorem pp.below{w w':World}{b off:Nat}{vss:List (List (List Tm))}(h:pp w b off vss)(hlt:b<w.heap.size)(hb:Below w.heap.size w w'):pp w' b off vss:=by intro i hi;obtain⟨v,hc,hs⟩:=h i hi;exact⟨v,by rw[hb.cell (p:=⟨b,off+i,none⟩) hlt];exact hc,hs.below hb⟩
def Wl(w:World)(v:Value)(vss:List (List (List Tm))):Prop:=
 ∃a cap,v=.slice a vss.length cap/\(0<vss.length->∃b off,a=some ⟨b,off,none⟩/\b<w.heap.size/\pp w b off vss)
theorem Wl.below{w w':World}{v:Value}{vss:List (List (List Tm))}(h:Wl w v vss)(hb:Below w.heap.size w w'):Wl w' v vss:=by obtain⟨a,cap,rfl,h⟩:=h;refine⟨a,cap,rfl,λhp=>?_⟩;obtain⟨b,off,rfl,hlt,hc⟩:=h hp;exact⟨b,off,rfl,Hj hlt hb.size,hc.below hlt hb⟩
theorem jd{w:World}{a:Option Addr}{c:Nat}{vss:List (List (List Tm))}(h:Wl w (.slice a vss.length c) vss)(k:Nat)(hk:k<vss.length):∃b off va vc,a=some ⟨b,off,none⟩/\b<w.heap.size/\w.cell? ⟨b,off+k,none⟩=some (.slice va (vss.getD k []).length vc)/\Vl w (.slice va (vss.getD k []).length vc) (vss.getD k []):=by obtain⟨a2,c2,e,h1⟩:=h;obtain⟨b,off,rfl,hlt,hat⟩:=h1 (by omega);simp only[H7,true_and] at e;obtain⟨rfl,rfl⟩:=e;obtain⟨v,hc,hp⟩:=hat k hk;have hp2:=hp;obtain⟨fa,fc,rfl,_⟩:=hp;exact⟨b,off,fa,fc,rfl,hlt,hc,hp2⟩
def gH{α:Type}(F:List α->Int):List (List α)->Int
 |[]=>0
 |a::r=>if F a=0 then gH F r else F a
theorem xY{α:Type}(F:List α->Int)(l:List (List α))(k:Nat)(h:k<l.length):gH F (l.drop k)=if F (l.getD k [])=0 then gH F (l.drop (k+1)) else F (l.getD k []):=by rw[List.drop_eq_getElem_cons h];simp[gH,Hs,h]
theorem yI{α:Type}{F:List α->Int}:∀{l:List (List α)},gH F l=0->∀a∈l,F a=0
 |[],_,a,ha=>by simp at ha
 |b::r,h,a,ha=>by
  unfold gH at h;by_cases hb:F b=0
  ·rw[if_pos hb] at h;rcases List.mem_cons.1 ha with rfl|ha
   ·exact hb
   ·exact yI h a ha
  ·rw[if_neg hb] at h;exact absurd h hb
def eM(p n o rank:Int)(fss:List (List Tm)):Int:=if (fss.length:Int)≠rank then 1 else dB p n o fss
def gf(p n o rank:Int)(vss:List (List (List Tm))):Int:=if bW rank 1 40=false then 3 else if 60<vss.length then 2 else gH (eM p n o rank) vss
def bQ(p n o v rank:Int)(vss:List (List (List Tm))):Int:=if bo p n o v≠0 then bo p n o v else gf p n o rank vss
theorem FV(p n o v rank:Int)(lv:Value)(vss:List (List (List Tm)))(w:World)(hR:bo p n o v=0)(hs:Wl w lv vss):Calls prog 25 #[az p n o v,.int .i64 rank,lv] w λe w'=>e=.returned (.int .i64 (gf p n o rank vss))/\Below w.heap.size w w':=by
 have HS:=aa hs;obtain⟨la,lc,rfl,_⟩:=hs;obtain⟨hpr,hn1,hn2,ho,_⟩:=kX hR;have HP:=aa (dU hpr);have HN:=aa (Hg hn1 hn2);have HO:=aa ho;obtain⟨w1,hw1⟩:∃w1,w1=w.alloc (.cells #[.int .i64 p,.int .i64 n,.int .i64 o,.int .i64 v] 23):=⟨_,rfl⟩;have hbx:aX w1 w.heap.size p n o v:=by rw[hw1];exact aX.new w p n o v _
 have hbw:Below w.heap.size w w1:=by rw[hw1];exact bp
 have HBX:=aa hbx;have HBW:=aa hbw;clear hR hpr ho hbx hbw;cases hbt:bW rank 1 40
 ·have HE:Ic (gf p n o rank vss=3):=by show _=_;unfold gf;rw[if_pos hbt]
  rw[HE.o];go_enter func25,ntmps25;go_wp2_with (go_at_call 41;refine(fd _ _ _ _).mono ?_;rw[hbt];rintro e w' ⟨rfl,rfl⟩);go_ret;rw[<-hw1];exact⟨rfl,HBW.o⟩
 ·by_cases hlen:60<vss.length
  ·have HE:Ic (gf p n o rank vss=2):=by show _=_;unfold gf;rw[if_neg (by rw[hbt];simp),if_pos hlen]
   rw[HE.o];go_enter func25,ntmps25;go_wp2_with (go_at_call 41;refine(fd _ _ _ _).mono ?_;rw[hbt];rintro e w' ⟨rfl,rfl⟩);go_ret;rw[<-hw1];exact⟨rfl,HBW.o⟩
  ·have HE:Ic (gf p n o rank vss=gH (eM p n o rank) vss):=by show _=_;unfold gf;rw[if_neg (by rw[hbt];simp),if_neg hlen]
   rw[HE.o];have HRK:Ic (1<=rank/\rank<=40):=by simpa [bW,Ic] using hbt
   go_enter func25,ntmps25;go_wp2_with (go_at_call 41;refine(fd _ _ _ _).mono ?_;rw[hbt];rintro e w' ⟨rfl,rfl⟩);rw[<-hw1];clear hw1 hbt;go_loopw [7] (λi wr=>∃k:Nat,k<=vss.length/\i=.int .i64 k/\gH (eM p n o rank) vss=gH (eM p n o rank) (vss.drop k)/\Below w1.heap.size w1 wr) (λi _=>vss.length-(intOf i).toNat);case atStart=>exact⟨0,Hl _,rfl,rfl,Hf _ _⟩
   case round=>
    obtain⟨k,hk,rfl,her,hbr⟩:=hrel;have HBR:=aa hbr;have HER0:=aa her;clear hbr her;by_cases hk2:k<vss.length
    ·have HER:=aa (HER0.o.trans (xY (eM p n o rank) vss k hk2));obtain⟨b,off,va,vc,rfl,hlt,c0,hvl⟩:=jd HS.o k hk2;have HDN:=aa (HBW.o.trans (HBR.o.mono HBW.o.size));generalize vss.getD k []=fss at c0 hvl HER;have HVL:=aa hvl;have d0:=ae c0 HDN.o;clear hvl;cases hln:((fss.length:Int) !=rank)
     ·have hrk:(fss.length:Int)=rank:=by simpa using hln
      subst hrk;have HEV:Ic (eM p n o (fss.length:Int) fss=dB p n o fss):=by show _=_;unfold eM;rw[if_neg (by simp)]
      have hf40:fss.length<=40:=by have:=HRK.o;omega
      clear hln;go_wp2_with fail;go_loopw [8] (λi wm=>∃j:Nat,j<=fss.length/\i=.int .i64 j/\dB p n o fss=dB p n o (fss.drop j)/\Below w1.heap.size w1 wm) (λi _=>fss.length-(intOf i).toNat);case atStart=>exact⟨0,Hl _,rfl,rfl,HBR.o⟩
      case round=>
       clear d0;obtain⟨j,hj,rfl,hej,hbm⟩:=hrel;have HBM:=aa hbm;have HEJ:=aa hej;clear hbm hej;by_cases hj2:j<fss.length
       ·have HFJ:=aa (HEJ.o.trans (xX p n o fss j hj2));obtain⟨b2,off2,fa,fc,rfl,hlt2,e0,hpf⟩:=ez HVL.o j hj2;generalize fss.getD j []=f at e0 hpf HFJ;have HPF:=aa (hpf.below HBW.o);obtain⟨_,bx0,bx1,bx2,bx3⟩:=HBX.o;have KEEP:Ic (∀W,Below w1.heap.size w1 W->(Ic (Below w1.heap.size w1 W)/\W.cell? ⟨w.heap.size,0,none⟩=some (.int .i64 p)/\W.cell? ⟨w.heap.size,1,none⟩=some (.int .i64 n)/\W.cell? ⟨w.heap.size,2,none⟩=some (.int .i64 o)/\W.cell? ⟨w.heap.size,3,none⟩=some (.int .i64 v)/\W.cell? ⟨b,off+k,none⟩=some (.slice (some ⟨b2,off2,none⟩) fss.length vc)/\W.cell? ⟨b2,off2+j,none⟩=some (.slice fa f.length fc))):=
         λW hb=>⟨hb,ae bx0 hb,ae bx1 hb,ae bx2 hb,ae bx3 hb,ae (ae c0 HBW.o) hb,ae (ae e0 HBW.o) hb⟩
        have HB0:Ic (Below w1.heap.size w1 wr.drew):=HBM.o.drew;clear bx0 bx1 bx2 bx3 e0 hpf;go_wp2_with fail;go_region_held (λW=>Ic (Below w1.heap.size w1 W)/\W.cell? ⟨w.heap.size,0,none⟩=some (.int .i64 p)/\W.cell? ⟨w.heap.size,1,none⟩=some (.int .i64 n)/\W.cell? ⟨w.heap.size,2,none⟩=some (.int .i64 o)/\W.cell? ⟨w.heap.size,3,none⟩=some (.int .i64 v)/\W.cell? ⟨b,off+k,none⟩=some (.slice (some ⟨b2,off2,none⟩) fss.length vc)/\W.cell? ⟨b2,off2+j,none⟩=some (.slice fa f.length fc))
         (first|exact KEEP.o _ HB0.o|exact KEEP.o _ (HB0.o.trans (hb9.mono HB0.o.size)))
         (first|(go_at_call 68;refine(FA p n o v _ f _ HP.o HN.o HO.o ?_).mono ?_;exact HPF.o.below HB0.o;rintro e w9 ⟨rfl,hb9⟩))
        have HB9:=aa (show Below w1.heap.size w1 w9 from HB0.o.trans (hb9.mono HB0.o.size));clear hb9;cases hz:(cz p n o f !=0)
        ·have HZ:Ic (cz p n o f=0):=by simpa [Ic] using hz
         go_wp2_with fail;go_roundw;case rel=>exact⟨j+1,by omega,by go_num,by rw[HFJ.o,if_pos HZ.o],HB9.o⟩
         case measure=>simp[intOf];omega
        ·have HZ:Ic (cz p n o f≠0):=by simpa [Ic] using hz
         go_wp2_with fail;go_ret;exact⟨cm (by
          have h:dB p n o fss=cz p n o f:=by rw[HFJ.o,if_neg HZ.o]
          rw[HER.o,HEV.o,h,if_neg HZ.o]),HBW.o.trans (HB9.o.mono HBW.o.size)⟩
       ·have hz:dB p n o fss=0:=by rw[HEJ.o,List.drop_eq_nil_of_le (by omega)];rfl
        have HZ:=aa hz;clear hz;go_wp2_with fail;go_roundw;case rel=>exact⟨k+1,by omega,by go_num,by rw[HER.o,HEV.o,if_pos HZ.o],HBM.o⟩
        case measure=>simp[intOf];omega
     ·have HEV:Ic (eM p n o rank fss=1):=by show _=_;unfold eM;rw[if_pos (by simpa using hln)]
      go_wp2_with fail;go_ret;exact⟨cm (by rw[HER.o,HEV.o];simp),HBW.o.trans (HBR.o.mono HBW.o.size)⟩
    ·go_wp2;go_ret;exact⟨cm (by rw[HER0.o,List.drop_eq_nil_of_le (by omega)];rfl),HBW.o.trans (HBR.o.mono HBW.o.size)⟩
theorem vm(p n o v rank:Int)(lv:Value)(vss:List (List (List Tm)))(w:World)(hs:Wl w lv vss):Calls prog 7 #[az p n o v,.int .i64 rank,lv] w λe w'=>e=.returned (.int .i64 (bQ p n o v rank vss))/\Below w.heap.size w w':=by
 have HS:=aa hs;obtain⟨la,lc,rfl,_⟩:=hs;cases hR:(bo p n o v==0)
 ·have HE:Ic (bQ p n o v rank vss=bo p n o v):=by show _=_;unfold bQ;rw[if_pos (by simpa using hR)]
  rw[HE.o];go_enter func7,ntmps7;go_wp2_with (go_at_call 24;refine(tj _ _ _ _ _).mono ?_;rintro e w1 ⟨rfl,hb1⟩;have HB1:=aa (show Below w.heap.size w w1 from bp.trans (hb1.mono (by simp)));clear hb1);go_ret;exact⟨rfl,HB1.o⟩
 ·have hR0:bo p n o v=0:=by simpa using hR
  have HR:=aa hR0;have HE:Ic (bQ p n o v rank vss=gf p n o rank vss):=by show _=_;unfold bQ;rw[if_neg (by simpa using hR0)]
  rw[HE.o];clear hR0;go_enter func7,ntmps7;go_wp2_with fail;refine(tj _ _ _ _ _).mono ?_;rw[HR.o];rintro e w1 ⟨rfl,hb1⟩;have HB1:=aa (show Below w.heap.size w w1 from bp.trans (hb1.mono (by simp)));obtain⟨_,bx0,bx1,bx2,bx3⟩:=(aX.new w p n o v 23).below hb1;clear hb1;go_wp2_with fail;refine(FV p n o v rank _ vss _ HR.o (HS.o.below HB1.o)).mono ?_;rintro e w2 ⟨rfl,hb2⟩;have HB2:=aa (HB1.o.trans (hb2.mono HB1.o.size));clear hb2;go_wp2;go_ret;exact⟨rfl,HB2.o⟩
theorem de{α:Type}(l:List (List α))(k:Nat)(h:k<l.length):l.getD k []∈l:=by rw[Hs,Ht h];simp
def dX(v:List (List Tm)):Bool:=v.any gB
theorem FW(cf:FuncId)(hcf:cf=21\/cf=76)(T:List Tm->Bool)(Ok:List Tm->Prop)(hcl:∀(u:Value) f (W:World),Pl W u f->Ok f->Calls prog cf #[u] W λe w'=>e=.returned (.bool (T f))/\w'=W)(cb:Nat)(v:Value)(fs:List (List Tm))(w:World)(hcb:w.cell? ⟨cb,0,none⟩=some (.func (.func cf) #[] #[]))(hv:Vl w v fs)(hn:fs.length<=1000000)(hok:∀f∈fs,Ok f):Calls prog 54 #[v,.pointer (some ⟨cb,0,none⟩)] w λe w'=>e=.returned (.bool (gG T fs))/\w'=w:=by have HC:=aa (E6 cf hcf T Ok hcl v fs w hv hn hok);obtain⟨xa,xc,rfl,_⟩:=hv;unfold gG;generalize fs.any T=r at HC⊢;clear hok hcl;go_enter func54,ntmps54;go_wp2_with (go_at_call 55;refine HC.o.mono ?_;rintro e w9 ⟨rfl,rfl⟩);go_ret;exact⟨rfl,rfl⟩
theorem FY(cf:FuncId)(hcf:cf=21\/cf=76)(T:List Tm->Bool)(Ok:List Tm->Prop)(hcl:∀(u:Value) f (W:World),Pl W u f->Ok f->Calls prog cf #[u] W λe w'=>e=.returned (.bool (T f))/\w'=W)(cb:Nat)(v:Value)(vss:List (List (List Tm)))(w:World)(hcb:w.cell? ⟨cb,0,none⟩=some (.func (.func cf) #[] #[]))(hv:Wl w v vss)(hn:vss.length<=1000000)(hok:∀f∈vss,f.length<=1000000/\∀g∈f,Ok g):Calls prog 94 #[v,.func (.func 54) #[] #[.pointer (some ⟨cb,0,none⟩)]] w λe w'=>∃r:Int,e=.returned (.int .i64 r)∧-1<=r/\(decide (0<=r)=vss.any (gG T))/\w'=w:=by
 have HOK:=aa hok;have HCL:=aa hcl;obtain⟨xa,xc,rfl,hp⟩:=hv;have HP:=aa hp;clear hok hp hcl;go_enter func94,ntmps94;go_wp2_with fail;go_loopw [8] (λi wr=>∃m:Nat,m<=vss.length/\i=.int .i64 m/\(∀j (h:j<vss.length),j<m->(gG T) vss[j]=false)/\wr=w) (λi _=>vss.length-(intOf i).toNat);case atStart=>exact⟨0,Hl _,rfl,λj _ h=>by omega,rfl⟩
 case round=>
  obtain⟨m,hm,rfl,hno,rfl⟩:=hrel;have HNO:=aa hno;clear hno;by_cases hm2:m<vss.length
  ·obtain⟨b,off,rfl,hlt,hpl⟩:=HP.o (by omega);obtain⟨u,hu,hpu⟩:=hpl m hm2;have e:vss.getD m []=vss[m]:=by rw[Hs,Ht hm2];rfl
   rw[e] at hpu;have hk:=HOK.o vss[m] (Hp hm2);have HC:=aa (FW cf hcf T Ok HCL.o cb u vss[m] _ hcb hpu hk.1 hk.2);obtain⟨ua,uc,rfl,_⟩:=hpu;have HFI:Ic ((gG T) vss[m]=true->decide ((0:Int)<=(m:Int))=vss.any (gG T)):=λh=>by show _=_;rw[List.any_eq_true.2 ⟨vss[m],Hp hm2,h⟩];simp
   have HNX:Ic ((gG T) vss[m]=false->∀j (h:j<vss.length),j<m+1->(gG T) vss[j]=false):=λh j hj hjm=>by
    rcases Nat.lt_succ_iff_lt_or_eq.1 hjm with h2|rfl
    ·exact HNO.o j hj h2
    ·exact h
   clear hpl hk e;generalize vss[m]=f at HC HFI HNX hu;cases hh:(gG T) f with
   |false=>
    rw[hh] at HC;have HN:=aa (HNX.o hh);clear hh HNX HFI;go_wp2_with (go_at_call 54;refine HC.o.mono ?_;rintro e w9 ⟨rfl,rfl⟩);go_roundw;case rel=>exact⟨m+1,by omega,by go_num,HN.o,by trivial⟩
    case measure=>simp[intOf];omega
   |true=>rw[hh] at HC;have HN:=aa (HFI.o hh);clear hh HNX HFI;go_wp2_with (go_at_call 54;refine HC.o.mono ?_;rintro e w9 ⟨rfl,rfl⟩);go_ret;exact⟨m,rfl,by omega,HN.o,rfl⟩
  ·have e:m=vss.length:=by omega
   subst e;have HE:Ic (decide ((0:Int)≤-1)=vss.any (gG T)):=by
    show _=_;rw[List.any_eq_false.2 λf hf=>by
     obtain⟨j,hj,rfl⟩:=List.getElem_of_mem hf;simp[HNO.o j hj hj]]
    rfl
   go_wp2;go_ret;exact⟨-1,rfl,by omega,HE.o,rfl⟩
theorem FZ(cf:FuncId)(hcf:cf=21\/cf=76)(T:List Tm->Bool)(Ok:List Tm->Prop)(hcl:∀(u:Value) f (W:World),Pl W u f->Ok f->Calls prog cf #[u] W λe w'=>e=.returned (.bool (T f))/\w'=W)(cb:Nat)(v:Value)(vss:List (List (List Tm)))(w:World)(hcb:w.cell? ⟨cb,0,none⟩=some (.func (.func cf) #[] #[]))(hv:Wl w v vss)(hn:vss.length<=1000000)(hok:∀f∈vss,f.length<=1000000/\∀g∈f,Ok g):Calls prog 53 #[v,.func (.func 54) #[] #[.pointer (some ⟨cb,0,none⟩)]] w λe w'=>e=.returned (.bool (vss.any (gG T)))/\w'=w:=by have HIX:=aa (FY cf hcf T Ok hcl cb v vss w hcb hv hn hok);obtain⟨xa,xc,rfl,_⟩:=hv;clear hok hcb hcl;go_enter func53,ntmps53;go_wp2_with (go_at_call 94;refine HIX.o.mono ?_;rintro e w9 ⟨r9,rfl,h1,h2,rfl⟩;have H2:=aa h2;clear h2);go_ret;exact⟨by rw[<-H2.o];rfl,rfl⟩
theorem vH(cf:FuncId)(hcf:cf=21\/cf=76)(T:List Tm->Bool)(Ok:List Tm->Prop)(hcl:∀(u:Value) f (W:World),Pl W u f->Ok f->Calls prog cf #[u] W λe w'=>e=.returned (.bool (T f))/\w'=W)(v:Value)(vss:List (List (List Tm)))(w:World)(hv:Wl w v vss)(hn:vss.length<=1000000)(hok:∀f∈vss,f.length<=1000000/\∀g∈f,Ok g):Calls prog 20 #[v,.func (.func cf) #[] #[]] w λe w'=>e=.returned (.bool (vss.any (gG T)))/\Below w.heap.size w w':=by
 obtain⟨w1,hw1⟩:∃w1,w1=w.alloc (.cells #[.func (.func cf) #[] #[]] 50):=⟨_,rfl⟩;have HB1:Ic (Below w.heap.size w w1):=by rw[hw1];exact af
 have hc1:w1.cell? ⟨w.heap.size,0,none⟩=some (.func (.func cf) #[] #[]):=by rw[hw1];simp[go_sem]
 have HC:=aa (FZ cf hcf T Ok hcl w.heap.size v vss w1 hc1 (hv.below HB1.o) hn hok);obtain⟨xa,xc,rfl,_⟩:=hv;generalize vss.any (gG T)=r at HC⊢;clear hok hc1 hcl;go_enter func20,ntmps20;go_upto_region 1 with fail;rw[<-hw1];clear hw1;go_wp2_with (go_at_call 53;refine HC.o.mono ?_;rintro e w9 ⟨rfl,rfl⟩);go_ret;exact⟨rfl,HB1.o⟩
theorem vD(v:Value)(vss:List (List (List Tm)))(w:World)(hv:Wl w v vss)(hn:vss.length<=1000000)(hok:∀f∈vss,f.length<=1000000/\∀g∈f,lA g):Calls prog 20 #[v,.func (.func 21) #[] #[]] w λe w'=>e=.returned (.bool (vss.any dX))/\Below w.heap.size w w':=
 vH _ (Or.inl rfl) gB lA (λu f W h1 h2=>E4 u f W h1 h2.1 h2.2) v vss w hv hn hok
end Go.Proofs.YtglijodcbdcngaaGreat
