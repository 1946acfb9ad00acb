/- hilbert.Numerator. -/
import Derived.Test.YteimdcndjjclnaaGreatMV
set_option maxHeartbeats 4000000
set_option maxRecDepth 100000
namespace Go.Proofs.YteimdcndjjclnaaGreat
set_option linter.all false
open Go.Proofs.Tryz Go.RowKit
def AJ:Value->Nat
 | .slice _ n _=>n
 |_=>0
theorem G3(p n o v:Int)(dv lv:Value)(ds:List Int)(vss:List (List (List Tm)))(w:World)(hds:Sl w dv ds)(hs:Wl w lv vss)(hev:(cM p n o v ds vss !=0)=true):Calls prog 12 #[aT p n o v,dv,lv] w λe w'=>e=.returned (.tuple #[.slice none 0 0,.int .i64 (cM p n o v ds vss)])/\Below w.heap.size w w':=by
 obtain⟨w1,hw1⟩:∃w1,w1=w.alloc (.cells #[.int .i64 p,.int .i64 n,.int .i64 o,.int .i64 v] 23):=⟨_,rfl⟩;have hbx:bE w1 w.heap.size p n o v:=by rw[hw1];exact bE.new w p n o v _
 have HBW:Ma (Below w.heap.size w w1):=by rw[hw1];exact bv
 have HCV:=ac (qM p n o v dv lv ds vss w1 (hds.below HBW.o) (hs.below HBW.o));obtain⟨la,lc,rfl,_⟩:=hs;obtain⟨da,dc,rfl,_⟩:=hds;have HRV:Ma (aT p n o v=.agg #[.int .i64 p,.int .i64 n,.int .i64 o,.int .i64 v]):=rfl;rw[HRV.o] at HCV;rw[HRV.o];obtain⟨_,bx0,bx1,bx2,bx3⟩:=hbx;go_enter func12,ntmps12;go_upto_region 1 with fail;rw[<-hw1];clear hw1;go_wp2_with (go_at_call 8;refine HCV.o.mono ?_;rintro e w2 ⟨rfl,q1⟩;have HB2:=ac q1;clear q1);go_ret2;exact⟨rfl,HBW.o.trans (HB2.o.mono HBW.o.size)⟩
theorem zK(p n o v:Int)(dv lv:Value)(ds:List Int)(vss:List (List (List Tm)))(w:World)(hds:Sl w dv ds)(hs:Wl w lv vss)(hz:cM p n o v ds vss=0)(N:Nat)(hC:jH p n o v ds vss N):Calls prog 12 #[aT p n o v,dv,lv] w λe w'=>∃s L m,e=.returned (.tuple #[s,.int .i64 0])/\kS p N ds vss L/\m<=L+1/\(∀j,m<=j->j<=L->aR (λj=>cL p o N ds vss j) N j=0)/\(m=0\/aR (λj=>cL p o N ds vss j) N (m-1)≠0)/\Sl w' s ((List.range m).map (aR (λj=>cL p o N ds vss j) N))/\Below w.heap.size w w':=by
 have HC:=ac hC;have HS:=ac hs;have HD:=ac hds;have hnN:=hC.hn;subst hnN;have hN3:N<=3:=by rcases hC.nn with h|h|h<;>omega
 obtain⟨w1,hw1⟩:∃w1,w1=w.alloc (.cells #[.int .i64 p,.int .i64 N,.int .i64 o,.int .i64 v] 23):=⟨_,rfl⟩;have hbx:bE w1 w.heap.size p N o v:=by rw[hw1];exact bE.new w p N o v _
 have HBW:Ma (Below w.heap.size w w1):=by rw[hw1];exact bv
 have HCV:=ac (qM p N o v dv lv ds vss w1 (hds.below HBW.o) (hs.below HBW.o));rw[hz] at HCV;clear hz hC;have HNO:Ma (∀W,Below w.heap.size w W->_):=λW hW=>II p o v N N dv lv ds vss W HC.o (HD.o.below hW) (HS.o.below hW);obtain⟨la,lc,rfl,_⟩:=hs;obtain⟨da,dc,rfl,_⟩:=hds;have HRV:Ma (aT p N o v=.agg #[.int .i64 p,.int .i64 N,.int .i64 o,.int .i64 v]):=rfl;rw[HRV.o] at HCV HNO;rw[HRV.o];obtain⟨_,bx0,bx1,bx2,bx3⟩:=hbx;generalize hF:(λj:Nat=>cL p o N ds vss (j:Int))=F;go_enter func12,ntmps12;go_upto_region 1 with fail;rw[<-hw1];clear hw1;go_upto_region 4 with (go_at_call 8;refine HCV.o.mono ?_;rintro e w2 ⟨rfl,q1⟩;have HB2:=ac q1;clear q1);have y0:=ae bx0 HB2.o;have y1:=ae bx1 HB2.o;have y2:=ae bx2 HB2.o;have y3:=ae bx3 HB2.o;have HW2:Ma (Below w.heap.size w w2):=HBW.o.trans (HB2.o.mono HBW.o.size);have HNO2:=ac (HNO.o w2 HW2.o);clear bx0 bx1 bx2 bx3 HNO HCV;go_upto_region 5 with (go_at_call 13;refine HNO2.o.mono ?_;rintro e w3 ⟨b,L,rfl,q1,q2,q3,q4,q5⟩;have HB3:=ac q1;have hL:=q2;have HNP:=ac q3;have HLA:=ac q4;have HCT:=ac q5;clear q1 q2 q3 q4 q5);clear HNO2;have HL1:=ac (HLA.o w3 (Lf _ _));have z1:=ae y1 HB3.o;clear y0 y1 y2 y3 HLA;have HFB:Ma (∀j,j<=2709->0<=F j/\F j<=768096003):=λj hj=>by rw[<-hF];exact t7 HC.o HNP.o j hj
 have HCF:Ma (∀W,Below w3.heap.size w3 W->∀j:Nat,j<=L->Calls prog 14 #[.pointer (some ⟨b,0,none⟩),.int .i64 (j:Nat)] W λe W'=>e=.returned (.int .i64 (F j))/\Below W.heap.size W W'):=by unfold Ma;rw[<-hF];exact HCT.o
 clear HCT hF;have hmk:∀W:World,(Instr.makeSlice 24 (.int .i64 ((L:Int)+1)) (.int .i64 ((L:Int)+1))).run prog W=.ok (.slice (some ⟨W.heap.size,0,none⟩) (L+1) (L+1)) (W.alloc (.cells (madeCells #[.int .i64 0] (L+1)) 3)):=λW=>run_make_row' (P:=prog) 24 3 (.int .i64 0) 8 underlying24 Tryz.infoIntM rfl .i64 .i64 (L+1) (by omega) (by omega) W;go_upto_region 6 with (go_at_call 29;refine HL1.o.mono ?_;rintro e w4 ⟨rfl,q1⟩;have HB4:=ac q1;clear q1);obtain⟨w5,hw5⟩:∃w5,w5=w4.alloc (.cells (madeCells #[.int .i64 0] (L+1)) 3):=⟨_,rfl⟩;have HB5:Ma (Below w4.heap.size w4 w5):=by rw[hw5];exact aj
 have HI5:Ma (cr w5 w4.heap.size (L+1) (λ_=>0)):=by rw[hw5];exact cr.new w4 _
 rw[<-hw5];clear hw5 hmk;have z2:=ae z1 HB4.o;have HW4:Ma (Below w.heap.size w w4):=HW2.o.trans ((HB3.o.trans (HB4.o.mono HB3.o.size)).mono HW2.o.size);clear z1;go_wp2_with fail;go_loopw [30] (λi wr=>∃k:Nat,k<=L+1/\i=.int .i64 k/\cr wr w4.heap.size (L+1) (l8 F k)/\Below w4.heap.size w4 wr) (λi _=>L+1-(intOf i).toNat);case atStart=>exact⟨0,Ll _,rfl,HI5.o.ext λj hj=>by simp[l8],HB5.o⟩
 case round=>
  obtain⟨k,hk,rfl,hI,hbr⟩:=hrel;have HI:=ac hI;have HBR:=ac hbr;clear hI hbr;by_cases hk2:k<L+1
  .have HC1:=ac (HCF.o wr (HB4.o.trans (HBR.o.mono HB4.o.size)) k (by omega));have hkI:(k:Int)<(L:Int)+1:=by omega
   go_wp2_with (go_at_call 14;refine HC1.o.mono ?_;rintro e w9 ⟨rfl,q1⟩;have HB9:=ac q1;have H9:=ac (HI.o.keep q1);have g0:=H9.o.fr k;have g1:=H9.o.at hk2;clear q1);go_roundw;case rel=>exact⟨k+1,by omega,by go_num,(H9.o.put hk2 (F k)).eq (IF F k),(HBR.o.trans (HB9.o.mono HBR.o.size)).setCell (p:=⟨w4.heap.size,k,none⟩) (Lc _) _⟩
   case measure=>simp[intOf];omega
  .have hke:k=L+1:=by omega
   subst hke;have HIG:Ma (cr wr w4.heap.size (L+1) (ip L F)):=HI.o.eq (IG F L);have HGB:Ma (∀j,-768096003<=ip L F j/\ip L F j<=768096003):=λj=>by
    unfold ip;by_cases h:j<=L
    .rw[LI h];have:=HFB.o j (by omega);omega
    .rw[LH h];decide
   have HDC:Ma (∀k j,j<=L->aR (ip L F) k j=aR F k j):=zI L F;generalize ip L F=G at HIG HGB HDC;have z3:=ae z2 HBR.o;clear HI HI5 HB5;go_wp2_with fail;go_loopw [42] (λi wp=>∃k:Nat,k<=N/\i=.int .i64 k/\cr wp w4.heap.size (L+1) (aR G k)/\Below w4.heap.size w4 wp) (λi _=>N-(intOf i).toNat);case atStart=>exact⟨0,Ll _,rfl,HIG.o,HBR.o⟩
   case round=>
    rename World=>wp;obtain⟨k,hk,rfl,hI,hbr⟩:=hrel;have HI:=ac hI;have HBP:=ac hbr;clear hI hbr;by_cases hk2:k<N
    .have hkI:(k:Int)<(N:Int):=by omega
     have HFK:Ma (∀j,-3072384012<=aR G k j/\aR G k j<=3072384012):=by
      have h2:k=0\/k=1\/k=2:=by omega
      intro j;rcases h2 with rfl|rfl|rfl
      .have:=HGB.o j;simp only[aR];omega
      .have:=mV (B:=768096003) (by decide) HGB.o j;simp only[aR];omega
      .have:=mV (B:=2*768096003) (by decide) (mV (B:=768096003) (by decide) HGB.o) j;simp only[aR];omega
     have HST:Ma (aR G (k+1)=ck (aR G k)):=rfl;generalize aR G k=f at HI HFK HST;go_wp2_with fail;go_loopw [12] (λd wq=>∃j:Nat,j<=L/\d=.int .i64 j/\cr wq w4.heap.size (L+1) (iu f j)/\Below w4.heap.size w4 wq) (λd _=>(intOf d).toNat);case atStart=>exact⟨L,Lc _,by go_num,HI.o.ext λj hj=>(IE f (Lc _) j hj).symm,HBP.o⟩
     case round=>
      rename World=>wq;obtain⟨j,hj,rfl,hI,hbr⟩:=hrel;have HJ:=ac hI;have HBQ:=ac hbr;clear hI hbr;by_cases hj0:j=0
      .subst hj0;go_wp2_with fail;go_roundw;case rel=>exact⟨k+1,by omega,by go_num,HJ.o.eq HST.o.symm,HBQ.o⟩
       case measure=>simp[intOf];omega
      .obtain⟨i,rfl⟩:∃i,j=i+1:=⟨j-1,by omega⟩;have hiI:0<(i:Int)+1:=by omega
       have c0:=HJ.o.at (show i<L+1 by omega);have c1:=HJ.o.at (show i+1<L+1 by omega);have f1:=HJ.o.fr (i+1);have b0:iu f (i+1) i=f i:=by unfold iu;rw[LH (by omega)]
       have b1:iu f (i+1) (i+1)=f (i+1):=by unfold iu;rw[LH (by omega)]
       rw[b0] at c0;rw[b1] at c1;have HE:Ma (cr (wq.setCell ⟨w4.heap.size,i+1,none⟩ (.int .i64 (f (i+1)-f i))) w4.heap.size (L+1) (iu f i)):=by have h:=HJ.o.put (show i+1<L+1 by omega) (f (i+1)-f i);rw[<-b0,<-b1] at h;have h2:=h.eq (ID f (d:=i+1) (by omega));rw[b0,b1] at h2;exact h2
       have hf0:=HFK.o i;have hf1:=HFK.o (i+1);generalize f i=x0 at c0 HE hf0;generalize f (i+1)=x1 at c1 HE hf1;clear b0 b1;have hwr:IntKind.i64.wrap (x1-x0)=x1-x0:=qJ (by omega) (by omega);go_upto_region 16 with fail;go_region;all_goals
        go_wp2_with fail;go_roundw;case rel=>exact⟨i,by omega,by go_num,HE.o,(HBQ.o.setCell (p:=⟨w4.heap.size,i+1,none⟩) (Lc _) _).drew⟩
        case measure=>simp[intOf]
    .have hke:k=N:=by omega
     subst hke;have HRS:Ma (∀j,j<=L->aR G k j=aR F k j):=λj hj=>HDC.o k j hj;generalize aR G k=f at HI HRS;go_wp2_with fail;go_loopw [10] (λs wt=>∃m:Nat,m<=L+1/\s=.slice (some ⟨w4.heap.size,0,none⟩) m (L+1)/\(∀j,m<=j->j<=L->f j=0)/\cr wt w4.heap.size (L+1) f/\Below w4.heap.size w4 wt) (λs _=>AJ s);case atStart=>exact⟨L+1,Lc _,rfl,λj h1 h2=>absurd h1 (by omega),HI.o,HBP.o⟩
     case round=>
      rename World=>wt;obtain⟨m,hm,rfl,hz,hI,hbr⟩:=hrel;have HT:=ac hI;have HBT:=ac hbr;have HZ:=ac hz;clear hI hbr hz;by_cases hm0:m=0
      .subst hm0;go_wp2_with fail;go_ret2;refine⟨_,L,0,rfl,HNP.o,Ll _,λj _ h2=>by rw[<-HRS.o j h2];exact HZ.o j (Ll _) h2,L0 rfl,?_,HW4.o.trans (HBT.o.mono HW4.o.size)⟩;rw[show (List.range 0).map (aR F k)=(List.range 0).map f from rfl];exact HT.o.sl (Ll _) _
      .obtain⟨i,rfl⟩:∃i,m=i+1:=⟨m-1,by omega⟩;have hiI:0<(i:Int)+1:=by omega
       have c0:=HT.o.at (show i<L+1 by omega);by_cases hf:f i=0
       .have hcap:i<=L+1:=by omega
        have HZ2:Ma (∀j,i<=j->j<=L->f j=0):=λj h1 h2=>by
         by_cases e:j=i
         .rw[e];exact hf
         .exact HZ.o j (by omega) h2
        rw[hf] at c0;clear hf;go_wp2_with fail;go_roundw;case rel=>exact⟨i,by omega,by go_num,HZ2.o,HT.o,HBT.o⟩
        case measure=>simp[AJ]
       .have HF2:Ma (f i≠0):=hf;have HM:Ma ((List.range (i+1)).map f=(List.range (i+1)).map (aR F k)):=List.map_congr_left λj hj=>HRS.o j (by have:=List.mem_range.1 hj;omega);have hFi:Ma (f i=aR F k i):=HRS.o i (by omega);generalize f i=y at c0 HF2 hFi hf;go_wp2_with fail;go_ret2;refine⟨_,L,i+1,rfl,HNP.o,by omega,λj h1 h2=>by rw[<-HRS.o j h2];exact HZ.o j h1 h2,L3 (by rw[Nat.add_sub_cancel,<-hFi.o];exact HF2.o),?_,HW4.o.trans (HBT.o.mono HW4.o.size)⟩;rw[<-HM.o];exact HT.o.sl hm _
theorem IM{w:World}{f:List Tm}{x:Value}{b c:Nat}(hf:Pl w x f)(hlt:b<w.heap.size)(c0:w.cell? ⟨b,0,none⟩=some x):Vl w (.slice (some ⟨b,0,none⟩) 1 c) [f]:=by
 refine⟨_,c,rfl,λ_=>⟨b,0,rfl,hlt,λi hi=>?_⟩⟩;have e:i=0:=by simp at hi;omega
 subst e;exact⟨x,c0,hf⟩
theorem uD(w:World)(a:Int)(T:TypeId):Sl (w.alloc (.cells #[.int .i64 a] T)) (.slice (some ⟨w.heap.size,0,none⟩) 1 1) [a]:=by
 refine⟨_,1,rfl,λ_=>⟨w.heap.size,0,rfl,by simp,λi hi=>?_⟩⟩;have e:i=0:=by simp at hi;omega
 subst e;simp[go_sem]
theorem uE(w:World):Calls prog 28 #[] w λe w'=>∃a c,e=.returned (.slice a 1 c)/\Wl w' (.slice a 1 c) lH/\Below w.heap.size w w':=by
 go_enter func28,ntmps28;go_wp2_with fail;refine(IN _ _ _ _ _).mono ?_;rintro e w1 ⟨rfl,hb1⟩;have HS1:=ac ((Sl.new2 w 1 0 _).below hb1);have HB1:=ac (show Below w.heap.size w w1 from eN.trans (hb1.mono (by simp)));clear hb1;have HV:Ma (∀T T' T'',Wl (((w1.alloc (.cells #[.int .i64 1,.slice (some ⟨w.heap.size,0,none⟩) 2 2] T)).alloc (.cells #[.slice (some ⟨w1.heap.size,0,none⟩) 1 1] T')).alloc (.cells #[.slice (some ⟨w1.heap.size+1,0,none⟩) 1 1] T'')) (.slice (some ⟨w1.heap.size+2,0,none⟩) 1 1) lH):=λT T' T''=>by have v1:Vl ((w1.alloc (.cells #[.int .i64 1,.slice (some ⟨w.heap.size,0,none⟩) 2 2] T)).alloc (.cells #[.slice (some ⟨w1.heap.size,0,none⟩) 1 1] T')) (.slice (some ⟨w1.heap.size+1,0,none⟩) 1 1) [[(1,[1,0])]]:=IM ((IP HS1.o).below aj) (by simp) (by simp[go_sem]);exact AK (v1.below aj) (by simp) (by simp[go_sem])
 go_wp2;go_ret;exact⟨_,_,rfl,HV.o _ _ _,HB1.o.trans ((oA).mono HB1.o.size)⟩
theorem oP:cM 7 2 1 1 [0] lH=0:=by kernel_rfl
theorem IQ:cL 7 1 2 [0] lH 3=1:=by kernel_rfl
theorem IR(dv lv:Value)(w:World)(hd:Sl w dv [0])(hl:Wl w lv lH):Calls prog 5 #[aT 7 2 1 1,dv,lv,.int .i64 3] w λe w'=>e=.returned (.tuple #[.int .i64 1,.int .i64 0])/\Below w.heap.size w w':=by
 have h:=zN 7 2 1 1 dv lv [0] lH 3 w hd hl (by decide);have e1:jI 7 2 1 1 [0] lH 3=1:=by unfold jI;rw[LH (by rw[oP];decide),LH (by decide)];exact IQ
 have e2:jJ 7 2 1 1 [0] lH 3=0:=by unfold jJ;rw[LH (by rw[oP];decide),LH (by decide)]
 rw[e1,e2] at h;exact h
theorem IS(dv lv:Value)(w:World)(hd:Sl w dv [0])(hl:Wl w lv lH):Calls prog 12 #[aT 7 2 1 1,dv,lv] w λe w'=>∃a c,e=.returned (.tuple #[.slice a 2 c,.int .i64 0])/\Sl w' (.slice a 2 c) [1,-1]/\Below w.heap.size w w':=by
 obtain⟨N,hC⟩:=t8 oP;have hN:N=2:=by have:=hC.hn;omega
 subst hN;refine(zK 7 2 1 1 dv lv [0] lH w hd hl oP 2 hC).mono ?_;rintro e w' ⟨s,L,m,rfl,h1,h2,h3,h4,h5,h6⟩;rw[IL hC h1 h3 h4] at h5;obtain⟨a,c,rfl,h7⟩:=id h5;exact⟨a,c,rfl,h5,h6⟩
theorem IT(w:World):Calls prog 6 #[.int .i64 2,.int .i64 3] w λe w'=>e=.returned (.tuple #[.int .i64 4,.int .i64 0])/\Below w.heap.size w w':=zO 2 3 w (by decide) (by decide)
theorem IU(dv lv:Value)(w:World)(hd:Sl w dv [0])(hl:Wl w lv lH):Calls prog 8 #[aT 7 2 1 1,dv,lv] w λe w'=>e=.returned (.int .i64 0)/\Below w.heap.size w w':=by have h:=qM 7 2 1 1 dv lv [0] lH w hd hl;rw[oP] at h;exact h
theorem IV(x y:Value)(w:World)(hs:Sl w x [1,-1])(hs2:Sl w y [1,-1]):Calls prog 25 #[x,y] w λe w'=>e=.returned (.bool true)/\Below w.heap.size w w':=by refine(E9 x y [1,-1] [1,-1] w (by decide) hs hs2).mono ?_;rintro e w' ⟨rfl,n,rfl⟩;exact⟨rfl,below_drewN (Lf _ _) _⟩
theorem zM(w:World):Calls prog 11 #[] w λe w'=>e=.returned (.bool true)/\Below w.heap.size w w':=by go_enter func11,ntmps11;go_wp2_with fail;refine(tw _).mono ?_;rintro e w1 ⟨rfl,hb1⟩;have HB1:=ac hb1;clear hb1;go_wp2_with fail;refine(uE _).mono ?_;rintro e w2 ⟨a2,c2,rfl,q1,q2⟩;have HB2:=ac (HB1.o.trans ((eN.trans (q2.mono eN.size)).mono HB1.o.size));have HC2:=ac (IR _ _ w2 ((uD w1 0 _).below q2) q1);clear q1 q2;go_wp2_with fail;refine HC2.o.mono ?_;rintro e w3 ⟨rfl,q1⟩;have HB3:=ac (HB2.o.trans (q1.mono HB2.o.size));clear q1 HC2;go_wp2_with fail;refine(tw _).mono ?_;rintro e w4 ⟨rfl,q1⟩;have HB4:=ac (HB3.o.trans (q1.mono HB3.o.size));clear q1;go_wp2_with fail;refine(uE _).mono ?_;rintro e w5 ⟨a5,c5,rfl,q1,q2⟩;have HB5:=ac (HB4.o.trans ((eN.trans (q2.mono eN.size)).mono HB4.o.size));have HC5:=ac (IS _ _ w5 ((uD w4 0 _).below q2) q1);clear q1 q2;go_wp2_with fail;refine HC5.o.mono ?_;rintro e w6 ⟨na,nc,rfl,q0,q1⟩;have HB6:=ac (HB5.o.trans (q1.mono HB5.o.size));have HN6:=ac q0;clear q0 q1 HC5;go_wp2_with fail;refine(IT _).mono ?_;rintro e w7 ⟨rfl,q1⟩;have HB7:=ac (HB6.o.trans (q1.mono HB6.o.size));have HN7:=ac (HN6.o.below q1);clear q1 HN6;go_wp2_with fail;refine(IV _ _ _ (HN7.o.below aj) (Sl.new2 w7 1 (-1) _)).mono ?_;rintro e w8 ⟨rfl,q1⟩;have HB8:=ac (HB7.o.trans ((eN.trans (q1.mono eN.size)).mono HB7.o.size));clear q1;go_wp2_with fail;refine(tw _).mono ?_;rintro e w9 ⟨rfl,q1⟩;have HB9:=ac (HB8.o.trans (q1.mono HB8.o.size));clear q1;go_wp2_with fail;refine(uE _).mono ?_;rintro e wa ⟨aa,ca,rfl,q1,q2⟩;have HBa:=ac (HB9.o.trans ((eN.trans (q2.mono eN.size)).mono HB9.o.size));have HCa:=ac (IU _ _ wa ((uD w9 0 _).below q2) q1);clear q1 q2;go_wp2_with fail;refine HCa.o.mono ?_;rintro e wb ⟨rfl,q1⟩;have HBb:=ac (HBa.o.trans (q1.mono HBa.o.size));clear q1 HCa;go_wp2;go_ret;exact⟨rfl,HBb.o⟩
end Go.Proofs.YteimdcndjjclnaaGreat
